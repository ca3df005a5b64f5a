import Derived.Test.YtfgffajgfgifhaaGreatDoorJ45
import Derived.Deep.RegionHeld
namespace Go.Proofs.YtfgffajgfgifhaaGreatDoor
set_option maxRecDepth 100000
set_option maxHeartbeats 8000000
open Go.RowKit
def S6 (fb R : Nat) (i c0 c1 c2 c3 c4 : Value) (u : World) : Prop := u.cell? ⟨fb, 1, none⟩ = some i ∧ u.cell? ⟨R, 0, none⟩ = some c0 ∧ u.cell? ⟨R, 1, none⟩ = some c1 ∧ u.cell? ⟨R, 2, none⟩ = some c2 ∧ u.cell? ⟨R, 3, none⟩ = some c3 ∧ u.cell? ⟨R, 4, none⟩ = some c4
theorem step_ins (w : World) (K : Nat → Prop) (a : Nat) (G : Nat → Prop) (r : Nat) (k : Int) (n : Nat) (s : Qs) (hP : Pr w K a G r k n s) (hn : pw n) (kp : Value) (I : Int) (c : Cl) (ka va : Option Addr) (kc vc : Nat) (hk : Sl w ka c.key.length kc c.key) (hv : Sl w va c.val.length vc c.val) (fk : OutK (fun b => K b ∨ b = r) ka c.key.length) (fv : OutK (fun b => K b ∨ b = r) va c.val.length) (hl : c.key.length ≤ 140737488351232 ∧ c.val.length ≤ 140737488351232) (qa : Option Addr) (qn qc : Nat) :
  Calls Tryz.prog 8 #[kp, .pointer (some ⟨a, 0, none⟩), .pointer (some ⟨r, 0, none⟩), .agg #[.int .i64 1, .int .i64 I, .slice ka c.key.length kc, .int .i64 c.kd, .slice va c.val.length vc, .int .i64 c.pg, .int .i64 c.ct, .slice qa qn qc]] w (StepTo K a G r k n w) := by
 have hkl := hP.our.kl
 have hrl := hP.doc.rl
 obtain ⟨x, hx⟩ : ∃ x, w.alloc (.cells #[.int .i64 1, .int .i64 I, .slice ka c.key.length kc, .int .i64 c.kd, .slice va c.val.length vc, .int .i64 c.pg, .int .i64 c.ct, .slice qa qn qc] 41) = x := ⟨_, rfl⟩
 have hbx : Below w.heap.size w x := by rw [← hx]; exact zac Br Lr _
 have HO8 : Hid (O8 x w.heap.size (.int .i64 1) (.int .i64 I) (.slice ka c.key.length kc) (.int .i64 c.kd) (.slice va c.val.length vc) (.int .i64 c.pg) (.int .i64 c.ct) (.slice qa qn qc)) := zaa (by rw [← hx]; exact O8.box _ _ _ _ _ _ _ _ _)
 obtain ⟨y, hy⟩ : ∃ y, x.alloc (.cells #[.slice ka c.key.length kc, .int .i64 c.kd, .slice va c.val.length vc, .int .i64 c.pg, .int .i64 c.ct] 39) = y := ⟨_, rfl⟩
 have hby : Below x.heap.size x y := by rw [← hy]; exact zac Br Lr _
 have HC5 : Hid (C5 y x.heap.size (.slice ka c.key.length kc) (.int .i64 c.kd) (.slice va c.val.length vc) (.int .i64 c.pg) (.int .i64 c.ct)) := zaa (by rw [← hy]; exact C5.box _ _ _ _ _ _)
 have hwy := zab hbx Lr hby
 have HSZ : Hid (x.heap.size = w.heap.size + 1 ∧ y.heap.size = w.heap.size + 2) := zaa (by rw [← hy, ← hx]; simp)
 have HKV : Hid (Sl w ka c.key.length kc c.key ∧ Sl w va c.val.length vc c.val) := zaa ⟨hk, hv⟩
 have HLE := zaa (lentC_any (some ⟨x.heap.size, 0, none⟩) 1 1 [c] y (HC5.out.one (hk.on Lr hwy) (hv.on Lr hwy)) (by omega))
 have HP := zaa hP
 have HWY := zaa hwy
 have HN := zaa hn
 have HL := zaa hl
 have HFK := zaa (And.intro fk fv)
 have HKL := zaa hkl
 have HRL := zaa hrl
 obtain ⟨o0, o1, o2, o3, o4, o5, o6, o7⟩ := HO8.out.cells
 have HO8Y := zaa (show O8 y w.heap.size _ _ _ _ _ _ _ _ from zaf HO8.out hby)
 obtain ⟨s0, s1, s2, s3, s4, s5, s6, s7⟩ := HO8Y.out.cells
 clear hP hn hk hv fk fv hl hbx hby hwy hkl hrl
 go_enter Tryz.func8, Tryz.ntmps8
 go_wp2_with (go_at_call 30; refine HLE.out.mono ?_; rintro e u ⟨rfl, HLC, HBU⟩; refine Hid.out ?_)
 apply zaa
 obtain ⟨R, hR⟩ : ∃ R, y.heap.size = R := ⟨_, rfl⟩
 rw [hR] at HLC ⊢
 have HRE := zaa hR
 obtain ⟨g, hLn, hRow, m7, m8⟩ := HLC.out
 obtain ⟨a0, a1, a2, a3, a4, a5, a6⟩ := hLn.at_ 0 c Lr (by omega) rfl
 simp only [Nat.zero_mul, Nat.mul_zero, Nat.zero_add] at a0 a1 a2 a3 a4 a5 a6
 obtain ⟨g0, hg0⟩ : ∃ g0, g 0 = g0 := ⟨_, rfl⟩
 obtain ⟨g1, hg1⟩ : ∃ g1, g 1 = g1 := ⟨_, rfl⟩
 rw [hg0] at a0 a5
 rw [hg1] at a2 a6
 have HG : Hid (R < g0 ∧ R < g1 ∧ g0 < u.heap.size ∧ g1 < u.heap.size ∧ g 0 = g0 ∧ g 1 = g1) := zaa ⟨by rw [← hg0]; exact hLn.gt 0 (by omega), by rw [← hg1]; exact hLn.gt 1 (by omega), by rw [← hg0]; exact hLn.lt 0 (by omega), by rw [← hg1]; exact hLn.lt 1 (by omega), hg0, hg1⟩
 have HLN := zaa hLn
 have HRW := zaa (And.intro hRow (And.intro m7 m8))
 have HWU := zaa (zab HWY.out Lr HBU.out)
 have HKL2 : Hid (Sl u (some ⟨g0, 0, none⟩) c.key.length (c.key.length + 3) c.key ∧ Sl u (some ⟨g1, 0, none⟩) c.val.length (c.val.length + 3) c.val) := zaa ⟨own_lent a5 HKV.out.1.wf (by have := HL.out; omega), own_lent a6 HKV.out.2.wf (by have := HL.out; omega)⟩
 have HIN : Hid (∀ v, Below u.heap.size u v → Calls Tryz.prog 10 #[.pointer (some ⟨a, 0, none⟩), .int .i64 I, .agg #[.slice (some ⟨g0, 0, none⟩) c.key.length (c.key.length + 3), .int .i64 c.kd, .slice (some ⟨g1, 0, none⟩) c.val.length (c.val.length + 3), .int .i64 c.pg, .int .i64 c.ct]] v fun e w' => ∃ code, e = .returned (.int .i64 code) ∧ Hid (∃ t, InsR k n s I c code t ∧ Pk w' (Zk K u w') a k n t ∧ Cf K u w')) := zaa fun v hv => by
  have h0 := HWU.out.size
  have h1 := HRE.out
  have h2 := HSZ.out
  have h3 := HG.out
  have hof : ∀ b, K b → b < w.heap.size := HKL.out
  refine (insertQ_any v K a k n s ((HP.out.our.go HWU.out).go hv) I HN.out c _ _ _ _ (HKL2.out.1.on Lr hv) (HKL2.out.2.on Lr hv) (.inr fun p hp e => ?_) (.inr fun p hp e => ?_)).mono ?_
  ·injection hp with hp
   subst hp
   have := hof _ e
   simp only at this
   omega
  ·injection hp with hp
   subst hp
   have := hof _ e
   simp only at this
   omega
  ·rintro e w' ⟨code, t, rfl, HR, HPk, HC⟩
   exact ⟨code, rfl, zaa ⟨t, HR.out, HPk.out.wide (Zk.from hv.size) (Zk.lt (fun b e => zO (hof b e) (zN h0 (zN hv.size HC.out.size))) Lr), (Cf.of_below hv).go HC.out⟩⟩
 have HOU := zaa (show O8 u w.heap.size _ _ _ _ _ _ _ _ from zaf HO8Y.out HBU.out)
 obtain ⟨p0, p1, p2, p3, p4, p5, p6, p7⟩ := HOU.out.cells
 obtain ⟨kn, hkn⟩ : ∃ kn, c.key.length = kn := ⟨_, rfl⟩
 obtain ⟨vn, hvn⟩ : ∃ vn, c.val.length = vn := ⟨_, rfl⟩
 have HKN := zaa (And.intro hkn hvn)
 rw [hkn] at a0 HIN p2
 rw [hvn] at a2 HIN p4
 rw [hkn, hvn]
 clear a5 a6 hLn hRow m7 m8 hg0 hg1 HLE hR o0 o1 o2 o3 o4 o5 o6 o7 s0 s1 s2 s3 s4 s5 s6 s7 hx hy hkn hvn
 have HNK0 : Hid (∀ b, w.heap.size ≤ b → ¬ K b) := zaa fun b hb e => by have := HKL.out b e; omega
 have HRU : Hid (w.heap.size ≤ R ∧ R < u.heap.size ∧ w.heap.size < u.heap.size) := zaa (by
  have h1 := HRE.out
  have h2 := HSZ.out
  have h3 := HG.out
  exact ⟨by omega, by omega, by omega⟩)
 have HSF : Hid (∀ v, Cf K u v → S6 w.heap.size R (.int .i64 I) (.slice (some ⟨g0, 0, none⟩) kn (kn + 3)) (.int .i64 c.kd) (.slice (some ⟨g1, 0, none⟩) vn (vn + 3)) (.int .i64 c.pg) (.int .i64 c.ct) v) := zaa fun v hv => by
  have h1 := HRU.out
  have e1 := hv.block w.heap.size h1.2.2 (HNK0.out _ Lr)
  have e2 := hv.block R h1.2.1 (HNK0.out _ h1.1)
  have f : ∀ {b i : Nat} {x : Value}, v.heap[b]? = u.heap[b]? → u.cell? ⟨b, i, none⟩ = some x → v.cell? ⟨b, i, none⟩ = some x := fun {b i x} e h => by rw [← h]; simp only [World.cell?, e]
  exact ⟨f e1 p1, f e2 a0, f e2 a1, f e2 a2, f e2 a3, f e2 a4⟩
 go_upto_region 5 with fail
 clear p0 p1 p2 p3 p4 p5 p6 p7 a0 a1 a2 a3 a4
 refine wp_region_held_drew (S := S6 w.heap.size R (.int .i64 I) (.slice (some ⟨g0, 0, none⟩) kn (kn + 3)) (.int .i64 c.kd) (.slice (some ⟨g1, 0, none⟩) vn (vn + 3)) (.int .i64 c.pg) (.int .i64 c.ct)) (by kernel_rfl) (HSF.out _ (Cf.of_below Br.drew)) (fun hHeld => ?_)
 refine zT (i := 0) (v := ?_) rfl ?_ (fun _ _ _ h => h) ?_
 rotate_left
 ·(rintro w ⟨s0, s1, s2, s3, s4, s5⟩; go_simp; try with_reducible rfl)
 try simp only [Act.put, zA, zC, zD, zE, zF]
 refine zT (i := 1) (v := ?_) rfl ?_ (fun _ _ _ h => h) ?_
 rotate_left
 ·(rintro w ⟨s0, s1, s2, s3, s4, s5⟩; go_simp; try with_reducible rfl)
 try simp only [Act.put, zA, zB, zC, zD, zE, zF]
 refine zT (i := 2) (v := ?_) rfl ?_ (fun _ _ _ h => h) ?_
 rotate_left
 ·(rintro w ⟨s0, s1, s2, s3, s4, s5⟩; go_simp; try with_reducible rfl)
 try simp only [Act.put, zA, zB, zC, zD, zE, zF]
 refine zT (i := 3) (v := ?_) rfl ?_ (fun _ _ _ h => h) ?_
 rotate_left
 ·(rintro w ⟨s0, s1, s2, s3, s4, s5⟩; go_simp; try with_reducible rfl)
 try simp only [Act.put, zA, zB, zC, zD, zE, zF]
 refine zT (i := 4) (v := ?_) rfl ?_ (fun _ _ _ h => h) ?_
 rotate_left
 ·(rintro w ⟨s0, s1, s2, s3, s4, s5⟩; go_simp; try with_reducible rfl)
 try simp only [Act.put, zA, zB, zC, zD, zE, zF]
 refine zT (i := 5) (v := ?_) rfl ?_ (fun _ _ _ h => h) ?_
 rotate_left
 ·(rintro w ⟨s0, s1, s2, s3, s4, s5⟩; go_simp; try with_reducible rfl)
 try simp only [Act.put, zA, zB, zC, zD, zE, zF]
 refine zY (i := 6) rfl fun K hK => ?_
 go_simp
 go_at_call 10
 refine (HIN.out _ (by first | exact Br | exact Br.drew | exact zad Br _)).mono ?_
 rintro e u2 ⟨code, rfl, HI2⟩
 dsimp only
 refine hK.out _ _ (HSF.out _ (by obtain ⟨_, _, _, h⟩ := HI2.out; exact h)) (fun hHeld => ?_)
 clear hK K
 try simp only [Act.put, zA, zB, zC, zD, zE, zF]
 refine zT (i := 7) (v := ?_) rfl ?_ (fun _ _ _ h => h) ?_
 rotate_left
 ·(rintro w ⟨s0, s1, s2, s3, s4, s5⟩; go_simp; try with_reducible rfl)
 try simp only [Act.put, zA, zB, zC, zD, zE, zF]
 refine wpAnyH_done (by kernel_rfl) ?_ _
 clear hHeld
 obtain ⟨t, hrt, hpk, hcf⟩ := HI2.out
 have HR1 := zaa hrt
 have HPK := zaa hpk
 have HCF := zaa hcf
 have HDM := zaa ((HP.out.go HWU.out).mid hcf)
 have HNK := HNK0
 have HO2 : Hid (O8 u2 w.heap.size (.int .i64 1) (.int .i64 I) (.slice ka kn kc) (.int .i64 c.kd) (.slice va vn vc) (.int .i64 c.pg) (.int .i64 c.ct) (.slice qa qn qc)) := zaa (by
  have h1 := HOU.out
  rw [HKN.out.1, HKN.out.2] at h1
  exact O8.cf h1 hcf (HNK.out _ Lr))
 have HDI := zaa (dinsert_any u2 G r k n s HDM.out HN.out I c ka va kc vc ((HKV.out.1.on Lr HWU.out).outz (HFK.out.1.imp id fun f p e g => f p e (.inl g)) hcf) ((HKV.out.2.on Lr HWU.out).outz (HFK.out.2.imp id fun f p e g => f p e (.inl g)) hcf))
 rw [HKN.out.1, HKN.out.2] at HDI
 obtain ⟨q0, q1, q2, q3, q4, q5, q6, q7⟩ := HO2.out.cells
 clear HIN hrt hpk hcf HI2
 go_wp2_with (go_at_call 31; refine HDI.out.mono ?_; rintro e u3 ⟨code', t', rfl, HR3, HDM3, HC3⟩; refine Hid.out ?_)
 apply zaa
 obtain ⟨rfl, rfl⟩ := InsR.det HR1.out HR3.out
 have HPR : Hid (Pr u3 (Zk K u u2) a (Zk G u2 u3) r k n t') := zaa ((HP.out.go HWU.out).both HPK.out HCF.out HDM3.out HC3.out)
 have HUU : Hid (w.heap.size + 2 = R ∧ R < u.heap.size ∧ u.heap.size ≤ u2.heap.size ∧ u2.heap.size ≤ u3.heap.size ∧ r < w.heap.size) := zaa (by
  have h1 := HRE.out
  have h2 := HSZ.out
  have h3 := HG.out
  exact ⟨by omega, by omega, HCF.out.size, HC3.out.size, HRL.out⟩)
 have HST : Hid (∀ b, w.heap.size ≤ b → b < u.heap.size → u3.heap[b]? = u.heap[b]?) := zaa fun b h1 h2 => by
  have h3 := HUU.out
  rw [HC3.out.block b (by omega) (by omega)]
  exact HCF.out.block b h2 (HNK.out b h1)
 have HLN3 : Hid (LnC u3 R [c] g 0 1) := zaa (HLN.out.keep Lr (by have := HUU.out; omega) (fun j _ => by
   have h3 := HUU.out
   simp only [World.cell?, HST.out R (by omega) (by omega)]) (fun b _ hb => by
   have h3 := HUU.out
   have h4 := HLN.out.gt b hb
   have h5 := HLN.out.lt b hb
   exact HST.out _ (by omega) h5))
 have HRW3 : Hid (RowC u3 R 3 ∧ u3.cell? ⟨R, 1 * 5 + 1, none⟩ = some (.int .i64 (-7)) ∧ u3.cell? ⟨R, (1 + 1) * 5 + 1, none⟩ = some (.int .i64 (-8))) := zaa (by
  have h3 := HUU.out
  have h4 := HST.out R (by omega) (by omega)
  obtain ⟨⟨cur, e1, e2⟩, e3, e4⟩ := HRW.out
  refine ⟨⟨cur, h4.trans e1, e2⟩, ?_, ?_⟩
  ·rw [← e3]; simp only [World.cell?, h4]
  ·rw [← e4]; simp only [World.cell?, h4])
 have HAL := zaa (asLentZ_any R 1 (some ⟨x.heap.size, 0, none⟩) 1 [c] u3 g HLN3.out HRW3.out.1 HRW3.out.2.1 HRW3.out.2.2 (fun v hv => by
   have h3 := HUU.out
   have h2 := HSZ.out
   have h4 := HG.out
   have hnz : ∀ b, b < R → ¬ LZ R g 1 b := fun b hb e => by
    rcases e with e | ⟨q, hq, e⟩
    ·omega
    ·have := HLN.out.gt q (by omega)
     omega
   have hcv : Cf (fun b => (K b ∨ b = r) ∨ LZ R g 1 b) u v := ((HCF.out.wideQ fun b e => .inl (.inl e)).go (HC3.out.wideQ fun b e => .inl (.inr e))).go (hv.wideQ fun b e => .inr e)
   have hsl : ∀ {ao : Option Addr} {m cp : Nat} {l : List Int}, Sl w ao m cp l → OutK (fun b => K b ∨ b = r) ao m → Sl v ao m cp l := fun {ao m cp l} h ho => by
    rcases h.hat with h0 | ⟨b, off, e, hb, _⟩
    ·exact (h.on Lr HWU.out).agr (.inl h0) hcv.size
    ·refine (h.on Lr HWU.out).agr (ho.imp id fun f p hp => ?_) hcv.size
     have hpb : p.block = b := by
      rw [e] at hp
      injection hp with hp
      rw [← hp]
     refine hcv.block _ (by rw [hpb]; have := HWU.out.size; omega) fun e => ?_
     rcases e with e | e
     ·exact f p hp e
     ·exact hnz _ (by rw [hpb]; omega) e
   have hc5 : C5 v x.heap.size (.slice ka c.key.length kc) (.int .i64 c.kd) (.slice va c.val.length vc) (.int .i64 c.pg) (.int .i64 c.ct) := C5.cf (w := u) (zaf HC5.out HBU.out) (hcv.wideQ fun b e => e) (fun e => by
    rcases e with (e | e) | e
    ·exact HNK.out _ (by omega) e
    ·omega
    ·exact hnz _ (by omega) e)
   exact hc5.one (hsl HKV.out.1 HFK.out.1) (hsl HKV.out.2 HFK.out.2)) (by omega) (fun d hd => by
   simp at hd
   subst hd
   have := HL.out
   omega))
 clear q0 q1 q2 q3 q4 q5 q6 q7 HDI
 go_wp2_with (go_at_call 32; refine HAL.out.mono ?_; rintro e u4 ⟨rfl, HC4⟩; refine Hid.out ?_)
 apply zaa
 go_wp2
 go_ret
 have h3 := HUU.out
 have hzr : ∀ b, LZ R g 1 b → R ≤ b ∧ b < u.heap.size := fun b e => by
  rcases e with e | ⟨q, hq, e⟩
  ·omega
  ·have h5 := HLN.out.gt q (by omega)
   have h6 := HLN.out.lt q (by omega)
   omega
 have hc4 := HC4.out.size
 refine ⟨rfl, zaa ⟨t', Zk K u u2, Zk G u2 u3, HPR.out.keep HC4.out (fun b hb e => ?_) (fun b hb e => ?_) (fun e => ?_), fun b e => ?_, fun b e => ?_⟩, zaa ?_⟩
 ·have := hzr b hb
  rcases e with e | e
  ·exact HNK.out b (by omega) e
  ·omega
 ·have := hzr b hb
  rcases e with e | e
  ·have := HP.out.doc.kl b e
   omega
  ·omega
 ·have := hzr _ e
  omega
 ·rcases e with e | e
  ·exact .inl e
  ·exact .inr ⟨by omega, by omega⟩
 ·rcases e with e | e
  ·exact .inl e
  ·exact .inr ⟨by omega, by omega⟩
 ·exact (((Cf.of_below HWU.out).go (HCF.out.wideQ fun b e => .inl e)).go (HC3.out.wideQ fun b e => .inr e)).trans HC4.out (fun b hb e => by have := hzr b e; omega)
theorem step_set (w : World) (K : Nat → Prop) (a : Nat) (G : Nat → Prop) (r : Nat) (k : Int) (n : Nat) (s : Qs) (hP : Pr w K a G r k n s) (hn : pw n) (kp : Value) (I : Int) (c : Cl) (ka va : Option Addr) (kc vc : Nat) (hk : Sl w ka c.key.length kc c.key) (hv : Sl w va c.val.length vc c.val) (fk : OutK (fun b => K b ∨ b = r) ka c.key.length) (fv : OutK (fun b => K b ∨ b = r) va c.val.length) (hl : c.key.length ≤ 140737488351232 ∧ c.val.length ≤ 140737488351232) (qa : Option Addr) (qn qc : Nat) :
  Calls Tryz.prog 8 #[kp, .pointer (some ⟨a, 0, none⟩), .pointer (some ⟨r, 0, none⟩), .agg #[.int .i64 2, .int .i64 I, .slice ka c.key.length kc, .int .i64 c.kd, .slice va c.val.length vc, .int .i64 c.pg, .int .i64 c.ct, .slice qa qn qc]] w (StepTo K a G r k n w) := by
 have hkl := hP.our.kl
 have hrl := hP.doc.rl
 obtain ⟨x, hx⟩ : ∃ x, w.alloc (.cells #[.int .i64 2, .int .i64 I, .slice ka c.key.length kc, .int .i64 c.kd, .slice va c.val.length vc, .int .i64 c.pg, .int .i64 c.ct, .slice qa qn qc] 41) = x := ⟨_, rfl⟩
 have hbx : Below w.heap.size w x := by rw [← hx]; exact zac Br Lr _
 have HO8 : Hid (O8 x w.heap.size (.int .i64 2) (.int .i64 I) (.slice ka c.key.length kc) (.int .i64 c.kd) (.slice va c.val.length vc) (.int .i64 c.pg) (.int .i64 c.ct) (.slice qa qn qc)) := zaa (by rw [← hx]; exact O8.box _ _ _ _ _ _ _ _ _)
 obtain ⟨y, hy⟩ : ∃ y, x.alloc (.cells #[.slice ka c.key.length kc, .int .i64 c.kd, .slice va c.val.length vc, .int .i64 c.pg, .int .i64 c.ct] 39) = y := ⟨_, rfl⟩
 have hby : Below x.heap.size x y := by rw [← hy]; exact zac Br Lr _
 have HC5 : Hid (C5 y x.heap.size (.slice ka c.key.length kc) (.int .i64 c.kd) (.slice va c.val.length vc) (.int .i64 c.pg) (.int .i64 c.ct)) := zaa (by rw [← hy]; exact C5.box _ _ _ _ _ _)
 have hwy := zab hbx Lr hby
 have HSZ : Hid (x.heap.size = w.heap.size + 1 ∧ y.heap.size = w.heap.size + 2) := zaa (by rw [← hy, ← hx]; simp)
 have HKV : Hid (Sl w ka c.key.length kc c.key ∧ Sl w va c.val.length vc c.val) := zaa ⟨hk, hv⟩
 have HLE := zaa (lentC_any (some ⟨x.heap.size, 0, none⟩) 1 1 [c] y (HC5.out.one (hk.on Lr hwy) (hv.on Lr hwy)) (by omega))
 have HP := zaa hP
 have HWY := zaa hwy
 have HN := zaa hn
 have HL := zaa hl
 have HFK := zaa (And.intro fk fv)
 have HKL := zaa hkl
 have HRL := zaa hrl
 obtain ⟨o0, o1, o2, o3, o4, o5, o6, o7⟩ := HO8.out.cells
 have HO8Y := zaa (show O8 y w.heap.size _ _ _ _ _ _ _ _ from zaf HO8.out hby)
 obtain ⟨s0, s1, s2, s3, s4, s5, s6, s7⟩ := HO8Y.out.cells
 clear hP hn hk hv fk fv hl hbx hby hwy hkl hrl
 go_enter Tryz.func8, Tryz.ntmps8
 go_wp2_with (go_at_call 30; refine HLE.out.mono ?_; rintro e u ⟨rfl, HLC, HBU⟩; refine Hid.out ?_)
 apply zaa
 obtain ⟨R, hR⟩ : ∃ R, y.heap.size = R := ⟨_, rfl⟩
 rw [hR] at HLC ⊢
 have HRE := zaa hR
 obtain ⟨g, hLn, hRow, m7, m8⟩ := HLC.out
 obtain ⟨a0, a1, a2, a3, a4, a5, a6⟩ := hLn.at_ 0 c Lr (by omega) rfl
 simp only [Nat.zero_mul, Nat.mul_zero, Nat.zero_add] at a0 a1 a2 a3 a4 a5 a6
 obtain ⟨g0, hg0⟩ : ∃ g0, g 0 = g0 := ⟨_, rfl⟩
 obtain ⟨g1, hg1⟩ : ∃ g1, g 1 = g1 := ⟨_, rfl⟩
 rw [hg0] at a0 a5
 rw [hg1] at a2 a6
 have HG : Hid (R < g0 ∧ R < g1 ∧ g0 < u.heap.size ∧ g1 < u.heap.size ∧ g 0 = g0 ∧ g 1 = g1) := zaa ⟨by rw [← hg0]; exact hLn.gt 0 (by omega), by rw [← hg1]; exact hLn.gt 1 (by omega), by rw [← hg0]; exact hLn.lt 0 (by omega), by rw [← hg1]; exact hLn.lt 1 (by omega), hg0, hg1⟩
 have HLN := zaa hLn
 have HRW := zaa (And.intro hRow (And.intro m7 m8))
 have HWU := zaa (zab HWY.out Lr HBU.out)
 have HKL2 : Hid (Sl u (some ⟨g0, 0, none⟩) c.key.length (c.key.length + 3) c.key ∧ Sl u (some ⟨g1, 0, none⟩) c.val.length (c.val.length + 3) c.val) := zaa ⟨own_lent a5 HKV.out.1.wf (by have := HL.out; omega), own_lent a6 HKV.out.2.wf (by have := HL.out; omega)⟩
 have HIN : Hid (∀ v, Below u.heap.size u v → Calls Tryz.prog 12 #[.pointer (some ⟨a, 0, none⟩), .int .i64 I, .agg #[.slice (some ⟨g0, 0, none⟩) c.key.length (c.key.length + 3), .int .i64 c.kd, .slice (some ⟨g1, 0, none⟩) c.val.length (c.val.length + 3), .int .i64 c.pg, .int .i64 c.ct]] v fun e w' => ∃ code, e = .returned (.int .i64 code) ∧ Hid (∃ t, SetR k n s I c code t ∧ Pk w' (Zk K u w') a k n t ∧ Cf K u w')) := zaa fun v hv => by
  have h0 := HWU.out.size
  have h1 := HRE.out
  have h2 := HSZ.out
  have h3 := HG.out
  have hof : ∀ b, K b → b < w.heap.size := HKL.out
  refine (setQ_any v K a k n s ((HP.out.our.go HWU.out).go hv) I HN.out c _ _ _ _ (HKL2.out.1.on Lr hv) (HKL2.out.2.on Lr hv) (.inr fun p hp e => ?_) (.inr fun p hp e => ?_)).mono ?_
  ·injection hp with hp
   subst hp
   have := hof _ e
   simp only at this
   omega
  ·injection hp with hp
   subst hp
   have := hof _ e
   simp only at this
   omega
  ·rintro e w' ⟨code, t, rfl, HR, HPk, HC⟩
   exact ⟨code, rfl, zaa ⟨t, HR.out, HPk.out.wide (Zk.from hv.size) (Zk.lt (fun b e => zO (hof b e) (zN h0 (zN hv.size HC.out.size))) Lr), (Cf.of_below hv).go HC.out⟩⟩
 have HOU := zaa (show O8 u w.heap.size _ _ _ _ _ _ _ _ from zaf HO8Y.out HBU.out)
 obtain ⟨p0, p1, p2, p3, p4, p5, p6, p7⟩ := HOU.out.cells
 obtain ⟨kn, hkn⟩ : ∃ kn, c.key.length = kn := ⟨_, rfl⟩
 obtain ⟨vn, hvn⟩ : ∃ vn, c.val.length = vn := ⟨_, rfl⟩
 have HKN := zaa (And.intro hkn hvn)
 rw [hkn] at a0 HIN p2
 rw [hvn] at a2 HIN p4
 rw [hkn, hvn]
 clear a5 a6 hLn hRow m7 m8 hg0 hg1 HLE hR o0 o1 o2 o3 o4 o5 o6 o7 s0 s1 s2 s3 s4 s5 s6 s7 hx hy hkn hvn
 have HNK0 : Hid (∀ b, w.heap.size ≤ b → ¬ K b) := zaa fun b hb e => by have := HKL.out b e; omega
 have HRU : Hid (w.heap.size ≤ R ∧ R < u.heap.size ∧ w.heap.size < u.heap.size) := zaa (by
  have h1 := HRE.out
  have h2 := HSZ.out
  have h3 := HG.out
  exact ⟨by omega, by omega, by omega⟩)
 have HSF : Hid (∀ v, Cf K u v → S6 w.heap.size R (.int .i64 I) (.slice (some ⟨g0, 0, none⟩) kn (kn + 3)) (.int .i64 c.kd) (.slice (some ⟨g1, 0, none⟩) vn (vn + 3)) (.int .i64 c.pg) (.int .i64 c.ct) v) := zaa fun v hv => by
  have h1 := HRU.out
  have e1 := hv.block w.heap.size h1.2.2 (HNK0.out _ Lr)
  have e2 := hv.block R h1.2.1 (HNK0.out _ h1.1)
  have f : ∀ {b i : Nat} {x : Value}, v.heap[b]? = u.heap[b]? → u.cell? ⟨b, i, none⟩ = some x → v.cell? ⟨b, i, none⟩ = some x := fun {b i x} e h => by rw [← h]; simp only [World.cell?, e]
  exact ⟨f e1 p1, f e2 a0, f e2 a1, f e2 a2, f e2 a3, f e2 a4⟩
 go_upto_region 11 with fail
 clear p0 p1 p2 p3 p4 p5 p6 p7 a0 a1 a2 a3 a4
 refine wp_region_held_drew (S := S6 w.heap.size R (.int .i64 I) (.slice (some ⟨g0, 0, none⟩) kn (kn + 3)) (.int .i64 c.kd) (.slice (some ⟨g1, 0, none⟩) vn (vn + 3)) (.int .i64 c.pg) (.int .i64 c.ct)) (by kernel_rfl) (HSF.out _ (Cf.of_below Br.drew)) (fun hHeld => ?_)
 refine zT (i := 0) (v := ?_) rfl ?_ (fun _ _ _ h => h) ?_
 rotate_left
 ·(rintro w ⟨s0, s1, s2, s3, s4, s5⟩; go_simp; try with_reducible rfl)
 try simp only [Act.put, zA, zC, zD, zE, zF]
 refine zT (i := 1) (v := ?_) rfl ?_ (fun _ _ _ h => h) ?_
 rotate_left
 ·(rintro w ⟨s0, s1, s2, s3, s4, s5⟩; go_simp; try with_reducible rfl)
 try simp only [Act.put, zA, zB, zC, zD, zE, zF]
 refine zT (i := 2) (v := ?_) rfl ?_ (fun _ _ _ h => h) ?_
 rotate_left
 ·(rintro w ⟨s0, s1, s2, s3, s4, s5⟩; go_simp; try with_reducible rfl)
 try simp only [Act.put, zA, zB, zC, zD, zE, zF]
 refine zT (i := 3) (v := ?_) rfl ?_ (fun _ _ _ h => h) ?_
 rotate_left
 ·(rintro w ⟨s0, s1, s2, s3, s4, s5⟩; go_simp; try with_reducible rfl)
 try simp only [Act.put, zA, zB, zC, zD, zE, zF]
 refine zT (i := 4) (v := ?_) rfl ?_ (fun _ _ _ h => h) ?_
 rotate_left
 ·(rintro w ⟨s0, s1, s2, s3, s4, s5⟩; go_simp; try with_reducible rfl)
 try simp only [Act.put, zA, zB, zC, zD, zE, zF]
 refine zT (i := 5) (v := ?_) rfl ?_ (fun _ _ _ h => h) ?_
 rotate_left
 ·(rintro w ⟨s0, s1, s2, s3, s4, s5⟩; go_simp; try with_reducible rfl)
 try simp only [Act.put, zA, zB, zC, zD, zE, zF]
 refine zY (i := 6) rfl fun K hK => ?_
 go_simp
 go_at_call 12
 refine (HIN.out _ (by first | exact Br | exact Br.drew | exact zad Br _)).mono ?_
 rintro e u2 ⟨code, rfl, HI2⟩
 dsimp only
 refine hK.out _ _ (HSF.out _ (by obtain ⟨_, _, _, h⟩ := HI2.out; exact h)) (fun hHeld => ?_)
 clear hK K
 try simp only [Act.put, zA, zB, zC, zD, zE, zF]
 refine zT (i := 7) (v := ?_) rfl ?_ (fun _ _ _ h => h) ?_
 rotate_left
 ·(rintro w ⟨s0, s1, s2, s3, s4, s5⟩; go_simp; try with_reducible rfl)
 try simp only [Act.put, zA, zB, zC, zD, zE, zF]
 refine wpAnyH_done (by kernel_rfl) ?_ _
 clear hHeld
 obtain ⟨t, hrt, hpk, hcf⟩ := HI2.out
 have HR1 := zaa hrt
 have HPK := zaa hpk
 have HCF := zaa hcf
 have HDM := zaa ((HP.out.go HWU.out).mid hcf)
 have HNK := HNK0
 have HO2 : Hid (O8 u2 w.heap.size (.int .i64 2) (.int .i64 I) (.slice ka kn kc) (.int .i64 c.kd) (.slice va vn vc) (.int .i64 c.pg) (.int .i64 c.ct) (.slice qa qn qc)) := zaa (by
  have h1 := HOU.out
  rw [HKN.out.1, HKN.out.2] at h1
  exact O8.cf h1 hcf (HNK.out _ Lr))
 have HDI := zaa (dset_any u2 G r k n s HDM.out HN.out I c ka va kc vc ((HKV.out.1.on Lr HWU.out).outz (HFK.out.1.imp id fun f p e g => f p e (.inl g)) hcf) ((HKV.out.2.on Lr HWU.out).outz (HFK.out.2.imp id fun f p e g => f p e (.inl g)) hcf))
 rw [HKN.out.1, HKN.out.2] at HDI
 obtain ⟨q0, q1, q2, q3, q4, q5, q6, q7⟩ := HO2.out.cells
 clear HIN hrt hpk hcf HI2
 go_wp2_with (go_at_call 33; refine HDI.out.mono ?_; rintro e u3 ⟨code', t', rfl, HR3, HDM3, HC3⟩; refine Hid.out ?_)
 apply zaa
 obtain ⟨rfl, rfl⟩ := SetR.det HR1.out HR3.out
 have HPR : Hid (Pr u3 (Zk K u u2) a (Zk G u2 u3) r k n t') := zaa ((HP.out.go HWU.out).both HPK.out HCF.out HDM3.out HC3.out)
 have HUU : Hid (w.heap.size + 2 = R ∧ R < u.heap.size ∧ u.heap.size ≤ u2.heap.size ∧ u2.heap.size ≤ u3.heap.size ∧ r < w.heap.size) := zaa (by
  have h1 := HRE.out
  have h2 := HSZ.out
  have h3 := HG.out
  exact ⟨by omega, by omega, HCF.out.size, HC3.out.size, HRL.out⟩)
 have HST : Hid (∀ b, w.heap.size ≤ b → b < u.heap.size → u3.heap[b]? = u.heap[b]?) := zaa fun b h1 h2 => by
  have h3 := HUU.out
  rw [HC3.out.block b (by omega) (by omega)]
  exact HCF.out.block b h2 (HNK.out b h1)
 have HLN3 : Hid (LnC u3 R [c] g 0 1) := zaa (HLN.out.keep Lr (by have := HUU.out; omega) (fun j _ => by
   have h3 := HUU.out
   simp only [World.cell?, HST.out R (by omega) (by omega)]) (fun b _ hb => by
   have h3 := HUU.out
   have h4 := HLN.out.gt b hb
   have h5 := HLN.out.lt b hb
   exact HST.out _ (by omega) h5))
 have HRW3 : Hid (RowC u3 R 3 ∧ u3.cell? ⟨R, 1 * 5 + 1, none⟩ = some (.int .i64 (-7)) ∧ u3.cell? ⟨R, (1 + 1) * 5 + 1, none⟩ = some (.int .i64 (-8))) := zaa (by
  have h3 := HUU.out
  have h4 := HST.out R (by omega) (by omega)
  obtain ⟨⟨cur, e1, e2⟩, e3, e4⟩ := HRW.out
  refine ⟨⟨cur, h4.trans e1, e2⟩, ?_, ?_⟩
  ·rw [← e3]; simp only [World.cell?, h4]
  ·rw [← e4]; simp only [World.cell?, h4])
 have HAL := zaa (asLentZ_any R 1 (some ⟨x.heap.size, 0, none⟩) 1 [c] u3 g HLN3.out HRW3.out.1 HRW3.out.2.1 HRW3.out.2.2 (fun v hv => by
   have h3 := HUU.out
   have h2 := HSZ.out
   have h4 := HG.out
   have hnz : ∀ b, b < R → ¬ LZ R g 1 b := fun b hb e => by
    rcases e with e | ⟨q, hq, e⟩
    ·omega
    ·have := HLN.out.gt q (by omega)
     omega
   have hcv : Cf (fun b => (K b ∨ b = r) ∨ LZ R g 1 b) u v := ((HCF.out.wideQ fun b e => .inl (.inl e)).go (HC3.out.wideQ fun b e => .inl (.inr e))).go (hv.wideQ fun b e => .inr e)
   have hsl : ∀ {ao : Option Addr} {m cp : Nat} {l : List Int}, Sl w ao m cp l → OutK (fun b => K b ∨ b = r) ao m → Sl v ao m cp l := fun {ao m cp l} h ho => by
    rcases h.hat with h0 | ⟨b, off, e, hb, _⟩
    ·exact (h.on Lr HWU.out).agr (.inl h0) hcv.size
    ·refine (h.on Lr HWU.out).agr (ho.imp id fun f p hp => ?_) hcv.size
     have hpb : p.block = b := by
      rw [e] at hp
      injection hp with hp
      rw [← hp]
     refine hcv.block _ (by rw [hpb]; have := HWU.out.size; omega) fun e => ?_
     rcases e with e | e
     ·exact f p hp e
     ·exact hnz _ (by rw [hpb]; omega) e
   have hc5 : C5 v x.heap.size (.slice ka c.key.length kc) (.int .i64 c.kd) (.slice va c.val.length vc) (.int .i64 c.pg) (.int .i64 c.ct) := C5.cf (w := u) (zaf HC5.out HBU.out) (hcv.wideQ fun b e => e) (fun e => by
    rcases e with (e | e) | e
    ·exact HNK.out _ (by omega) e
    ·omega
    ·exact hnz _ (by omega) e)
   exact hc5.one (hsl HKV.out.1 HFK.out.1) (hsl HKV.out.2 HFK.out.2)) (by omega) (fun d hd => by
   simp at hd
   subst hd
   have := HL.out
   omega))
 clear q0 q1 q2 q3 q4 q5 q6 q7 HDI
 go_wp2_with (go_at_call 32; refine HAL.out.mono ?_; rintro e u4 ⟨rfl, HC4⟩; refine Hid.out ?_)
 apply zaa
 go_wp2
 go_ret
 have h3 := HUU.out
 have hzr : ∀ b, LZ R g 1 b → R ≤ b ∧ b < u.heap.size := fun b e => by
  rcases e with e | ⟨q, hq, e⟩
  ·omega
  ·have h5 := HLN.out.gt q (by omega)
   have h6 := HLN.out.lt q (by omega)
   omega
 have hc4 := HC4.out.size
 refine ⟨rfl, zaa ⟨t', Zk K u u2, Zk G u2 u3, HPR.out.keep HC4.out (fun b hb e => ?_) (fun b hb e => ?_) (fun e => ?_), fun b e => ?_, fun b e => ?_⟩, zaa ?_⟩
 ·have := hzr b hb
  rcases e with e | e
  ·exact HNK.out b (by omega) e
  ·omega
 ·have := hzr b hb
  rcases e with e | e
  ·have := HP.out.doc.kl b e
   omega
  ·omega
 ·have := hzr _ e
  omega
 ·rcases e with e | e
  ·exact .inl e
  ·exact .inr ⟨by omega, by omega⟩
 ·rcases e with e | e
  ·exact .inl e
  ·exact .inr ⟨by omega, by omega⟩
 ·exact (((Cf.of_below HWU.out).go (HCF.out.wideQ fun b e => .inl e)).go (HC3.out.wideQ fun b e => .inr e)).trans HC4.out (fun b hb e => by have := hzr b e; omega)
end Go.Proofs.YtfgffajgfgifhaaGreatDoor
