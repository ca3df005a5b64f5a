import Derived.Test.YtbkhjeacmmbabaaGreatDoorJ03
import Derived.Laws.AppendOwnNone
import Derived.Maps.AppendAt
namespace Go.Proofs.YtbkhjeacmmbabaaGreatDoor
set_option maxRecDepth 100000
set_option maxHeartbeats 1000000
open Go.RowKit
structure Gr (w : World) (v : Value) (w' : World) (v' : Value) : Prop where
 grow : w.grownBy w' v.ownBlock
 own : v'.ownBlock = v.ownBlock ∨ ∃ k, v'.ownBlock = some k ∧ w.heap.size ≤ k
theorem Gr.ofBelow {w w' : World} (v : Value) (h : Below w.heap.size w w') : Gr w v w' v := ⟨⟨h.os, h.tape, h.output, h.size, fun k hk _ => h.block k hk⟩, .inl rfl⟩
theorem Gr.refl (w : World) (v : Value) : Gr w v w v := Gr.ofBelow v Br
theorem Gr.alloc (w : World) (v : Value) (o : Obj) : Gr w v (w.alloc o) v := Gr.ofBelow v (Br.alloc Lr o)
theorem Gr.trans {w w1 w2 : World} {v v1 v2 : Value} (a : Gr w v w1 v1) (b : Gr w1 v1 w2 v2) : Gr w v w2 v2 := by
 have hs := a.grow.size
 refine ⟨⟨b.grow.os.trans a.grow.os, b.grow.tape.trans a.grow.tape, b.grow.output.trans a.grow.output, zN hs b.grow.size, fun k hk hne => ?_⟩, ?_⟩
 ·refine (b.grow.block k (zO hk hs) ?_).trans (a.grow.block k hk hne)
  rcases a.own with h | ⟨k', h, hk'⟩
  ·rw [h]; exact hne
  ·rw [h]; intro e; cases e; omega
 ·rcases b.own with h | ⟨k', h, hk'⟩
  ·rcases a.own with h' | ⟨k'', h', hk''⟩
   ·exact .inl (h.trans h')
   ·exact .inr ⟨k'', h.trans h', hk''⟩
  ·exact .inr ⟨k', h, by omega⟩
theorem Gr.below {w w' : World} {v v' : Value} {B : Nat} {l : List Int} (h : Gr w v w' v') (hown : OwnB w B v l) (hB : B ≤ w.heap.size) : Below B w w' := zde hown hB h.grow
def Far (ao : Option Addr) (n : Nat) (v : Value) : Prop := n = 0 ∨ ∀ p, ao = some p → v.ownBlock ≠ some p.block
theorem Sl.gr {w w' : World} {v v' : Value} {ao : Option Addr} {n cap : Nat} {l : List Int} (h : Sl w ao n cap l) (hg : Gr w v w' v') (hf : Far ao n v) : Sl w' ao n cap l := by
 refine ⟨h.hlen, h.hcap, h.hroom, h.wf, h.hnil, ?_⟩
 rcases h.hat with h0 | ⟨b, off, e, hlt, hc⟩
 ·exact .inl h0
 ·rcases hf with h0 | hf
  ·exact .inl h0
  ·refine .inr ⟨b, off, e, zO hlt hg.grow.size, fun i hi => ?_⟩
   rw [← hc i hi]
   exact World.cell?_of_block (hg.grow.block b hlt (fun e2 => hf _ e e2.symm))
theorem Far.gr {w w' : World} {v v' : Value} {ao : Option Addr} {n cap : Nat} {l : List Int} (hf : Far ao n v) (h : Sl w ao n cap l) (hg : Gr w v w' v') : Far ao n v' := by
 rcases hf with h0 | hf
 ·exact .inl h0
 ·rcases h.hat with h0 | ⟨b, off, rfl, hlt, hc⟩
  ·exact .inl h0
  ·right
   intro p hp
   injection hp with hp
   subst hp
   rcases hg.own with e | ⟨k, e, hk⟩
   ·rw [e]; exact hf _ rfl
   ·rw [e]; intro h; injection h with h; simp only at h; omega
theorem OwnB.low {w : World} {B C : Nat} {v : Value} {l : List Int} (h : OwnB w C v l) (hB : B ≤ C) : OwnB w B v l := by
 unfold OwnB at *
 rcases h.2 with h2 | ⟨g, cap, cur, e, hg, rest⟩
 ·exact ⟨h.1, .inl h2⟩
 ·exact ⟨h.1, .inr ⟨g, cap, cur, e, zN hB hg, rest⟩⟩
theorem OwnB.far {w : World} {B : Nat} {v : Value} {l : List Int} (h : OwnB w B v l) {ao : Option Addr} {n : Nat} (hb : ∀ p, ao = some p → p.block < B) : Far ao n v := by
 right
 intro p hp e
 have := hb p hp
 unfold OwnB at h
 have h2 := (h.lt p.block e).1
 omega
theorem zau {ops : Array Oper} {rest : List Oper} {o : Oper} {a : Act} {Q : Exit → Act → World → Prop} (w : World) (hgd : o.guard = none) (s x : Operand)
  (ho : o.op = .call { callee := .builtin .append, args := #[s, x], argTypes := #[22, 22] }) (B : Nat) (l news : List Int) (v : Value) (ao : Option Addr) (n c : Nat) (hs : a.eval s = v) (hx : a.eval x = .slice ao n c)
  (hown : OwnB w B v l) (hsl : Sl w ao n c news) (hb : l.length + n ≤ 140737488355328) (hbase : B ≤ w.heap.size)
  (h : ∀ v' w', OwnB w' B v' (l ++ news) → Gr w v w' v' → wpList Tryz.prog ops Q rest (a.put o.dst v') w') : wpList Tryz.prog ops Q (o :: rest) a w := by
 obtain ⟨i0, hi, hz0, hz1, hz2⟩ := info_parts zbj
 have hlen := hsl.hlen
 cases ao with
 | none =>
  have : n = 0 := by have := hsl.hnil rfl; have := hsl.hcap; omega
  subst this
  have hc0 := hsl.hnil rfl
  subst hc0
  obtain rfl : news = [] := List.eq_nil_of_length_eq_zero hlen
  exact wpList_append_own_none hgd s x 22 ho B 5 i0 1 Tryz.underlying22 hi v l.length (By l) hs hown hx (h v w (by simpa using hown) (Gr.refl _ _))
 | some ad =>
  refine wpList_append_own_at w hgd s x 22 ho B 5 i0 (.int .u8 0) 1 1 Tryz.underlying22 hi hz0 hz1 hz2 rfl (by decide) v l.length (By l) hs hown ad n c (By news) hx (by simp [By, hlen])
   (fun j u hu => by
    obtain ⟨h1, h2⟩ := getElem?_By news j u hu
    rw [h2]
    rcases hsl.hat with h0 | ⟨b, off, e, _, hc⟩
    ·omega
    ·injection e with e
     subst e
     rw [Addr.add_lit]
     exact hc j (by omega)) (zby news) (by unfold maxLen; omega) (by omega) hbase ?_
  intro v' w' h1 h2 _ h4
  refine h v' w' ?_ ⟨h2, h4.imp id fun e => ⟨_, e, Lr⟩⟩
  unfold OwnB
  rw [zdn, zG, hlen]
  exact h1
theorem zea (ao : Option Addr) (n cap : Nat) (l : List Int) (w : World) (hs : Sl w ao n cap l) :
  Calls Tryz.prog 119 #[.slice ao n cap] w fun e w' => e = .returned (.slice (some ⟨w.heap.size, 0, none⟩) n n) ∧ Hid (Bk w' w.heap.size l) ∧ Hid (Below w.heap.size w w') := by
 obtain ⟨i0, hi, hz0, hz1, hz2⟩ := info_parts zbj
 obtain ⟨hlen, hcap, hroom, hwf, hnil, hat⟩ := hs
 have hsz : (Tryz.prog.info? 5).map (·.size) = some 1 := by rw [hi]; simp [hz1]
 go_enter Tryz.func119, Tryz.ntmps119
 go_wp2_with (at_make; refine wpList_make_full _ rfl _ _ 22 rfl w.heap.size 5 i0 (.int .u8 0) 1 Tryz.underlying22 hi hz0 hz1 .i64 .i64 n n n rfl rfl rfl rfl (by rw [hz2]; omega) (by unfold maxLen; omega) Lr ?_)
 intro w1 hown1 hg1
 have hb1 : Below w.heap.size w w1 := Br.grown hg1 Lr (fun k hk => by cases hk)
 clear hg1
 obtain ⟨cur, hcur, hcs⟩ : ∃ cur : List Value, w1.heap[w.heap.size]? = some (.cells cur.toArray 5 (0, 0)) ∧ cur.length = n := by
  rcases hown1.2 with ⟨h, _⟩ | ⟨g, c, cur, h, _, hh, _, _, hs, _⟩
  ·cases h
  ·cases h
   exact ⟨cur.toList, by simpa using hh, by simpa using hs⟩
 clear hown1
 have HC := zaa hcur
 clear hcur
 have hpos : 0 < (By l).length → some (⟨w.heap.size, 0, none⟩ : Addr) = some ⟨w.heap.size, 0, none⟩ ∧ ∃ ad, ao = some ad ∧ ∀ j v, (By l)[j]? = some v → w1.cell? (ad.add j) = some v := by
  intro h
  rw [zbk] at h
  rcases hat with h0 | ⟨b, off, rfl, hbb, hc⟩
  ·omega
  ·refine ⟨rfl, _, rfl, fun j v hv => ?_⟩
   obtain ⟨h1, rfl⟩ := getElem?_By l j v hv
   rw [Addr.add_lit]
   exact (hb1.cell (p := ⟨b, off + j, none⟩) hbb).trans (hc j (by omega))
 have HP := zaa hpos
 clear hpos
 go_wp2_with (refine wpList_copy_splice rfl _ _ 22 22 rfl 5 Tryz.underlying22 hsz _ _ n n n cap rfl rfl w.heap.size 0 cur 5 HC.out (By l) (by rw [zbk, hlen]; exact (Nat.min_self n).symm) HP.out (by rw [zbk]; omega) (zby l) w.heap.size w hb1 Lr ?_)
 intro w2 hh hb2
 have ho : Hid (Bk w2 w.heap.size l) := by
  have h' := hh.out
  rw [show splice cur 0 (By l) = By l from by simp [splice, zbk, hlen, hcs]] at h'
  exact zaa h'
 have HB2 := zaa hb2
 clear hh hb2
 go_wp2
 go_ret
 exact ⟨rfl, ho, HB2⟩
theorem ptaken_any (ka : Option Addr) (kn kc : Nat) (kd : Int) (va : Option Addr) (vn vc : Nat) (pg ct : Int) (w : World) (hk : kn ≤ 140737488355328) (hv : vn ≤ 140737488355328) :
  Calls Tryz.prog 70 #[.agg #[.slice ka kn kc, .int .i64 kd, .slice va vn vc, .int .i64 pg, .int .i64 ct]] w fun e w' => e = .returned (.int .i64 (if kd = 1 then 7 + (kn : Int) + (vn : Int) else 13 + (kn : Int))) ∧ Below w.heap.size w w' := by
 by_cases h : kd = 1
 ·subst h
  rw [if_pos rfl]
  go_enter Tryz.func70, Tryz.ntmps70
  go_wp2
  go_ret
  exact ⟨zbo (by omega), Br.alloc Lr _⟩
 ·rw [if_neg h]
  go_enter Tryz.func70, Tryz.ntmps70
  go_wp2
  go_ret
  exact ⟨zbo (by omega), Br.alloc Lr _⟩
theorem zek (v : Value) (B : Nat) (l : List Int) (ao : Option Addr) (n c : Nat) (t : List Int) (w : World) (hown : OwnB w B v l) (hB : B ≤ w.heap.size) (hs : Sl w ao n c t) (hf : Far ao n v) (hl : l.length + n ≤ 70368744177664) :
  Calls Tryz.prog 147 #[v, .slice ao n c] w fun e w' => ∃ v', e = .returned v' ∧ Hid (OwnB w' B v' (l ++ (fB 2 (n : Int) ++ t))) ∧ Hid (Gr w v w' v') := by
 have hlen := hs.hlen
 have hw : IntKind.u64.wrap (n : Int) = (n : Int) := by rw [IntKind.wrap_u64]; omega
 have HF := zaa (fixed_yes (n : Int) 2 w (by omega) (by omega) (by omega))
 have HS := zaa hs
 have HO := zaa hown
 have HFAR := zaa hf
 clear hs hown hf
 go_enter Tryz.func147, Tryz.ntmps147
 go_wp2_with (go_at_call 117; refine HF.out.mono ?_; rintro e w1 ⟨v1, rfl, ho1, hb1⟩; refine Hid.out ?_)
 apply zaa
 rw [show (2 : Int).toNat = 2 from rfl] at ho1
 obtain ⟨a1, c1, rfl, s1, _⟩ := ho1.sl (zbf _ _) (by rw [zah]; omega)
 rw [zah] at s1
 rw [zah]
 have HS1 := zaa s1
 have HO1 : Hid (OwnB w1 B v l) := zaa (HO.out.on Lr hb1)
 have G1 := zaa (Gr.ofBelow v hb1)
 have hB1 : B ≤ w1.heap.size := zN hB hb1.size
 have HSa : Hid (Sl w1 ao n c t) := zaa (HS.out.on Lr hb1)
 have HL : Hid ((fB 2 (n : Int)).length = 2) := zaa (zah _ _)
 obtain ⟨F, hF⟩ : ∃ F, fB 2 (n : Int) = F := ⟨_, rfl⟩
 have HFE := zaa hF
 rw [hF] at HL HS1
 clear hF
 clear s1 ho1 hb1 HF
 go_wp2_with (at_builtin; refine zau _ rfl _ _ rfl B l F v a1 2 c1 rfl rfl HO1.out HS1.out (by omega) hB1 ?_; refine Hid.out ?_)
 apply zaa
 intro v2 w2 ho2 g2
 have hB2 : B ≤ w2.heap.size := zN hB1 g2.grow.size
 have HSb : Hid (Sl w2 ao n c t) := zaa (HSa.out.gr g2 HFAR.out)
 have G2 := zaa (G1.out.trans g2)
 have HO2 := zaa ho2
 clear ho2 g2 HO1 HS1
 have hll : (l ++ F).length + n ≤ 140737488355328 := by rw [zG, HL.out]; omega
 go_wp2_with (at_builtin; refine zau _ rfl _ _ rfl B (l ++ F) t v2 ao n c rfl rfl HO2.out HSb.out hll hB2 ?_; refine Hid.out ?_)
 apply zaa
 intro v3 w3 ho3 g3
 have HO3 := zaa ho3
 have G3 := zaa (G2.out.trans g3)
 clear ho3 g3
 go_wp2
 go_ret
 exact ⟨v3, rfl, zaa (by rw [HFE.out]; first | exact HO3.out | (rw [← zM]; exact HO3.out)), G3⟩
theorem sl_one (w : World) (x : Int) (hx : 0 ≤ x ∧ x ≤ 255) : Sl (w.alloc (.cells #[.int .u8 x] 5)) (some ⟨w.heap.size, 0, none⟩) 1 1 [x] := by
 refine ⟨rfl, Lr, by omega, Wf.cons hx Wf.nil, (by intro h; cases h), .inr ⟨w.heap.size, 0, rfl, by simp, ?_⟩⟩
 intro i hi
 obtain rfl : i = 0 := by omega
 simp
theorem C5.box (w : World) (x0 x1 x2 x3 x4 : Value) : C5 (w.alloc (.cells #[x0, x1, x2, x3, x4] 50)) w.heap.size x0 x1 x2 x3 x4 := heap_alloc_last w _
theorem C5.gr {w w' : World} {v v' : Value} {g : Nat} {x0 x1 x2 x3 x4 : Value} (h : C5 w g x0 x1 x2 x3 x4) (hg : Gr w v w' v') (hv : v.ownBlock ≠ some g) : C5 w' g x0 x1 x2 x3 x4 := (hg.grow.block g (zaf h) (fun e => hv e.symm)).trans h
theorem OwnB.apart5 {w : World} {B : Nat} {v : Value} {l : List Int} (h : OwnB w B v l) {g : Nat} {x0 x1 x2 x3 x4 : Value} (hc : C5 w g x0 x1 x2 x3 x4) : v.ownBlock ≠ some g := by
 intro e
 unfold OwnB at h
 rcases h.2 with ⟨rfl, _⟩ | ⟨q, cap, cur, rfl, _, hh, _⟩
 ·cases e
 ·simp only [Value.ownBlock, Option.some.injEq] at e
  subst e
  unfold C5 at hc
  rw [hc] at hh
  simp at hh
theorem appended_any (v : Value) (B : Nat) (l : List Int) (ka : Option Addr) (kn kc : Nat) (kd : Int) (va : Option Addr) (vn vc : Nat) (pg ct : Int) (key val : List Int) (w : World) (hown : OwnB w B v l) (hB : B ≤ w.heap.size)
  (hk : Sl w ka kn kc key) (hv : Sl w va vn vc val) (fk : Far ka kn v) (fv : Far va vn v) (hp : 0 ≤ pg ∧ pg < 4294967296) (hc : 0 ≤ ct ∧ ct < 4294967296) (hl : l.length + kn + vn ≤ 35184372088832) :
  Calls Tryz.prog 113 #[v, .agg #[.slice ka kn kc, .int .i64 kd, .slice va vn vc, .int .i64 pg, .int .i64 ct]] w fun e w' => ∃ v', e = .returned v' ∧ Hid (OwnB w' B v' (l ++ cB ⟨key, kd, val, pg, ct⟩)) ∧ Hid (Gr w v w' v') := by
 have HKL := zaa hk.hlen
 have HVL := zaa hv.hlen
 have hp0 := hp.1
 have hp1 := hp.2
 have hc0 := hc.1
 have hc1 := hc.2
 have hwp : IntKind.u64.wrap pg = pg := by rw [IntKind.wrap_u64]; omega
 have hwc : IntKind.u64.wrap ct = ct := by rw [IntKind.wrap_u64]; omega
 obtain ⟨s, hs⟩ : ∃ s, w.heap.size = s := ⟨_, rfl⟩
 obtain ⟨x, hx⟩ : ∃ x, (w.alloc (.cells #[.slice ka kn kc, .int .i64 kd, .slice va vn vc, .int .i64 pg, .int .i64 ct] 50)).alloc (.cells #[.int .u8 (kd % 256)] 5) = x := ⟨_, rfl⟩
 have hbx : Below w.heap.size w x := by rw [← hx]; exact zad (zad Br Lr _) Lr _
 have HBX : Hid (C5 x s (.slice ka kn kc) (.int .i64 kd) (.slice va vn vc) (.int .i64 pg) (.int .i64 ct)) := by
  rw [← hx, ← hs]
  exact zaa ((Below.heap_alloc _ _ _ (by simp)).trans (heap_alloc_last w _))
 have H1 : Hid (Sl x (some ⟨s + 1, 0, none⟩) 1 1 [kd % 256]) := by
  have := sl_one (w.alloc (.cells #[.slice ka kn kc, .int .i64 kd, .slice va vn vc, .int .i64 pg, .int .i64 ct] 50)) (kd % 256) (by omega)
  rw [hx] at this
  rw [← hs]
  exact zaa (by simpa using this)
 have HO : Hid (OwnB x B v l) := zaa (hown.on Lr hbx)
 have HK : Hid (Sl x ka kn kc key) := zaa (hk.on Lr hbx)
 have HV : Hid (Sl x va vn vc val) := zaa (hv.on Lr hbx)
 have HFK := zaa fk
 have HFV := zaa fv
 have HG : Hid (Gr w v x v) := zaa (Gr.ofBelow v hbx)
 have hBx : B ≤ x.heap.size := zN hB hbx.size
 clear hown hk hv fk fv hbx
 go_enter Tryz.func113, Tryz.ntmps113
 go_wp2_with (at_builtin; refine zau _ rfl _ _ rfl B l [kd % 256] v (some ⟨s + 1, 0, none⟩) 1 1 rfl rfl HO.out H1.out (by omega) hBx ?_; refine Hid.out ?_)
 apply zaa
 intro v1 w1 ho1 g1
 have HO1 := zaa ho1
 have HBX1 : Hid (C5 w1 s (.slice ka kn kc) (.int .i64 kd) (.slice va vn vc) (.int .i64 pg) (.int .i64 ct)) := zaa (HBX.out.gr g1 (HO.out.apart5 HBX.out))
 have HK1 : Hid (Sl w1 ka kn kc key) := zaa (HK.out.gr g1 HFK.out)
 have HV1 : Hid (Sl w1 va vn vc val) := zaa (HV.out.gr g1 HFV.out)
 have HFK1 : Hid (Far ka kn v1) := zaa (HFK.out.gr HK.out g1)
 have HFV1 : Hid (Far va vn v1) := zaa (HFV.out.gr HV.out g1)
 have HG1 : Hid (Gr w v w1 v1) := zaa (HG.out.trans g1)
 have hB1 : B ≤ w1.heap.size := zN hBx g1.grow.size
 clear ho1 g1 HO HBX HK HV HFK HFV HG H1 hx
 obtain ⟨c0, c1, c2, c3, c4⟩ := HBX1.out.cells
 have T1 := zaa (zek v1 B (l ++ [kd % 256]) ka kn kc key w1 HO1.out hB1 HK1.out HFK1.out (by rw [zG]; simp; omega))
 go_wp2_with (go_at_call 147; refine T1.out.mono ?_; rintro e w2 ⟨v2, rfl, HO2, HG2⟩; refine Hid.out ?_)
 apply zaa
 have HBX2 : Hid (C5 w2 s (.slice ka kn kc) (.int .i64 kd) (.slice va vn vc) (.int .i64 pg) (.int .i64 ct)) := zaa (HBX1.out.gr HG2.out (HO1.out.apart5 HBX1.out))
 have HV2 : Hid (Sl w2 va vn vc val) := zaa (HV1.out.gr HG2.out HFV1.out)
 have HFV2 : Hid (Far va vn v2) := zaa (HFV1.out.gr HV1.out HG2.out)
 have hB2 : B ≤ w2.heap.size := zN hB1 HG2.out.grow.size
 have HGG : Hid (Gr w v w2 v2) := zaa (HG1.out.trans HG2.out)
 clear c0 c1 c2 c3 c4 T1 HBX1 HK1 HV1 HFK1 HFV1 HG1 HO1 HG2
 obtain ⟨c0, c1, c2, c3, c4⟩ := HBX2.out.cells
 by_cases h1 : kd = 1
 ·subst h1
  have T2 := zaa (zek v2 B _ va vn vc val w2 HO2.out hB2 HV2.out HFV2.out (by simp only [zG, zah, HKL.out]; simp; omega))
  go_wp2_with (go_at_call 147; refine T2.out.mono ?_; rintro e w3 ⟨v3, rfl, HO3, HG3⟩)
  go_ret
  refine ⟨v3, rfl, zaa ?_, zaa (HGG.out.trans HG3.out)⟩
  have h := HO3.out
  simp only [zM] at h
  rw [cB, HKL.out, HVL.out]
  simpa using h
 ·obtain ⟨L2, hL2⟩ : ∃ L2, l ++ [kd % 256] ++ (fB 2 (kn : Int) ++ key) = L2 := ⟨_, rfl⟩
  rw [hL2] at HO2
  have HL2 := zaa hL2
  have HLL : Hid (L2.length = l.length + 3 + kn) := by
   rw [← hL2]
   refine zaa ?_
   simp only [zG, zah, HKL.out, List.length_cons, List.length_nil]
   omega
  clear hL2
  have F1 := zaa (fixed_yes pg 4 w2 (by omega) (by omega) (by omega))
  go_wp2_with (go_at_call 117; refine F1.out.mono ?_; rintro e w3 ⟨p1, rfl, ho3, hb3⟩; refine Hid.out ?_)
  apply zaa
  rw [show (4 : Int).toNat = 4 from rfl] at ho3
  obtain ⟨a1, y1, rfl, s1, _⟩ := ho3.sl (zbf _ _) (by rw [zah]; omega)
  rw [zah] at s1
  rw [zah]
  have HS3 := zaa s1
  have HO3 : Hid (OwnB w3 B v2 L2) := zaa (HO2.out.on Lr hb3)
  have HG3 := zaa (HGG.out.trans (Gr.ofBelow v2 hb3))
  have HBX3 : Hid (C5 w3 s (.slice ka kn kc) (.int .i64 kd) (.slice va vn vc) (.int .i64 pg) (.int .i64 ct)) := zaa (zag HBX2.out hb3)
  have hB3 : B ≤ w3.heap.size := zN hB2 hb3.size
  clear s1 ho3 hb3 F1 c0 c1 c2 c3 c4 HBX2 HO2 HGG HV2 HFV2
  have hl3 : L2.length + 4 ≤ 140737488355328 := by rw [HLL.out]; omega
  go_wp2_with (at_builtin; refine zau _ rfl _ _ rfl B L2 (fB 4 pg) v2 a1 4 y1 rfl rfl HO3.out HS3.out hl3 hB3 ?_; refine Hid.out ?_)
  apply zaa
  intro v4 w4 ho4 g4
  have HO4 := zaa ho4
  have HG4 := zaa (HG3.out.trans g4)
  have HBX4 : Hid (C5 w4 s (.slice ka kn kc) (.int .i64 kd) (.slice va vn vc) (.int .i64 pg) (.int .i64 ct)) := zaa (HBX3.out.gr g4 (HO3.out.apart5 HBX3.out))
  have hB4 : B ≤ w4.heap.size := zN hB3 g4.grow.size
  clear ho4 g4 HO3 HBX3 HG3 HS3
  obtain ⟨c0, c1, c2, c3, c4⟩ := HBX4.out.cells
  have F2 := zaa (fixed_yes ct 4 w4 (by omega) (by omega) (by omega))
  go_wp2_with (go_at_call 117; refine F2.out.mono ?_; rintro e w5 ⟨p2, rfl, ho5, hb5⟩; refine Hid.out ?_)
  apply zaa
  rw [show (4 : Int).toNat = 4 from rfl] at ho5
  obtain ⟨a2, y2, rfl, s2, _⟩ := ho5.sl (zbf _ _) (by rw [zah]; omega)
  rw [zah] at s2
  rw [zah]
  have HS5 := zaa s2
  have HO5 : Hid (OwnB w5 B v4 (L2 ++ fB 4 pg)) := zaa (HO4.out.on Lr hb5)
  have HG5 := zaa (HG4.out.trans (Gr.ofBelow v4 hb5))
  have hB5 : B ≤ w5.heap.size := zN hB4 hb5.size
  have hl5 : (L2 ++ fB 4 pg).length + 4 ≤ 140737488355328 := by rw [zG, HLL.out, zah]; omega
  clear s2 ho5 hb5 F2 c0 c1 c2 c3 c4 HBX4 HO4 HG4 hl3
  go_wp2_with (at_builtin; refine zau _ rfl _ _ rfl B (L2 ++ fB 4 pg) (fB 4 ct) v4 a2 4 y2 rfl rfl HO5.out HS5.out hl5 hB5 ?_; refine Hid.out ?_)
  apply zaa
  intro v6 w6 ho6 g6
  have HO6 := zaa ho6
  have HG6 := zaa (HG5.out.trans g6)
  clear ho6 g6 HO5 HG5 HS5
  go_wp2
  go_ret
  refine ⟨v6, rfl, zaa ?_, HG6⟩
  have h := HO6.out
  rw [← HL2.out] at h
  simp only [zM] at h
  rw [cB, HKL.out]
  simpa [h1] using h
end Go.Proofs.YtbkhjeacmmbabaaGreatDoor
namespace Go.Proofs.YtbkhjeacmmbabaaGreatDoor
set_option maxRecDepth 100000
set_option maxHeartbeats 1000000
theorem rU_spec (l : List Int) : ∀ (p : Int) (i : Nat) (n : Int), Wf l → 0 ≤ n → n < 128 ^ i → i ≤ 9 →
  ((rU p l i n).2.2 ≠ 0 ∧ (rU p l i n).1 = 0 ∧ (rU p l i n).2.1 = 0) ∨
  ((rU p l i n).2.2 = 0 ∧ ∃ (k : Nat) (M : Int), 1 ≤ k ∧ k ≤ l.length ∧ (rU p l i n).2.1 = p + i + k ∧ 0 ≤ M ∧ (rU p l i n).1 = n + M * 128 ^ i ∧ (rU p l i n).1 < 18446744073709551616 ∧ l.take k = uB M ∧ (0 < i → 0 < M)) := by
 induction l with
 | nil => intro p i n _ _ _ _; left; simp [rU]
 | cons c r ih =>
  intro p i n hw h0 hn hi
  have hc := hw c (by simp)
  have hr : Wf r := fun x hx => hw x (by simp [hx])
  have hpos : (0 : Int) < 128 ^ i := Int.pow_pos (by omega)
  rw [rU]
  by_cases h9 : i = 9 ∧ 1 < c
  ·left; rw [if_pos h9]; simp
  ·rw [if_neg h9]
   by_cases h128 : 128 ≤ c
   ·rw [if_pos h128]
    have hi8 : i < 9 := by omega
    have hup := or_up n (c - 128) i h0 hn (by omega) (by omega) (.inl hi8)
    have hnn : 0 ≤ n + (c - 128) * 128 ^ i := by
     have : 0 ≤ (c - 128) * 128 ^ i := Int.mul_nonneg (by omega) (Int.le_of_lt hpos)
     omega
    rcases ih p (i + 1) (n + (c - 128) * 128 ^ i) hr hnn hup.2.1 (by omega) with h | ⟨he, k, M, hk1, hk2, ht, hM0, hN, hlt, htk, hMp⟩
    ·exact .inl h
    ·right
     have hMp' := hMp (by omega)
     refine ⟨he, k + 1, (c - 128) + 128 * M, by omega, by simp; omega, by rw [ht]; push_cast; omega, by omega, ?_, hlt, ?_, fun _ => by omega⟩
     ·rw [hN, Int.pow_succ, Int.add_mul, Int.mul_comm (128 ^ i) 128, ← Int.mul_assoc, Int.mul_comm M 128]
      omega
     ·have hMlt : (c - 128) + 128 * M < 18446744073709551616 := by
       have h1 : (c - 128) + 128 * M ≤ ((c - 128) + 128 * M) * 128 ^ i := by
        have := Int.mul_le_mul_of_nonneg_left (show (1 : Int) ≤ 128 ^ i by omega) (show 0 ≤ (c - 128) + 128 * M by omega)
        omega
       have h2 : (rU p r (i + 1) (n + (c - 128) * 128 ^ i)).1 = n + ((c - 128) + 128 * M) * 128 ^ i := by
        rw [hN, Int.pow_succ, Int.add_mul, Int.mul_comm (128 ^ i) 128, ← Int.mul_assoc, Int.mul_comm M 128]
        omega
       omega
      rw [uB_step (by omega) hMlt, List.take_succ_cons, htk]
      congr 1
      ·omega
      ·congr 1
       omega
   ·rw [if_neg h128]
    by_cases hz : c = 0 ∧ 0 < i
    ·left; rw [if_pos hz]; simp
    ·right
     rw [if_neg hz]
     have hup := or_up n c i h0 hn (by omega) (by omega) (by omega)
     have hlt : n + c * 128 ^ i < 18446744073709551616 := by
      rcases hup.2.2 with h | h
      ·have h2 : i = 0 ∨ i = 1 ∨ i = 2 ∨ i = 3 ∨ i = 4 ∨ i = 5 ∨ i = 6 ∨ i = 7 ∨ i = 8 := by omega
       have h3 := hup.2.1
       rcases h2 with rfl | rfl | rfl | rfl | rfl | rfl | rfl | rfl | rfl <;> simp at h3 ⊢ <;> omega
      ·exact h
     exact ⟨rfl, 1, c, by omega, by simp, by simp, by omega, rfl, hlt, by rw [uB_small (by omega)]; rfl, fun h => by omega⟩
end Go.Proofs.YtbkhjeacmmbabaaGreatDoor
namespace Go.Proofs.YtbkhjeacmmbabaaGreatDoor
set_option maxRecDepth 100000
set_option maxHeartbeats 1000000
theorem zcp (n : Int) : 1 ≤ (uB n).length := (zbe n).2
def pU (l : List Int) : Option (Int × List Int) := if (rU 0 l 0 0).2.2 = 0 then some ((rU 0 l 0 0).1, l.drop (rU 0 l 0 0).2.1.toNat) else none
theorem pU_mid (n : Int) (r : List Int) (h0 : 0 ≤ n) (h : n < 18446744073709551616) : pU (uB n ++ r) = some (n, r) := by
 unfold pU
 rw [rU_uB 0 n r h0 h]
 simp
theorem pU_inv {l r : List Int} {n : Int} (hw : Wf l) (h : pU l = some (n, r)) : l = uB n ++ r ∧ 0 ≤ n ∧ n < 18446744073709551616 ∧ Wf r := by
 unfold pU at h
 split at h
 ·next he =>
  simp only [Option.some.injEq, Prod.mk.injEq] at h
  obtain ⟨h1, h2⟩ := h
  rcases rU_spec l 0 0 0 hw (by omega) (by omega) (by omega) with ⟨g, _⟩ | ⟨_, k, M, g1, g2, g3, g4, g5, g6, g7, _⟩
  ·exact absurd he g
  ·have e1 : n = M := by rw [← h1, g5]; simp
   have e2 : (rU 0 l 0 0).2.1.toNat = k := by rw [g3]; omega
   rw [e2] at h2
   subst e1
   refine ⟨?_, g4, by rw [← h1]; exact g6, by rw [← h2]; exact hw.drop _⟩
   rw [← h2, ← g7, List.take_append_drop]
 ·cases h
def pT (l : List Int) : Option (List Int × List Int) :=
 match pU l with
 | none => none
 | some (n, r) => if (r.length : Int) < n then none else some (r.take n.toNat, r.drop n.toNat)
def pC (l : List Int) : Option (Cl × List Int) :=
 match pNum 1 l with
 | none => none
 | some (k, r) =>
  match pT r with
  | none => none
  | some (key, r) =>
   if k = 1 then
    match pT r with
    | none => none
    | some (val, r) => some (⟨key, k, val, 0, 0⟩, r)
   else
    match pU r with
    | none => none
    | some (p, r) =>
     match pU r with
     | none => none
     | some (c, r) => some (⟨key, k, [], RowKit.wrap64 p, RowKit.wrap64 c⟩, r)
def qB (m : Nat) (c : Cl) : List Int := [c.kd % 256] ++ (uB ((c.key.length - m : Nat) : Int) ++ (c.key.drop m ++ (if c.kd = 1 then uB c.val.length ++ c.val else uB (c.pg % 18446744073709551616) ++ uB (c.ct % 18446744073709551616))))
def tL (n : Nat) : Nat := (uB (n : Int)).length + n
def qtk (m : Nat) (c : Cl) : Nat := 3 + tL (c.key.length - m) + (if c.kd = 1 then tL c.val.length else (uB (c.pg % 18446744073709551616)).length + (uB (c.ct % 18446744073709551616)).length)
theorem qB_length (m : Nat) (c : Cl) : (qB m c).length + 2 = qtk m c := by
 unfold qB qtk tL
 split <;> simp only [zG, List.length_cons, List.length_nil, zK] <;> omega
theorem qB_wf {m : Nat} {c : Cl} (h : c.Wf) (h1 : c.key.length < 18446744073709551616) (h2 : c.val.length < 18446744073709551616) : Wf (qB m c) := by
 unfold qB
 refine Wf.append (Wf.cons (by omega) Wf.nil) (Wf.append (uB_wf (by omega) (by omega)) (Wf.append (h.1.drop m) ?_))
 split
 ·exact Wf.append (uB_wf (by omega) (by omega)) h.2
 ·exact Wf.append (uB_wf (by omega) (by omega)) (uB_wf (by omega) (by omega))
def Cl.cut (c : Cl) (m : Nat) : Cl := ⟨c.key.drop m, c.kd, c.val, c.pg, c.ct⟩
def Cl.pre (c : Cl) (P : List Int) : Cl := ⟨P ++ c.key, c.kd, c.val, c.pg, c.ct⟩
theorem Cl.cut_pre (c : Cl) (m : Nat) (P : List Int) (h : c.key.take m = P) : (c.cut m).pre P = c := by
 subst h
 obtain ⟨key, kd, val, pg, ct⟩ := c
 simp [Cl.cut, Cl.pre, List.take_append_drop]
theorem pT_mid (t r : List Int) (h : t.length < 18446744073709551616) : pT (uB t.length ++ (t ++ r)) = some (t, r) := by
 unfold pT
 rw [pU_mid _ _ (by omega) (by omega)]
 simp only
 rw [if_neg (by rw [zG]; omega), Int.toNat_natCast, List.take_left, List.drop_left]
theorem pC_mid (m : Nat) (c : Cl) (r : List Int) (h : c.fit) : pC (qB m c ++ r) = some (c.cut m, r) := by
 obtain ⟨key, kd, val, pg, ct⟩ := c
 obtain ⟨h1, h2, h3, h4, h5, h6, h7⟩ := h
 simp only at h1 h2 h3 h4 h5 h6 h7
 unfold qB pC Cl.cut
 simp only
 rw [zM, show ([kd % 256] : List Int) = fB 1 kd from by simp [fB], pNum_mid 1 kd _ h1.1 (by omega)]
 simp only
 rw [zM, zM, show key.length - m = (key.drop m).length from by rw [zK], pT_mid _ _ (by rw [zK]; omega)]
 simp only
 by_cases e : kd = 1
 ·rw [if_pos e, if_pos e, zM, pT_mid _ _ (by omega)]
  simp only
  obtain ⟨rfl, rfl⟩ := h6 e
  rfl
 ·have e4 : pg % 18446744073709551616 = pg := by omega
  have e5 : ct % 18446744073709551616 = ct := by omega
  rw [if_neg e, if_neg e, zM, e4, e5, pU_mid pg _ h4.1 (by omega)]
  simp only
  rw [pU_mid ct _ h5.1 (by omega)]
  simp only
  have e6 : RowKit.wrap64 pg = pg := by unfold RowKit.wrap64; omega
  have e7 : RowKit.wrap64 ct = ct := by unfold RowKit.wrap64; omega
  rw [h7 e, e6, e7]
theorem pT_inv {l r t : List Int} (hw : Wf l) (h : pT l = some (t, r)) : l = uB t.length ++ (t ++ r) ∧ Wf t ∧ Wf r := by
 unfold pT at h
 split at h
 ·cases h
 ·next n r' e =>
  obtain ⟨h1, h2, h3, h4⟩ := pU_inv hw e
  split at h
  ·cases h
  ·next hl =>
   simp only [Option.some.injEq, Prod.mk.injEq] at h
   obtain ⟨rfl, rfl⟩ := h
   have ht : (r'.take n.toNat).length = n.toNat := by rw [zJ]; omega
   refine ⟨?_, h4.take _, h4.drop _⟩
   rw [ht, Int.toNat_of_nonneg h2, List.take_append_drop]
   exact h1
theorem pC_inv {l r : List Int} {c : Cl} (hw : Wf l) (h : pC l = some (c, r)) : l = qB 0 c ++ r ∧ c.Wf ∧ Wf r ∧ (0 ≤ c.kd ∧ c.kd ≤ 255) := by
 unfold pC at h
 split at h
 ·cases h
 ·next k r1 e1 =>
  obtain ⟨h1, h2, h3, h4⟩ := pNum_inv hw e1
  split at h
  ·cases h
  ·next key r2 e2 =>
   obtain ⟨g1, g3, g4⟩ := pT_inv h4 e2
   split at h
   ·next hk =>
    split at h
    ·cases h
    ·next val r3 e3 =>
     obtain ⟨f1, f3, f4⟩ := pT_inv g4 e3
     simp only [Option.some.injEq, Prod.mk.injEq] at h
     obtain ⟨rfl, rfl⟩ := h
     refine ⟨?_, ⟨g3, f3⟩, f4, by simp only; omega⟩
     rw [h1, g1, f1]
     simp [qB, hk, fB]
   ·next hk =>
    split at h
    ·cases h
    ·next p r3 e3 =>
     obtain ⟨f1, f2, f3, f4⟩ := pU_inv g4 e3
     split at h
     ·cases h
     ·next ct r4 e4 =>
      obtain ⟨d1, d2, d3, d4⟩ := pU_inv f4 e4
      simp only [Option.some.injEq, Prod.mk.injEq] at h
      obtain ⟨rfl, rfl⟩ := h
      have e5 : RowKit.wrap64 p % 18446744073709551616 = p := by unfold RowKit.wrap64; omega
      have e6 : RowKit.wrap64 ct % 18446744073709551616 = ct := by unfold RowKit.wrap64; omega
      refine ⟨?_, ⟨g3, Wf.nil⟩, d4, by simp only; omega⟩
      rw [h1, g1, f1, d1]
      simp [qB, hk, fB, e5, e6]
end Go.Proofs.YtbkhjeacmmbabaaGreatDoor
namespace Go.Proofs.YtbkhjeacmmbabaaGreatDoor
set_option maxRecDepth 100000
set_option maxHeartbeats 1000000
open Go.RowKit
theorem readUint_end (ao : Option Addr) (n cap : Nat) (w : World) (hn : n ≤ 140737488355328) :
  Calls Tryz.prog 173 #[.slice ao n cap, .int .i64 n] w fun e w' => e = .returned (.tuple #[.int .u64 0, .int .i64 0, .int .i64 10]) ∧ w' = w := by
 go_enter Tryz.func173, Tryz.ntmps173
 go_wp2_with (go_at_call 176; refine zac (zdz _ _ _ _ _ (by omega) (by omega)) ?_)
 all_goals
  refine wp_loop_rounds 1 ?_
  rw [rounds_succ]
  go_wp2
  go_ret3
  exact ⟨rfl, rfl⟩
theorem readUint_in (b off n cap : Nat) (l : List Int) (p : Nat) (w : World) (hs : Sl w (some ⟨b, off, none⟩) n cap l) (hp : p < n) :
  Calls Tryz.prog 173 #[.slice (some ⟨b, off, none⟩) n cap, .int .i64 p] w fun e w' => e = .returned (.tuple #[.int .u64 (rU p (l.drop p) 0 0).1, .int .i64 (rU p (l.drop p) 0 0).2.1, .int .i64 (rU p (l.drop p) 0 0).2.2]) ∧ w' = w := by
 obtain ⟨hlen, hcap, hroom, hwf, hnil, hat⟩ := hs
 rcases hat with h | ⟨b', off', he, hb, hc⟩
 ·omega
 cases he
 go_enter Tryz.func173, Tryz.ntmps173
 go_wp2_with (go_at_call 176; refine zac (zdz _ _ _ _ _ (by omega) (by omega)) ?_)
 go_loop [7, 18] (fun v i => ∃ (k : Nat) (m : Int), k ≤ n - p ∧ k ≤ 9 ∧ i = .int .i64 k ∧ v = .int .u64 m ∧ 0 ≤ m ∧ m < 128 ^ k ∧ rU p (l.drop (p + k)) k m = rU p (l.drop p) 0 0) (fun _ i => (n - p) - (intOf i).toNat)
 case atStart => exact ⟨0, 0, by omega, by omega, rfl, rfl, by omega, by simp, rfl⟩
 case round =>
  obtain ⟨k, m, hk, hk9, rfl, rfl, hm0, hm, hR⟩ := hrel
  have HR := zaa hR
  clear hR
  by_cases hlt : k < n - p
  ·have hck : w.cell? ⟨b, off + p + k, none⟩ = some (.int .u8 (l.getD (p + k) 0)) := by
    rw [Nat.add_assoc, hc (p + k) (by omega)]
   have hby := hwf.getD (p + k)
   have HD := zaa (zbz l (p + k) (by omega))
   generalize l.getD (p + k) 0 = c at *
   by_cases h9 : k = 9 ∧ 1 < c
   ·obtain ⟨rfl, hc1⟩ := h9
    have e : rU p (l.drop p) 0 0 = (0, 0, 12) := by rw [← HR.out, HD.out, rU, if_pos ⟨rfl, hc1⟩]
    have HE := zaa e
    clear e
    go_wp2
    go_ret3
    exact ⟨by rw [HE.out]; rfl, rfl⟩
   ·by_cases hcc : 128 ≤ c
    ·have hand := andNot_hi c hcc hby.2
     have h9' : k < 9 := by omega
     clear h9
     have hup := or_up m (c - 128) k hm0 hm (by omega) (by omega) (.inl h9')
     have HU := zaa hup.1
     have HL := zaa hup.2.1
     have hd0 : 0 ≤ (c - 128) * 128 ^ k := Int.mul_nonneg (by omega) (Int.le_of_lt (Int.pow_pos (by omega)))
     clear hup
     go_wp2
     go_round
     case rel =>
      refine ⟨k + 1, m + (c - 128) * 128 ^ k, by omega, by omega, by go_num, by rw [HU.out], by omega, HL.out, ?_⟩
      rw [← HR.out, HD.out, rU, if_neg (by omega), if_pos hcc, Nat.add_assoc]
     case measure => simp [intOf]; omega
    ·have hand := andNot_lo c hby.1 (by omega)
     have hup := or_up m c k hm0 hm (by omega) (by omega) (by omega)
     have HU := zaa hup.1
     clear hup
     by_cases h0 : c = 0 ∧ 0 < k
     ·obtain ⟨rfl, hk0⟩ := h0
      have e : rU p (l.drop p) 0 0 = (0, 0, 11) := by rw [← HR.out, HD.out, rU, if_neg (by omega), if_neg (by omega), if_pos ⟨rfl, hk0⟩]
      have HE := zaa e
      clear e HU
      by_cases h9k : k = 9
      ·subst h9k
       go_wp2
       go_ret3
       exact ⟨by rw [HE.out]; rfl, rfl⟩
      ·have hb9 : ((k : Int) == 9) = false := by simp; omega
       go_wp2
       go_ret3
       exact ⟨by rw [HE.out]; rfl, rfl⟩
     ·have e : rU p (l.drop p) 0 0 = (m + c * 128 ^ k, (p : Int) + k + 1, 0) := by rw [← HR.out, HD.out, rU, if_neg (by omega), if_neg (by omega), if_neg h0]
      have HE := zaa e
      clear e
      by_cases h9k : k = 9
      ·subst h9k
       obtain rfl : c = 1 := by omega
       have hor := HU.out
       rw [show IntKind.u64.wrap (1 * 2 ^ (7 * 9)) = 9223372036854775808 by rw [IntKind.wrap_u64]; decide] at hor
       have HO := zaa hor
       clear hor HU
       go_wp2
       go_ret3
       exact ⟨by rw [HE.out, ← HO.out]; rfl, rfl⟩
      ·have hb9 : ((k : Int) == 9) = false := by simp; omega
       by_cases hc0 : c = 0
       ·subst hc0
        have hk0 : k ≤ 0 := by omega
        have ho : bits .or .u64 m 0 = m := by
         have := HU.out
         simp only [Int.zero_mul, Int.add_zero] at this
         rw [show IntKind.u64.wrap 0 = 0 by decide] at this
         exact this
        have hE := HE.out
        simp only [Int.zero_mul, Int.add_zero] at hE
        have HE' := zaa hE
        clear hE HE HU
        go_wp2
        go_ret3
        exact ⟨by rw [HE'.out]; rfl, rfl⟩
       ·have hb0 : (c == 0) = false := by simp; omega
        go_wp2
        go_ret3
        exact ⟨by rw [HE.out, ← HU.out]; rfl, rfl⟩
  ·have e : rU p (l.drop p) 0 0 = (0, 0, 10) := by rw [← HR.out, List.drop_eq_nil_of_le (by omega), rU]
   have HE := zaa e
   clear e
   go_wp2
   go_ret3
   exact ⟨by rw [HE.out]; rfl, rfl⟩
theorem readUint_any (ao : Option Addr) (n cap : Nat) (l : List Int) (p' : Int) (w : World) (hs : Sl w ao n cap l) (h0 : 0 ≤ p') (hp : p' ≤ n) :
  Calls Tryz.prog 173 #[.slice ao n cap, .int .i64 p'] w fun e w' => e = .returned (.tuple #[.int .u64 (rU p' (l.drop p'.toNat) 0 0).1, .int .i64 (rU p' (l.drop p'.toNat) 0 0).2.1, .int .i64 (rU p' (l.drop p'.toNat) 0 0).2.2]) ∧ w' = w := by
 obtain ⟨p, rfl⟩ := Int.eq_ofNat_of_zero_le h0
 rw [Int.toNat_natCast]
 by_cases h : p = n
 ·subst h
  rw [List.drop_eq_nil_of_le (by rw [hs.hlen]; exact Lr)]
  exact readUint_end ao p cap w hs.hroom
 ·rcases hs.hat with h' | ⟨b, off, rfl, hb, hc⟩
  ·omega
  ·exact readUint_in b off n cap l p w hs (by omega)
def Rdq (w : World) (r : Nat) (ao : Option Addr) (n cap at_ : Nat) (en : Bool) : Prop := w.heap[r]? = some (.cells #[.slice ao n cap, .int .i64 (at_ : Int), .bool en] 159 (0, 0))
theorem Rdq.c0 {w : World} {r : Nat} {ao : Option Addr} {n cap at_ : Nat} {en : Bool} (h : Rdq w r ao n cap at_ en) : w.cell? ⟨r, 0, none⟩ = some (.slice ao n cap) := by rw [cell_of_row _ _ 0 _ _ _ h]; rfl
theorem Rdq.c1 {w : World} {r : Nat} {ao : Option Addr} {n cap at_ : Nat} {en : Bool} (h : Rdq w r ao n cap at_ en) : w.cell? ⟨r, 1, none⟩ = some (.int .i64 (at_ : Int)) := by rw [cell_of_row _ _ 1 _ _ _ h]; rfl
theorem Rdq.c2 {w : World} {r : Nat} {ao : Option Addr} {n cap at_ : Nat} {en : Bool} (h : Rdq w r ao n cap at_ en) : w.cell? ⟨r, 2, none⟩ = some (.bool en) := by rw [cell_of_row _ _ 2 _ _ _ h]; rfl
theorem Rdq.free {w : World} {r : Nat} {ao : Option Addr} {n cap at_ : Nat} {en : Bool} (h : Rdq w r ao n cap at_ en) (k : Nat) : w.frozen? ⟨r, k, none⟩ = false := by
 unfold Rdq at h
 simp [World.frozen?, h]
theorem Rdq.drewN {w : World} {r : Nat} {ao : Option Addr} {n cap at_ : Nat} {en : Bool} (h : Rdq w r ao n cap at_ en) (q : Nat) : Rdq (w.drewN q) r ao n cap at_ en := h
theorem Rdq.lt {w : World} {r : Nat} {ao : Option Addr} {n cap at_ : Nat} {en : Bool} (h : Rdq w r ao n cap at_ en) : r < w.heap.size := zaf h
theorem Rdq.set1 {w : World} {r : Nat} {ao : Option Addr} {n cap at_ : Nat} {en : Bool} (h : Rdq w r ao n cap at_ en) (x : Nat) : Rdq (w.setCell ⟨r, 1, none⟩ (.int .i64 (x : Int))) r ao n cap x en := by
 unfold Rdq at *
 have := zaw (w := w) (a := r) (cs := [.slice ao n cap, .int .i64 (at_ : Int), .bool en]) (i := 1) (u := .int .i64 (x : Int)) h
 simpa using this
theorem Rdq.set2 {w : World} {r : Nat} {ao : Option Addr} {n cap at_ : Nat} {en : Bool} (h : Rdq w r ao n cap at_ en) (x : Bool) : Rdq (w.setCell ⟨r, 2, none⟩ (.bool x)) r ao n cap at_ x := by
 unfold Rdq at *
 have := zaw (w := w) (a := r) (cs := [.slice ao n cap, .int .i64 (at_ : Int), .bool en]) (i := 2) (u := .bool x) h
 simpa using this
theorem Sl.apartq {w : World} {ao : Option Addr} {n cap : Nat} {l : List Int} (h : Sl w ao n cap l) {r : Nat} {a : Option Addr} {b c d : Nat} {en : Bool} (hr : Rdq w r a b c d en) : n = 0 ∨ ∀ p, ao = some p → p.block ≠ r := by
 rcases h.hat with h0 | ⟨g, off, rfl, hg, hc⟩
 ·exact .inl h0
 ·rcases Nat.eq_zero_or_pos n with h0 | h0
  ·exact .inl h0
  ·right
   rintro p hp rfl
   injection hp with hp
   subst hp
   have h1 := hc 0 h0
   rw [cell_of_row _ _ _ _ _ _ hr] at h1
   rcases Nat.lt_or_ge (off + 0) 3 with h3 | h3
   ·have h4 : off + 0 = 0 ∨ off + 0 = 1 ∨ off + 0 = 2 := by omega
    rcases h4 with h4 | h4 | h4 <;> (rw [h4] at h1; simp at h1)
   ·rw [Array.getElem?_eq_none (by simpa using h3)] at h1
    cases h1
def UNumTo (l : List Int) (w : World) (r : Nat) (ao : Option Addr) (n cap at_ : Nat) (en : Bool) (e : Ending) (w' : World) : Prop :=
 ∃ (v : Int) (p : Nat) (en' : Bool), e = .returned (.int .u64 v) ∧ Hid (Rdq w' r ao n cap p en') ∧ Hid (Cf (· = r) w w') ∧ Hid ((0 ≤ v ∧ v < 18446744073709551616) ∧ p ≤ n ∧ ((pU (l.drop at_) = some (v, l.drop p) ∧ en' = en) ∨ (pU (l.drop at_) = none ∧ en' = true ∧ v = 0 ∧ p = at_)))
theorem rU_shift (l : List Int) : ∀ (p : Int) (i : Nat) (n : Int), (rU p l i n).1 = (rU 0 l i n).1 ∧ (rU p l i n).2.2 = (rU 0 l i n).2.2 ∧ ((rU 0 l i n).2.2 = 0 → (rU p l i n).2.1 = p + (rU 0 l i n).2.1) := by
 induction l with
 | nil => intro p i n; simp [rU]
 | cons c r ih =>
  intro p i n
  rw [rU, rU]
  split
  ·simp
  ·split
   ·exact ih p (i + 1) _
   ·split
    ·simp
    ·refine ⟨rfl, rfl, fun _ => ?_⟩
     simp only
     omega
theorem unumber_any (l : List Int) (w : World) (r : Nat) (ao : Option Addr) (n cap at_ : Nat) (en : Bool) (hr : Rdq w r ao n cap at_ en) (hs : Sl w ao n cap l) (ha : at_ ≤ n) :
  Calls Tryz.prog 166 #[.pointer (some ⟨r, 0, none⟩)] w fun e w' => UNumTo l w r ao n cap at_ en e w' := by
 have c0 := hr.c0
 have c1 := hr.c1
 have c2 := hr.c2
 have f1 := hr.free 1
 have f2 := hr.free 2
 have hn := hs.hroom
 have HR := zaa hr
 have hlen := hs.hlen
 have HF : Hid (∀ q, Calls Tryz.prog 173 #[.slice ao n cap, .int .i64 (at_ : Int)] (w.drewN q) fun e w' => e = .returned (.tuple #[.int .u64 (rU (at_ : Int) (l.drop at_) 0 0).1, .int .i64 (rU (at_ : Int) (l.drop at_) 0 0).2.1, .int .i64 (rU (at_ : Int) (l.drop at_) 0 0).2.2]) ∧ w' = w.drewN q) :=
  zaa fun q => by simpa using readUint_any ao n cap l (at_ : Int) (w.drewN q) (hs.drewN q) (by omega) (by omega)
 obtain ⟨s1, s2, s3⟩ := rU_shift (l.drop at_) (at_ : Int) 0 0
 have hsp := rU_spec (l.drop at_) 0 0 0 (hs.wf.drop at_) (by omega) (by omega) (by omega)
 rw [s1, s2] at HF
 by_cases h : (rU 0 (l.drop at_) 0 0).2.2 = 0
 ·obtain ⟨k, M, k1, k2, k3, k4, k5, k6⟩ : ∃ (k : Nat) (M : Int), 1 ≤ k ∧ k ≤ (l.drop at_).length ∧ (rU 0 (l.drop at_) 0 0).2.1 = k ∧ 0 ≤ M ∧ (rU 0 (l.drop at_) 0 0).1 = M ∧ (rU 0 (l.drop at_) 0 0).1 < 18446744073709551616 := by
   rcases hsp with ⟨g, _⟩ | ⟨_, k, M, g1, g2, g3, g4, g5, g6, _, _⟩
   ·exact absurd h g
   ·exact ⟨k, M, g1, g2, by rw [g3]; simp, g4, by rw [g5]; simp, g6⟩
  have e3 := s3 h
  rw [k3] at e3
  rw [e3, h, k5] at HF
  rw [k5] at k6
  have HP : Hid (pU (l.drop at_) = some (M, l.drop (at_ + k))) := zaa (by
   unfold pU
   rw [if_pos h, k5, k3, Int.toNat_natCast, List.drop_drop])
  rw [zK, hlen] at k2
  have bM : M ≤ 18446744073709551615 := by omega
  have HS : ∀ q, Hid (Rdq ((w.drewN q).setCell ⟨r, 1, none⟩ (.int .i64 ((at_ + k : Nat) : Int))) r ao n cap (at_ + k) en) := fun q => zaa (Rdq.set1 (HR.out.drewN q) (at_ + k))
  clear hs s1 s2 s3 hsp h k3 k5 e3
  go_enter Tryz.func166, Tryz.ntmps166
  go_wp2_with fail
  go_quiet (first | (go_at_call 173; exact Calls.quiet_of_same (HF.out _)))
  go_wp2
  go_ret
  exact ⟨M, at_ + k, en, rfl, by simpa using HS _, zaa ((Cf.drew _ _ _).go (Cf.set _ _ _ _)), zaa ⟨⟨k4, k6⟩, by omega, .inl ⟨HP.out, rfl⟩⟩⟩
 ·have HP : Hid (pU (l.drop at_) = none) := zaa (by unfold pU; rw [if_neg h])
  have hz : (rU 0 (l.drop at_) 0 0).1 = 0 := by
   rcases hsp with ⟨_, g, _⟩ | ⟨g, _⟩
   ·exact g
   ·exact absurd g h
  have d1 : ((rU 0 (l.drop at_) 0 0).2.2 == 0) = false := by simpa using h
  generalize (rU 0 (l.drop at_) 0 0).2.2 = er at *
  generalize (rU (at_ : Int) (l.drop at_) 0 0).2.1 = pe at *
  rw [hz] at HF
  clear hs s1 s2 s3 hsp hz
  go_enter Tryz.func166, Tryz.ntmps166
  go_wp2_with fail
  go_quiet (first | (go_at_call 173; exact Calls.quiet_of_same (HF.out _)))
  go_wp2
  go_ret
  exact ⟨0, at_, true, rfl, zaa (Rdq.set2 (HR.out.drewN _) true), zaa ((Cf.drew _ _ _).go (Cf.set _ _ _ _)), zaa ⟨⟨by omega, by omega⟩, ha, .inr ⟨HP.out, rfl, rfl, rfl⟩⟩⟩
end Go.Proofs.YtbkhjeacmmbabaaGreatDoor
