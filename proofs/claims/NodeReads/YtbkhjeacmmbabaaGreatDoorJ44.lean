import Derived.Test.YtbkhjeacmmbabaaGreatDoorJ24
import Derived.Deep.DeepCutAuto
import Derived.Deep.CutRange
import Derived.Deep.RegionHeld
namespace Go.Proofs.YtbkhjeacmmbabaaGreatDoor
set_option maxRecDepth 100000
open Go.RowKit
def kyL (cs : List Cl) (i : Nat) : List Int := ((cs[i]?).map (·.key)).getD []
theorem kyL_at {cs : List Cl} {i : Nat} {c : Cl} (h : cs[i]? = some c) : kyL cs i = c.key := by unfold kyL; rw [h]; rfl
theorem key_any (w : World) (a : Nat) (k : Int) (n : Nat) (bo : Option Addr) (bn bc : Nat) (so : Option Addr) (sn sc : Nat) (cs : List Cl) (h : PgAt w a k n bo bn bc so sn sc cs) (hfit : ∀ c ∈ cs, c.fit) (i : Nat) (hi : i < cs.length) (hsz : bn ≤ 65536) :
  Calls Tryz.prog 228 #[.pointer (some ⟨a, 0, none⟩), .int .i64 (i : Int)] w fun e w' => ∃ ko kn kc, e = .returned (.slice ko kn kc) ∧ Hid (Sl w' ko kn kc (kyL cs i)) ∧ Hid (Below w.heap.size w w') := by
 have hci : cs[i]? = some (cs[i]'hi) := zI hi
 have HKA := zaa (keyAt_any w a k n bo bn bc so sn sc cs h hfit i _ hci hsz)
 rw [← kyL_at hci] at HKA
 obtain ⟨hsn, _⟩ := h.sn_eq
 obtain ⟨c0, c1, c2, c3⟩ := h.cells
 obtain ⟨g, off, rfl, cI⟩ : ∃ g off, so = some ⟨g, off, none⟩ ∧ w.cell? ⟨g, off + i, none⟩ = some (.int .i64 (((sts 0 cs).getD i 0 : Nat) : Int)) := by
  rcases h.starts.hat with h0 | ⟨g, off, e, _, hc⟩
  ·omega
  ·exact ⟨g, off, e, hc i (by omega)⟩
 have hlI : (i : Int) < (sn : Int) := by omega
 have hlN : i < sn := by omega
 generalize (sts 0 cs).getD i 0 = r at *
 clear h hsn hci
 go_enter Tryz.func228, Tryz.ntmps228
 go_wp2_with (go_at_call 226; refine HKA.out.mono ?_; rintro e w1 ⟨k1, k2, k3, rfl, H1, H2⟩)
 go_ret
 exact ⟨k1, k2, k3, rfl, H1, H2⟩
def putE (k : Int) (n : Nat) (cs : List Cl) (i j : Nat) (c : Cl) : Int :=
 if ¬ mayP k n c then 62 else if (0 < i ∧ ¬ kl (kyL cs (i - 1)) c.key) ∨ (j < cs.length ∧ ¬ kl c.key (kyL cs j)) then 63 else if n < szN (cs.take i ++ [c] ++ cs.drop j) then 61 else 0
def badO (cs : List Cl) (i j : Nat) (key : List Int) : Prop := (0 < i ∧ ¬ kl (kyL cs (i - 1)) key) ∨ (j < cs.length ∧ ¬ kl key (kyL cs j))
def PuTo (w : World) (B a : Nat) (k : Int) (n : Nat) (vb vs : Value) (cs new : List Cl) (r : Int) (e : Ending) (w' : World) : Prop :=
 e = .returned (.int .i64 r) ∧ Hid (∃ vb' vs', Po w' B a k n vb' vs' (if r = 0 then new else cs) ∧ (vb'.ownBlock = vb.ownBlock ∨ ∃ g, vb'.ownBlock = some g ∧ w.heap.size ≤ g) ∧ (vs'.ownBlock = vs.ownBlock ∨ ∃ g, vs'.ownBlock = some g ∧ w.heap.size ≤ g)) ∧ Hid (Cf (PZ a vb vs) w w')
theorem PuTo.same {w w' : World} {B a : Nat} {k : Int} {n : Nat} {vb vs : Value} {cs new : List Cl} {r : Int} (hp : Po w B a k n vb vs cs) (hb : Below w.heap.size w w') (hr : r ≠ 0) : PuTo w B a k n vb vs cs new r (.returned (.int .i64 r)) w' :=
 ⟨rfl, zaa ⟨vb, vs, by rw [if_neg hr]; exact hp.on hb, .inl rfl, .inl rfl⟩, zaa (Cf.of_below hb)⟩
structure OrdC (u1 : World) (s a : Nat) (ka : Option Addr) (kn kc : Nat) (key : List Int) (cs : List Cl) (i j sn : Nat) : Prop where
 box : ∀ y, Below u1.heap.size u1 y → y.cell? ⟨s, 0, none⟩ = some (.slice ka kn kc)
 ck : ∀ y, Below u1.heap.size u1 y → Sl y ka kn kc key
 len : ∀ y, Below u1.heap.size u1 y → Calls Tryz.prog 75 #[.pointer (some ⟨a, 0, none⟩)] y fun e y' => e = .returned (.int .i64 (sn : Int)) ∧ Hid (Below u1.heap.size u1 y')
 ki : ∀ t : Nat, i = t + 1 → ∀ y, Below u1.heap.size u1 y → Calls Tryz.prog 228 #[.pointer (some ⟨a, 0, none⟩), .int .i64 (t : Int)] y fun e y' => ∃ ko kn kc, e = .returned (.slice ko kn kc) ∧ Hid (Sl y' ko kn kc (kyL cs t)) ∧ Hid (Below u1.heap.size u1 y')
 kj : j < sn → ∀ y, Below u1.heap.size u1 y → Calls Tryz.prog 228 #[.pointer (some ⟨a, 0, none⟩), .int .i64 (j : Int)] y fun e y' => ∃ ko kn kc, e = .returned (.slice ko kn kc) ∧ Hid (Sl y' ko kn kc (kyL cs j)) ∧ Hid (Below u1.heap.size u1 y')
set_option maxHeartbeats 4000000 in
theorem put_any (w : World) (B a : Nat) (k : Int) (n : Nat) (vb vs : Value) (cs : List Cl) (i j : Nat) (ka : Option Addr) (kn kc : Nat) (kd : Int) (va : Option Addr) (vn vc : Nat) (pg ct : Int) (key val : List Int) (hp : Po w B a k n vb vs cs) (hij : i ≤ j) (hj : j ≤ cs.length) (hn : n ≤ 65536) (hw : ∀ c ∈ cs, c.Wf) (hft : ∀ c ∈ cs, c.fit) (hz : szN cs ≤ n) (hk : Sl w ka kn kc key) (hv : Sl w va vn vc val) (hB : B ≤ w.heap.size) :
  Calls Tryz.prog 227 #[.pointer (some ⟨a, 0, none⟩), .int .i64 (i : Int), .int .i64 (j : Int), .agg #[.slice ka kn kc, .int .i64 kd, .slice va vn vc, .int .i64 pg, .int .i64 ct]] w (PuTo w B a k n vb vs cs (cs.take i ++ [⟨key, kd, val, pg, ct⟩] ++ cs.drop j) (putE k n cs i j ⟨key, kd, val, pg, ct⟩)) := by
 have hnI : (n : Int) ≤ 65536 := by omega
 have hkr := hk.hroom
 have hvr := hv.hroom
 have hkl := hk.hlen
 have hvl := hv.hlen
 have hzc := zbb cs
 have hiI : (i : Int) ≤ 65536 := by omega
 have hjI : (j : Int) ≤ 65536 := by omega
 obtain ⟨bo, bc, rfl⟩ := hp.body.slice
 obtain ⟨so, sc, rfl⟩ := hp.starts.shape
 have hmn : mayN k n kn kd vn pg ct ↔ mayP k n ⟨key, kd, val, pg, ct⟩ := by
  have := mayP_iff k n ⟨key, kd, val, pg, ct⟩
  simp only [hkl, hvl] at this
  exact this
 obtain ⟨s, hs⟩ : ∃ s, w.heap.size = s := ⟨_, rfl⟩
 obtain ⟨x, hx⟩ : ∃ x, w.alloc (.cells #[.slice ka kn kc, .int .i64 kd, .slice va vn vc, .int .i64 pg, .int .i64 ct] 50) = x := ⟨_, rfl⟩
 have hbx : Below w.heap.size w x := by rw [← hx]; exact zad Br Lr _
 have HBOX : Hid (C5 x s (.slice ka kn kc) (.int .i64 kd) (.slice va vn vc) (.int .i64 pg) (.int .i64 ct)) := by rw [← hx, ← hs]; exact zaa (C5.box _ _ _ _ _ _)
 have HPX := zaa (hp.on hbx)
 have HK := zaa (hk.on Lr hbx)
 have HV := zaa (hv.on Lr hbx)
 have HBX := zaa hbx
 have HP := zaa hp
 have HW := zaa hw
 have HFT := zaa hft
 have HMB := zaa (fun u => mayBe_any k (n : Int) ka kn kc kd va vn vc pg ct u (by omega) hnI hkr hvr)
 have HKL := zaa hkl
 have HVL := zaa hvl
 have HBB := zaa hB
 rw [zak] at HPX HP
 rw [zak]
 obtain ⟨bl, hbl⟩ : ∃ bl, (bdy cs).length = bl := ⟨_, rfl⟩
 obtain ⟨sn, hsn⟩ : ∃ sn, cs.length = sn := ⟨_, rfl⟩
 rw [hbl, hsn] at HPX HP
 rw [hbl, hsn]
 obtain ⟨c0, c1, c2, c3⟩ := HPX.out.row.cells
 obtain ⟨z0, z1, z2, z3, z4⟩ := HBOX.out.cells
 obtain ⟨R, hR⟩ : ∃ R, putE k n cs i j ⟨key, kd, val, pg, ct⟩ = R := ⟨_, rfl⟩
 rw [hR]
 unfold putE at hR
 have hblb : bl ≤ 65536 := by omega
 have hsnb : sn ≤ 65536 := by omega
 have hjs : j ≤ sn := by omega
 have HZC : Hid (szN cs ≤ 65536) := zaa (by omega)
 have HBL := zaa hbl
 have HSN := zaa hsn
 clear hp hk hv hbx hkl hvl hw hft hzc hB hbl hsn hz hj
 obtain ⟨bm, hbm⟩ : ∃ bm : Bool, decide (mayN k n kn kd vn pg ct) = bm := ⟨_, rfl⟩
 have HMN : Hid (mayP k n ⟨key, kd, val, pg, ct⟩ ↔ bm = true) := zaa (by rw [← hmn, ← hbm]; simp)
 rw [hbm] at HMB
 have HHR := zaa hR
 clear hR hbm hmn
 go_enter Tryz.func227, Tryz.ntmps227
 go_upto_region 1 with fail
 go_cut [20] (fun v u => v = .bool (!bm) ∧ Hid (Below x.heap.size x u))
 case first =>
  go_wp2_with fail
  go_region_law (first | (go_simp; go_at_call 71; refine (HMB.out _).mono ?_; rintro e y ⟨rfl, hby⟩; have HBY := zaa hby; clear hby))
  all_goals (try go_wp2_with fail)
  all_goals go_meet
  all_goals exact ⟨rfl, zaa (by first | exact HBY.out | exact zae Br.drew Lr HBY.out | exact zae (zab Br _) Lr HBY.out)⟩
 obtain ⟨rfl, HB1⟩ := hcut
 obtain ⟨u1, hu1⟩ : ∃ u1, u1 = wc := ⟨_, rfl⟩
 subst hu1
 have HWU : Hid (Below w.heap.size w u1) := zaa (zae HBX.out Lr HB1.out)
 cases bm with
 | false =>
  have hR := HHR.out
  rw [if_pos (by rw [HMN.out]; simp)] at hR
  subst hR
  go_wp2
  go_ret
  exact PuTo.same HP.out HWU.out (by decide)
 | true =>
  have HPU := zaa (HPX.out.on HB1.out)
  have HBOX1 : Hid (C5 u1 s (.slice ka kn kc) (.int .i64 kd) (.slice va vn vc) (.int .i64 pg) (.int .i64 ct)) := zaa (zag HBOX.out HB1.out)
  have HKU := zaa (HK.out.on Lr HB1.out)
  have HVU := zaa (HV.out.on Lr HB1.out)
  have hpgu : ∀ y, Below u1.heap.size u1 y → PgAt y a k n bo bl bc so sn sc cs := fun y hy => (HPU.out.on hy).pg HW.out HZC.out
  have HO : Hid (OrdC u1 s a ka kn kc key cs i j sn) := zaa ⟨fun y hy => (show C5 y s (.slice ka kn kc) (.int .i64 kd) (.slice va vn vc) (.int .i64 pg) (.int .i64 ct) from zag HBOX1.out hy).cells.1, fun y hy => HKU.out.on Lr hy,
   fun y hy => (lenR_any y a k n (.slice bo bl bc) so sn sc (hpgu y hy).row).mono (by rintro e y' ⟨rfl, rfl⟩; exact ⟨rfl, zaa hy⟩),
   fun t ht y hy => (key_any y a k n bo bl bc so sn sc cs (hpgu y hy) HFT.out t (by have := HSN.out; omega) hblb).mono (by rintro e y' ⟨k1, k2, k3, rfl, H1, H2⟩; exact ⟨k1, k2, k3, rfl, H1, zaa (zae hy Lr H2.out)⟩),
   fun hjl y hy => (key_any y a k n bo bl bc so sn sc cs (hpgu y hy) HFT.out j (by have := HSN.out; omega) hblb).mono (by rintro e y' ⟨k1, k2, k3, rfl, H1, H2⟩; exact ⟨k1, k2, k3, rfl, H1, zaa (zae hy Lr H2.out)⟩)⟩
  have HR1 : Hid ((if (0 < i ∧ ¬ kl (kyL cs (i - 1)) key) ∨ (j < cs.length ∧ ¬ kl key (kyL cs j)) then 63 else if n < szN (cs.take i ++ [⟨key, kd, val, pg, ct⟩] ++ cs.drop j) then 61 else 0) = R) := zaa (by
   have := HHR.out
   rw [if_neg (by rw [HMN.out]; simp)] at this
   exact this)
  clear c0 c1 c2 c3 z0 z1 z2 z3 z4 hx HMB hpgu HHR
  have HFY : Hid (∀ y, Below u1.heap.size u1 y → y.cell? ⟨s, 0, none⟩ = some (.slice ka kn kc)) := zaa HO.out.box
  have HCK : Hid (∀ y, Below u1.heap.size u1 y → Sl y ka kn kc key) := zaa HO.out.ck
  have HLEN := zaa HO.out.len
  go_upto_region 3 with fail
  go_cut [47] (fun v u => ∃ bb : Bool, v = .bool bb ∧ Hid (bb = true ↔ badO cs i j key) ∧ Hid (Below u1.heap.size u1 u))
  case first =>
   by_cases hi0 : i = 0
   ·subst hi0
    by_cases hjl : j < sn
    ·have hjlI : (j : Int) < (sn : Int) := by omega
     have HKJ := zaa (HO.out.kj hjl)
     go_wp2_with fail
     refine wp_region_held_drew (S := (fun u => u.cell? ⟨s, 0, none⟩ = some (.slice ka kn kc))) (by kernel_rfl) (HFY.out _ Br.drew) (fun hHeld => ?_)
     refine zT (i := 0) (v := ?_) rfl ?_ (fun _ _ _ h => h) ?_
     rotate_left
     ·(intro w s0; go_simp; try with_reducible rfl)
     try simp only [Act.put, zA, zC, zD, zE, zF]
     refine zT (i := 1) (v := ?_) rfl ?_ (fun _ _ _ h => h) ?_
     rotate_left
     ·(intro w s0; go_simp; try with_reducible rfl)
     try simp only [Act.put, zA, zB, zC, zD, zE, zF]
     refine zT (i := 2) (v := ?_) rfl ?_ (fun _ _ _ h => h) ?_
     rotate_left
     ·(intro w s0; go_simp; try with_reducible rfl)
     try simp only [Act.put, zA, zB, zC, zD, zE, zF]
     refine zU (i := 3) rfl (fun _ _ _ h => h) ?_
     try simp only [Act.put, zA, zB, zC, zD, zE, zF]
     refine zU (i := 4) rfl (fun _ _ _ h => h) ?_
     try simp only [Act.put, zA, zB, zC, zD, zE, zF]
     refine zU (i := 5) rfl (fun _ _ _ h => h) ?_
     try simp only [Act.put, zA, zB, zC, zD, zE, zF]
     refine zU (i := 6) rfl (fun _ _ _ h => h) ?_
     try simp only [Act.put, zA, zB, zC, zD, zE, zF]
     refine zU (i := 7) rfl (fun _ _ _ h => h) ?_
     try simp only [Act.put, zA, zB, zC, zD, zE, zF]
     refine zU (i := 8) rfl (fun _ _ _ h => h) ?_
     try simp only [Act.put, zA, zB, zC, zD, zE, zF]
     refine zU (i := 9) rfl (fun _ _ _ h => h) ?_
     try simp only [Act.put, zA, zB, zC, zD, zE, zF]
     refine zU (i := 10) rfl (fun _ _ _ h => h) ?_
     try simp only [Act.put, zA, zB, zC, zD, zE, zF]
     refine zT (i := 11) (v := ?_) rfl ?_ (fun _ _ _ h => h) ?_
     rotate_left
     ·(intro w s0; go_simp; try with_reducible rfl)
     try simp only [Act.put, zA, zB, zC, zD, zE, zF]
     refine zT (i := 12) (v := ?_) rfl ?_ (fun _ _ _ h => h) ?_
     rotate_left
     ·(intro w s0; go_simp; try with_reducible rfl)
     try simp only [Act.put, zA, zB, zC, zD, zE, zF]
     refine zT (i := 13) (v := ?_) rfl ?_ (fun _ _ _ h => h) ?_
     rotate_left
     ·(intro w s0; go_simp; try with_reducible rfl)
     try simp only [Act.put, zA, zB, zC, zD, zE, zF]
     refine zT (i := 14) (v := ?_) rfl ?_ (fun _ _ _ h => h) ?_
     rotate_left
     ·(intro w s0; go_simp; try with_reducible rfl)
     try simp only [Act.put, zA, zB, zC, zD, zE, zF]
     refine zY (i := 15) rfl fun K hK => ?_
     go_simp
     go_at_call 75
     refine (HLEN.out _ (by first | exact Br | exact Br.drew | exact zab Br _)).mono ?_
     rintro e yl ⟨rfl, HByl⟩
     dsimp only
     refine hK.out _ _ (HFY.out _ HByl.out) (fun hHeld => ?_)
     clear hK K
     try simp only [Act.put, zA, zB, zC, zD, zE, zF]
     refine zT (i := 16) (v := ?_) rfl ?_ (fun _ _ _ h => h) ?_
     rotate_left
     ·(intro w s0; go_simp; try with_reducible rfl)
     try simp only [Act.put, zA, zB, zC, zD, zE, zF]
     refine zT (i := 17) (v := ?_) rfl ?_ (fun _ _ _ h => h) ?_
     rotate_left
     ·(intro w s0; go_simp; try with_reducible rfl)
     try simp only [Act.put, zA, zB, zC, zD, zE, zF]
     refine zT (i := 18) (v := ?_) rfl ?_ (fun _ _ _ h => h) ?_
     rotate_left
     ·(intro w s0; go_simp; try with_reducible rfl)
     try simp only [Act.put, zA, zB, zC, zD, zE, zF]
     refine zT (i := 19) (v := ?_) rfl ?_ (fun _ _ _ h => h) ?_
     rotate_left
     ·(intro w s0; go_simp; try with_reducible rfl)
     try simp only [Act.put, zA, zB, zC, zD, zE, zF]
     refine zT (i := 20) (v := ?_) rfl ?_ (fun _ _ _ h => h) ?_
     rotate_left
     ·(intro w s0; go_simp; try with_reducible rfl)
     try simp only [Act.put, zA, zB, zC, zD, zE, zF]
     refine zT (i := 21) (v := ?_) rfl ?_ (fun _ _ _ h => h) ?_
     rotate_left
     ·(intro w s0; go_simp; try with_reducible rfl)
     try simp only [Act.put, zA, zB, zC, zD, zE, zF]
     refine zY (i := 22) rfl fun K hK => ?_
     go_simp
     go_at_call 228
     refine (HKJ.out _ (by first | exact Br | exact Br.drew | exact zab Br _ | exact HByl.out | exact zab HByl.out _)).mono ?_
     rintro e yj ⟨koyj, knyj, kcyj, rfl, HSyj, HByj⟩
     dsimp only
     refine hK.out _ _ (HFY.out _ HByj.out) (fun hHeld => ?_)
     clear hK K
     try simp only [Act.put, zA, zB, zC, zD, zE, zF]
     refine zY (i := 23) rfl fun K hK => ?_
     go_simp
     go_at_call 72
     refine zac (zdh _ _ _ _ _ _ _ _ _ (HCK.out _ HByj.out) HSyj.out) ?_
     dsimp only
     refine hK.out _ _ (HFY.out _ HByj.out) (fun hHeld => ?_)
     clear hK K
     try simp only [Act.put, zA, zB, zC, zD, zE, zF]
     refine zT (i := 24) (v := ?_) rfl ?_ (fun _ _ _ h => h) ?_
     rotate_left
     ·(intro w s0; go_simp; try with_reducible rfl)
     try simp only [Act.put, zA, zB, zC, zD, zE, zF]
     refine zT (i := 25) (v := ?_) rfl ?_ (fun _ _ _ h => h) ?_
     rotate_left
     ·(intro w s0; go_simp; try with_reducible rfl)
     try simp only [Act.put, zA, zB, zC, zD, zE, zF]
     refine zT (i := 26) (v := ?_) rfl ?_ (fun _ _ _ h => h) ?_
     rotate_left
     ·(intro w s0; go_simp; try with_reducible rfl)
     try simp only [Act.put, zA, zB, zC, zD, zE, zF]
     refine wpAnyH_done (by kernel_rfl) ?_ _
     try go_wp2_with fail
     go_meet
     exact ⟨_, rfl, zaa (by unfold badO; rw [HSN.out]; simp [hjl]), zaa (zab HByj.out 0)⟩
    ·have hjlI : ¬ (j : Int) < (sn : Int) := by omega
     go_wp2_with fail
     refine wp_region_held_drew (S := (fun u => u.cell? ⟨s, 0, none⟩ = some (.slice ka kn kc))) (by kernel_rfl) (HFY.out _ Br.drew) (fun hHeld => ?_)
     refine zT (i := 0) (v := ?_) rfl ?_ (fun _ _ _ h => h) ?_
     rotate_left
     ·(intro w s0; go_simp; try with_reducible rfl)
     try simp only [Act.put, zA, zC, zD, zE, zF]
     refine zT (i := 1) (v := ?_) rfl ?_ (fun _ _ _ h => h) ?_
     rotate_left
     ·(intro w s0; go_simp; try with_reducible rfl)
     try simp only [Act.put, zA, zB, zC, zD, zE, zF]
     refine zT (i := 2) (v := ?_) rfl ?_ (fun _ _ _ h => h) ?_
     rotate_left
     ·(intro w s0; go_simp; try with_reducible rfl)
     try simp only [Act.put, zA, zB, zC, zD, zE, zF]
     refine zU (i := 3) rfl (fun _ _ _ h => h) ?_
     try simp only [Act.put, zA, zB, zC, zD, zE, zF]
     refine zU (i := 4) rfl (fun _ _ _ h => h) ?_
     try simp only [Act.put, zA, zB, zC, zD, zE, zF]
     refine zU (i := 5) rfl (fun _ _ _ h => h) ?_
     try simp only [Act.put, zA, zB, zC, zD, zE, zF]
     refine zU (i := 6) rfl (fun _ _ _ h => h) ?_
     try simp only [Act.put, zA, zB, zC, zD, zE, zF]
     refine zU (i := 7) rfl (fun _ _ _ h => h) ?_
     try simp only [Act.put, zA, zB, zC, zD, zE, zF]
     refine zU (i := 8) rfl (fun _ _ _ h => h) ?_
     try simp only [Act.put, zA, zB, zC, zD, zE, zF]
     refine zU (i := 9) rfl (fun _ _ _ h => h) ?_
     try simp only [Act.put, zA, zB, zC, zD, zE, zF]
     refine zU (i := 10) rfl (fun _ _ _ h => h) ?_
     try simp only [Act.put, zA, zB, zC, zD, zE, zF]
     refine zT (i := 11) (v := ?_) rfl ?_ (fun _ _ _ h => h) ?_
     rotate_left
     ·(intro w s0; go_simp; try with_reducible rfl)
     try simp only [Act.put, zA, zB, zC, zD, zE, zF]
     refine zT (i := 12) (v := ?_) rfl ?_ (fun _ _ _ h => h) ?_
     rotate_left
     ·(intro w s0; go_simp; try with_reducible rfl)
     try simp only [Act.put, zA, zB, zC, zD, zE, zF]
     refine zT (i := 13) (v := ?_) rfl ?_ (fun _ _ _ h => h) ?_
     rotate_left
     ·(intro w s0; go_simp; try with_reducible rfl)
     try simp only [Act.put, zA, zB, zC, zD, zE, zF]
     refine zT (i := 14) (v := ?_) rfl ?_ (fun _ _ _ h => h) ?_
     rotate_left
     ·(intro w s0; go_simp; try with_reducible rfl)
     try simp only [Act.put, zA, zB, zC, zD, zE, zF]
     refine zY (i := 15) rfl fun K hK => ?_
     go_simp
     go_at_call 75
     refine (HLEN.out _ (by first | exact Br | exact Br.drew | exact zab Br _)).mono ?_
     rintro e yl ⟨rfl, HByl⟩
     dsimp only
     refine hK.out _ _ (HFY.out _ HByl.out) (fun hHeld => ?_)
     clear hK K
     try simp only [Act.put, zA, zB, zC, zD, zE, zF]
     refine zT (i := 16) (v := ?_) rfl ?_ (fun _ _ _ h => h) ?_
     rotate_left
     ·(intro w s0; go_simp; try with_reducible rfl)
     try simp only [Act.put, zA, zB, zC, zD, zE, zF]
     refine zT (i := 17) (v := ?_) rfl ?_ (fun _ _ _ h => h) ?_
     rotate_left
     ·(intro w s0; go_simp; try with_reducible rfl)
     try simp only [Act.put, zA, zB, zC, zD, zE, zF]
     refine zU (i := 18) rfl (fun _ _ _ h => h) ?_
     try simp only [Act.put, zA, zB, zC, zD, zE, zF]
     refine zU (i := 19) rfl (fun _ _ _ h => h) ?_
     try simp only [Act.put, zA, zB, zC, zD, zE, zF]
     refine zU (i := 20) rfl (fun _ _ _ h => h) ?_
     try simp only [Act.put, zA, zB, zC, zD, zE, zF]
     refine zU (i := 21) rfl (fun _ _ _ h => h) ?_
     try simp only [Act.put, zA, zB, zC, zD, zE, zF]
     refine zU (i := 22) rfl (fun _ _ _ h => h) ?_
     try simp only [Act.put, zA, zB, zC, zD, zE, zF]
     refine zU (i := 23) rfl (fun _ _ _ h => h) ?_
     try simp only [Act.put, zA, zB, zC, zD, zE, zF]
     refine zU (i := 24) rfl (fun _ _ _ h => h) ?_
     try simp only [Act.put, zA, zB, zC, zD, zE, zF]
     refine zT (i := 25) (v := ?_) rfl ?_ (fun _ _ _ h => h) ?_
     rotate_left
     ·(intro w s0; go_simp; try with_reducible rfl)
     try simp only [Act.put, zA, zB, zC, zD, zE, zF]
     refine zT (i := 26) (v := ?_) rfl ?_ (fun _ _ _ h => h) ?_
     rotate_left
     ·(intro w s0; go_simp; try with_reducible rfl)
     try simp only [Act.put, zA, zB, zC, zD, zE, zF]
     refine wpAnyH_done (by kernel_rfl) ?_ _
     try go_wp2_with fail
     go_meet
     exact ⟨false, rfl, zaa (by unfold badO; rw [HSN.out]; simp [hjl]), zaa (zab HByl.out 0)⟩
   ·obtain ⟨t, rfl⟩ : ∃ t, i = t + 1 := ⟨i - 1, by omega⟩
    have ht0 : (0 : Int) < (t : Int) + 1 := by omega
    have htI : (t : Int) ≤ 65536 := by omega
    have hwt : IntKind.i64.wrap (t : Int) = (t : Int) := by rw [IntKind.wrap_i64]; omega
    have HKI := zaa (HO.out.ki t rfl)
    obtain ⟨ri, hri⟩ : ∃ ri : Bool, decide (kl (kyL cs t) key) = ri := ⟨_, rfl⟩
    have HRI : Hid (kl (kyL cs t) key ↔ ri = true) := zaa (by rw [← hri]; simp)
    cases ri with
    | false =>
     go_wp2_with fail
     refine wp_region_held_drew (S := (fun u => u.cell? ⟨s, 0, none⟩ = some (.slice ka kn kc))) (by kernel_rfl) (HFY.out _ Br.drew) (fun hHeld => ?_)
     refine zT (i := 0) (v := ?_) rfl ?_ (fun _ _ _ h => h) ?_
     rotate_left
     ·(intro w s0; go_simp; try with_reducible rfl)
     try simp only [Act.put, zA, zC, zD, zE, zF]
     refine zT (i := 1) (v := ?_) rfl ?_ (fun _ _ _ h => h) ?_
     rotate_left
     ·(intro w s0; go_simp; try with_reducible rfl)
     try simp only [Act.put, zA, zB, zC, zD, zE, zF]
     refine zT (i := 2) (v := ?_) rfl ?_ (fun _ _ _ h => h) ?_
     rotate_left
     ·(intro w s0; go_simp; try with_reducible rfl)
     try simp only [Act.put, zA, zB, zC, zD, zE, zF]
     refine zT (i := 3) (v := ?_) rfl ?_ (fun _ _ _ h => h) ?_
     rotate_left
     ·(intro w s0; go_simp; try with_reducible rfl)
     try simp only [Act.put, zA, zB, zC, zD, zE, zF]
     refine zT (i := 4) (v := ?_) rfl ?_ (fun _ _ _ h => h) ?_
     rotate_left
     ·(intro w s0; go_simp; try with_reducible rfl)
     try simp only [Act.put, zA, zB, zC, zD, zE, zF]
     refine zT (i := 5) (v := ?_) rfl ?_ (fun _ _ _ h => h) ?_
     rotate_left
     ·(intro w s0; go_simp; try with_reducible rfl)
     try simp only [Act.put, zA, zB, zC, zD, zE, zF]
     refine zT (i := 7) (v := ?_) rfl ?_ (fun _ _ _ h => h) ?_
     rotate_left
     ·(intro w s0; go_simp; try with_reducible rfl)
     try simp only [Act.put, zA, zB, zC, zD, zE, zF]
     refine zT (i := 8) (v := ?_) rfl ?_ (fun _ _ _ h => h) ?_
     rotate_left
     ·(intro w s0; go_simp; try with_reducible rfl)
     try simp only [Act.put, zA, zB, zC, zD, zE, zF]
     refine zY (i := 6) rfl fun K hK => ?_
     go_simp
     go_at_call 228
     refine (HKI.out _ (by first | exact Br | exact Br.drew | exact zab Br _)).mono ?_
     rintro e yi ⟨koyi, knyi, kcyi, rfl, HSyi, HByi⟩
     dsimp only
     refine hK.out _ _ (HFY.out _ HByi.out) (fun hHeld => ?_)
     clear hK K
     try simp only [Act.put, zA, zB, zC, zD, zE, zF]
     refine zY (i := 9) rfl fun K hK => ?_
     go_simp
     go_at_call 72
     refine zac (zdh _ _ _ _ _ _ _ _ _ HSyi.out (HCK.out _ HByi.out)) ?_
     rw [hri]
     dsimp only
     refine hK.out _ _ (HFY.out _ HByi.out) (fun hHeld => ?_)
     clear hK K
     try simp only [Act.put, zA, zB, zC, zD, zE, zF]
     refine zT (i := 10) (v := ?_) rfl ?_ (fun _ _ _ h => h) ?_
     rotate_left
     ·(intro w s0; go_simp; try with_reducible rfl)
     try simp only [Act.put, zA, zB, zC, zD, zE, zF]
     refine zT (i := 11) (v := ?_) rfl ?_ (fun _ _ _ h => h) ?_
     rotate_left
     ·(intro w s0; go_simp; try with_reducible rfl)
     try simp only [Act.put, zA, zB, zC, zD, zE, zF]
     refine zT (i := 12) (v := ?_) rfl ?_ (fun _ _ _ h => h) ?_
     rotate_left
     ·(intro w s0; go_simp; try with_reducible rfl)
     try simp only [Act.put, zA, zB, zC, zD, zE, zF]
     refine zU (i := 13) rfl (fun _ _ _ h => h) ?_
     try simp only [Act.put, zA, zB, zC, zD, zE, zF]
     refine zU (i := 14) rfl (fun _ _ _ h => h) ?_
     try simp only [Act.put, zA, zB, zC, zD, zE, zF]
     refine zU (i := 15) rfl (fun _ _ _ h => h) ?_
     try simp only [Act.put, zA, zB, zC, zD, zE, zF]
     refine zU (i := 16) rfl (fun _ _ _ h => h) ?_
     try simp only [Act.put, zA, zB, zC, zD, zE, zF]
     refine zU (i := 17) rfl (fun _ _ _ h => h) ?_
     try simp only [Act.put, zA, zB, zC, zD, zE, zF]
     refine zU (i := 18) rfl (fun _ _ _ h => h) ?_
     try simp only [Act.put, zA, zB, zC, zD, zE, zF]
     refine zU (i := 19) rfl (fun _ _ _ h => h) ?_
     try simp only [Act.put, zA, zB, zC, zD, zE, zF]
     refine zU (i := 20) rfl (fun _ _ _ h => h) ?_
     try simp only [Act.put, zA, zB, zC, zD, zE, zF]
     refine zU (i := 21) rfl (fun _ _ _ h => h) ?_
     try simp only [Act.put, zA, zB, zC, zD, zE, zF]
     refine zU (i := 22) rfl (fun _ _ _ h => h) ?_
     try simp only [Act.put, zA, zB, zC, zD, zE, zF]
     refine zU (i := 23) rfl (fun _ _ _ h => h) ?_
     try simp only [Act.put, zA, zB, zC, zD, zE, zF]
     refine zU (i := 24) rfl (fun _ _ _ h => h) ?_
     try simp only [Act.put, zA, zB, zC, zD, zE, zF]
     refine zU (i := 25) rfl (fun _ _ _ h => h) ?_
     try simp only [Act.put, zA, zB, zC, zD, zE, zF]
     refine zT (i := 26) (v := ?_) rfl ?_ (fun _ _ _ h => h) ?_
     rotate_left
     ·(intro w s0; go_simp; try with_reducible rfl)
     try simp only [Act.put, zA, zB, zC, zD, zE, zF]
     refine wpAnyH_done (by kernel_rfl) ?_ _
     try go_wp2_with fail
     go_meet
     exact ⟨true, rfl, zaa (by unfold badO; rw [Nat.add_sub_cancel, HRI.out]; simp), zaa (zab HByi.out 0)⟩
    | true =>
     by_cases hjl : j < sn
     ·have hjlI : (j : Int) < (sn : Int) := by omega
      have HKJ := zaa (HO.out.kj hjl)
      go_wp2_with fail
      refine wp_region_held_drew (S := (fun u => u.cell? ⟨s, 0, none⟩ = some (.slice ka kn kc))) (by kernel_rfl) (HFY.out _ Br.drew) (fun hHeld => ?_)
      refine zT (i := 0) (v := ?_) rfl ?_ (fun _ _ _ h => h) ?_
      rotate_left
      ·(intro w s0; go_simp; try with_reducible rfl)
      try simp only [Act.put, zA, zC, zD, zE, zF]
      refine zT (i := 1) (v := ?_) rfl ?_ (fun _ _ _ h => h) ?_
      rotate_left
      ·(intro w s0; go_simp; try with_reducible rfl)
      try simp only [Act.put, zA, zB, zC, zD, zE, zF]
      refine zT (i := 2) (v := ?_) rfl ?_ (fun _ _ _ h => h) ?_
      rotate_left
      ·(intro w s0; go_simp; try with_reducible rfl)
      try simp only [Act.put, zA, zB, zC, zD, zE, zF]
      refine zT (i := 3) (v := ?_) rfl ?_ (fun _ _ _ h => h) ?_
      rotate_left
      ·(intro w s0; go_simp; try with_reducible rfl)
      try simp only [Act.put, zA, zB, zC, zD, zE, zF]
      refine zT (i := 4) (v := ?_) rfl ?_ (fun _ _ _ h => h) ?_
      rotate_left
      ·(intro w s0; go_simp; try with_reducible rfl)
      try simp only [Act.put, zA, zB, zC, zD, zE, zF]
      refine zT (i := 5) (v := ?_) rfl ?_ (fun _ _ _ h => h) ?_
      rotate_left
      ·(intro w s0; go_simp; try with_reducible rfl)
      try simp only [Act.put, zA, zB, zC, zD, zE, zF]
      refine zT (i := 7) (v := ?_) rfl ?_ (fun _ _ _ h => h) ?_
      rotate_left
      ·(intro w s0; go_simp; try with_reducible rfl)
      try simp only [Act.put, zA, zB, zC, zD, zE, zF]
      refine zT (i := 8) (v := ?_) rfl ?_ (fun _ _ _ h => h) ?_
      rotate_left
      ·(intro w s0; go_simp; try with_reducible rfl)
      try simp only [Act.put, zA, zB, zC, zD, zE, zF]
      refine zY (i := 6) rfl fun K hK => ?_
      go_simp
      go_at_call 228
      refine (HKI.out _ (by first | exact Br | exact Br.drew | exact zab Br _)).mono ?_
      rintro e yi ⟨koyi, knyi, kcyi, rfl, HSyi, HByi⟩
      dsimp only
      refine hK.out _ _ (HFY.out _ HByi.out) (fun hHeld => ?_)
      clear hK K
      try simp only [Act.put, zA, zB, zC, zD, zE, zF]
      refine zY (i := 9) rfl fun K hK => ?_
      go_simp
      go_at_call 72
      refine zac (zdh _ _ _ _ _ _ _ _ _ HSyi.out (HCK.out _ HByi.out)) ?_
      rw [hri]
      dsimp only
      refine hK.out _ _ (HFY.out _ HByi.out) (fun hHeld => ?_)
      clear hK K
      try simp only [Act.put, zA, zB, zC, zD, zE, zF]
      refine zT (i := 10) (v := ?_) rfl ?_ (fun _ _ _ h => h) ?_
      rotate_left
      ·(intro w s0; go_simp; try with_reducible rfl)
      try simp only [Act.put, zA, zB, zC, zD, zE, zF]
      refine zT (i := 11) (v := ?_) rfl ?_ (fun _ _ _ h => h) ?_
      rotate_left
      ·(intro w s0; go_simp; try with_reducible rfl)
      try simp only [Act.put, zA, zB, zC, zD, zE, zF]
      refine zT (i := 12) (v := ?_) rfl ?_ (fun _ _ _ h => h) ?_
      rotate_left
      ·(intro w s0; go_simp; try with_reducible rfl)
      try simp only [Act.put, zA, zB, zC, zD, zE, zF]
      refine zT (i := 13) (v := ?_) rfl ?_ (fun _ _ _ h => h) ?_
      rotate_left
      ·(intro w s0; go_simp; try with_reducible rfl)
      try simp only [Act.put, zA, zB, zC, zD, zE, zF]
      refine zT (i := 14) (v := ?_) rfl ?_ (fun _ _ _ h => h) ?_
      rotate_left
      ·(intro w s0; go_simp; try with_reducible rfl)
      try simp only [Act.put, zA, zB, zC, zD, zE, zF]
      refine zY (i := 15) rfl fun K hK => ?_
      go_simp
      go_at_call 75
      refine (HLEN.out _ (by first | exact Br | exact Br.drew | exact zab Br _ | exact HByi.out | exact zab HByi.out _)).mono ?_
      rintro e yl ⟨rfl, HByl⟩
      dsimp only
      refine hK.out _ _ (HFY.out _ HByl.out) (fun hHeld => ?_)
      clear hK K
      try simp only [Act.put, zA, zB, zC, zD, zE, zF]
      refine zT (i := 16) (v := ?_) rfl ?_ (fun _ _ _ h => h) ?_
      rotate_left
      ·(intro w s0; go_simp; try with_reducible rfl)
      try simp only [Act.put, zA, zB, zC, zD, zE, zF]
      refine zT (i := 17) (v := ?_) rfl ?_ (fun _ _ _ h => h) ?_
      rotate_left
      ·(intro w s0; go_simp; try with_reducible rfl)
      try simp only [Act.put, zA, zB, zC, zD, zE, zF]
      refine zT (i := 18) (v := ?_) rfl ?_ (fun _ _ _ h => h) ?_
      rotate_left
      ·(intro w s0; go_simp; try with_reducible rfl)
      try simp only [Act.put, zA, zB, zC, zD, zE, zF]
      refine zT (i := 19) (v := ?_) rfl ?_ (fun _ _ _ h => h) ?_
      rotate_left
      ·(intro w s0; go_simp; try with_reducible rfl)
      try simp only [Act.put, zA, zB, zC, zD, zE, zF]
      refine zT (i := 20) (v := ?_) rfl ?_ (fun _ _ _ h => h) ?_
      rotate_left
      ·(intro w s0; go_simp; try with_reducible rfl)
      try simp only [Act.put, zA, zB, zC, zD, zE, zF]
      refine zT (i := 21) (v := ?_) rfl ?_ (fun _ _ _ h => h) ?_
      rotate_left
      ·(intro w s0; go_simp; try with_reducible rfl)
      try simp only [Act.put, zA, zB, zC, zD, zE, zF]
      refine zY (i := 22) rfl fun K hK => ?_
      go_simp
      go_at_call 228
      refine (HKJ.out _ (by first | exact Br | exact Br.drew | exact zab Br _ | exact HByl.out | exact zab HByl.out _)).mono ?_
      rintro e yj ⟨koyj, knyj, kcyj, rfl, HSyj, HByj⟩
      dsimp only
      refine hK.out _ _ (HFY.out _ HByj.out) (fun hHeld => ?_)
      clear hK K
      try simp only [Act.put, zA, zB, zC, zD, zE, zF]
      refine zY (i := 23) rfl fun K hK => ?_
      go_simp
      go_at_call 72
      refine zac (zdh _ _ _ _ _ _ _ _ _ (HCK.out _ HByj.out) HSyj.out) ?_
      dsimp only
      refine hK.out _ _ (HFY.out _ HByj.out) (fun hHeld => ?_)
      clear hK K
      try simp only [Act.put, zA, zB, zC, zD, zE, zF]
      refine zT (i := 24) (v := ?_) rfl ?_ (fun _ _ _ h => h) ?_
      rotate_left
      ·(intro w s0; go_simp; try with_reducible rfl)
      try simp only [Act.put, zA, zB, zC, zD, zE, zF]
      refine zT (i := 25) (v := ?_) rfl ?_ (fun _ _ _ h => h) ?_
      rotate_left
      ·(intro w s0; go_simp; try with_reducible rfl)
      try simp only [Act.put, zA, zB, zC, zD, zE, zF]
      refine zT (i := 26) (v := ?_) rfl ?_ (fun _ _ _ h => h) ?_
      rotate_left
      ·(intro w s0; go_simp; try with_reducible rfl)
      try simp only [Act.put, zA, zB, zC, zD, zE, zF]
      refine wpAnyH_done (by kernel_rfl) ?_ _
      try go_wp2_with fail
      go_meet
      exact ⟨_, rfl, zaa (by unfold badO; rw [Nat.add_sub_cancel, HRI.out, HSN.out]; simp [hjl]), zaa (zab HByj.out 0)⟩
     ·have hjlI : ¬ (j : Int) < (sn : Int) := by omega
      go_wp2_with fail
      refine wp_region_held_drew (S := (fun u => u.cell? ⟨s, 0, none⟩ = some (.slice ka kn kc))) (by kernel_rfl) (HFY.out _ Br.drew) (fun hHeld => ?_)
      refine zT (i := 0) (v := ?_) rfl ?_ (fun _ _ _ h => h) ?_
      rotate_left
      ·(intro w s0; go_simp; try with_reducible rfl)
      try simp only [Act.put, zA, zC, zD, zE, zF]
      refine zT (i := 1) (v := ?_) rfl ?_ (fun _ _ _ h => h) ?_
      rotate_left
      ·(intro w s0; go_simp; try with_reducible rfl)
      try simp only [Act.put, zA, zB, zC, zD, zE, zF]
      refine zT (i := 2) (v := ?_) rfl ?_ (fun _ _ _ h => h) ?_
      rotate_left
      ·(intro w s0; go_simp; try with_reducible rfl)
      try simp only [Act.put, zA, zB, zC, zD, zE, zF]
      refine zT (i := 3) (v := ?_) rfl ?_ (fun _ _ _ h => h) ?_
      rotate_left
      ·(intro w s0; go_simp; try with_reducible rfl)
      try simp only [Act.put, zA, zB, zC, zD, zE, zF]
      refine zT (i := 4) (v := ?_) rfl ?_ (fun _ _ _ h => h) ?_
      rotate_left
      ·(intro w s0; go_simp; try with_reducible rfl)
      try simp only [Act.put, zA, zB, zC, zD, zE, zF]
      refine zT (i := 5) (v := ?_) rfl ?_ (fun _ _ _ h => h) ?_
      rotate_left
      ·(intro w s0; go_simp; try with_reducible rfl)
      try simp only [Act.put, zA, zB, zC, zD, zE, zF]
      refine zT (i := 7) (v := ?_) rfl ?_ (fun _ _ _ h => h) ?_
      rotate_left
      ·(intro w s0; go_simp; try with_reducible rfl)
      try simp only [Act.put, zA, zB, zC, zD, zE, zF]
      refine zT (i := 8) (v := ?_) rfl ?_ (fun _ _ _ h => h) ?_
      rotate_left
      ·(intro w s0; go_simp; try with_reducible rfl)
      try simp only [Act.put, zA, zB, zC, zD, zE, zF]
      refine zY (i := 6) rfl fun K hK => ?_
      go_simp
      go_at_call 228
      refine (HKI.out _ (by first | exact Br | exact Br.drew | exact zab Br _)).mono ?_
      rintro e yi ⟨koyi, knyi, kcyi, rfl, HSyi, HByi⟩
      dsimp only
      refine hK.out _ _ (HFY.out _ HByi.out) (fun hHeld => ?_)
      clear hK K
      try simp only [Act.put, zA, zB, zC, zD, zE, zF]
      refine zY (i := 9) rfl fun K hK => ?_
      go_simp
      go_at_call 72
      refine zac (zdh _ _ _ _ _ _ _ _ _ HSyi.out (HCK.out _ HByi.out)) ?_
      rw [hri]
      dsimp only
      refine hK.out _ _ (HFY.out _ HByi.out) (fun hHeld => ?_)
      clear hK K
      try simp only [Act.put, zA, zB, zC, zD, zE, zF]
      refine zT (i := 10) (v := ?_) rfl ?_ (fun _ _ _ h => h) ?_
      rotate_left
      ·(intro w s0; go_simp; try with_reducible rfl)
      try simp only [Act.put, zA, zB, zC, zD, zE, zF]
      refine zT (i := 11) (v := ?_) rfl ?_ (fun _ _ _ h => h) ?_
      rotate_left
      ·(intro w s0; go_simp; try with_reducible rfl)
      try simp only [Act.put, zA, zB, zC, zD, zE, zF]
      refine zT (i := 12) (v := ?_) rfl ?_ (fun _ _ _ h => h) ?_
      rotate_left
      ·(intro w s0; go_simp; try with_reducible rfl)
      try simp only [Act.put, zA, zB, zC, zD, zE, zF]
      refine zT (i := 13) (v := ?_) rfl ?_ (fun _ _ _ h => h) ?_
      rotate_left
      ·(intro w s0; go_simp; try with_reducible rfl)
      try simp only [Act.put, zA, zB, zC, zD, zE, zF]
      refine zT (i := 14) (v := ?_) rfl ?_ (fun _ _ _ h => h) ?_
      rotate_left
      ·(intro w s0; go_simp; try with_reducible rfl)
      try simp only [Act.put, zA, zB, zC, zD, zE, zF]
      refine zY (i := 15) rfl fun K hK => ?_
      go_simp
      go_at_call 75
      refine (HLEN.out _ (by first | exact Br | exact Br.drew | exact zab Br _ | exact HByi.out | exact zab HByi.out _)).mono ?_
      rintro e yl ⟨rfl, HByl⟩
      dsimp only
      refine hK.out _ _ (HFY.out _ HByl.out) (fun hHeld => ?_)
      clear hK K
      try simp only [Act.put, zA, zB, zC, zD, zE, zF]
      refine zT (i := 16) (v := ?_) rfl ?_ (fun _ _ _ h => h) ?_
      rotate_left
      ·(intro w s0; go_simp; try with_reducible rfl)
      try simp only [Act.put, zA, zB, zC, zD, zE, zF]
      refine zT (i := 17) (v := ?_) rfl ?_ (fun _ _ _ h => h) ?_
      rotate_left
      ·(intro w s0; go_simp; try with_reducible rfl)
      try simp only [Act.put, zA, zB, zC, zD, zE, zF]
      refine zU (i := 18) rfl (fun _ _ _ h => h) ?_
      try simp only [Act.put, zA, zB, zC, zD, zE, zF]
      refine zU (i := 19) rfl (fun _ _ _ h => h) ?_
      try simp only [Act.put, zA, zB, zC, zD, zE, zF]
      refine zU (i := 20) rfl (fun _ _ _ h => h) ?_
      try simp only [Act.put, zA, zB, zC, zD, zE, zF]
      refine zU (i := 21) rfl (fun _ _ _ h => h) ?_
      try simp only [Act.put, zA, zB, zC, zD, zE, zF]
      refine zU (i := 22) rfl (fun _ _ _ h => h) ?_
      try simp only [Act.put, zA, zB, zC, zD, zE, zF]
      refine zU (i := 23) rfl (fun _ _ _ h => h) ?_
      try simp only [Act.put, zA, zB, zC, zD, zE, zF]
      refine zU (i := 24) rfl (fun _ _ _ h => h) ?_
      try simp only [Act.put, zA, zB, zC, zD, zE, zF]
      refine zT (i := 25) (v := ?_) rfl ?_ (fun _ _ _ h => h) ?_
      rotate_left
      ·(intro w s0; go_simp; try with_reducible rfl)
      try simp only [Act.put, zA, zB, zC, zD, zE, zF]
      refine zT (i := 26) (v := ?_) rfl ?_ (fun _ _ _ h => h) ?_
      rotate_left
      ·(intro w s0; go_simp; try with_reducible rfl)
      try simp only [Act.put, zA, zB, zC, zD, zE, zF]
      refine wpAnyH_done (by kernel_rfl) ?_ _
      try go_wp2_with fail
      go_meet
      exact ⟨false, rfl, zaa (by unfold badO; rw [Nat.add_sub_cancel, HRI.out, HSN.out]; simp [hjl]), zaa (zab HByl.out 0)⟩
  obtain ⟨bb, rfl, HBO, HB2⟩ := hcut
  obtain ⟨u2, hu2⟩ : ∃ u2, u2 = wc := ⟨_, rfl⟩
  subst hu2
  have HW2 : Hid (Below w.heap.size w u2) := zaa (zae HWU.out Lr HB2.out)
  clear HFY HCK HLEN HO
  cases bb with
  | true =>
   have hR := HR1.out
   have hbo : (0 < i ∧ ¬ kl (kyL cs (i - 1)) key) ∨ (j < cs.length ∧ ¬ kl key (kyL cs j)) := HBO.out.1 rfl
   rw [if_pos hbo] at hR
   subst hR
   go_wp2
   go_ret
   exact PuTo.same HP.out HW2.out (by decide)
  | false =>
   have HR2 : Hid ((if n < szN (cs.take i ++ [⟨key, kd, val, pg, ct⟩] ++ cs.drop j) then 61 else 0) = R) := zaa (by
    have := HR1.out
    rw [if_neg (fun h => by have := HBO.out.2 h; cases this)] at this
    exact this)
   have HP2 := zaa (HPU.out.on HB2.out)
   have HBOX2 : Hid (C5 u2 s (.slice ka kn kc) (.int .i64 kd) (.slice va vn vc) (.int .i64 pg) (.int .i64 ct)) := zaa (zag HBOX1.out HB2.out)
   have HK2 := zaa (HKU.out.on Lr HB2.out)
   have HV2 := zaa (HVU.out.on Lr HB2.out)
   obtain ⟨F, hF⟩ : ∃ F, (bdy (cs.take i)).length = F := ⟨_, rfl⟩
   obtain ⟨T, hT⟩ : ∃ T, (bdy (cs.take j)).length = T := ⟨_, rfl⟩
   have HST : Hid (∀ x y : Nat, (x = i ∧ y = F) ∨ (x = j ∧ y = T) → Calls Tryz.prog 112 #[.pointer (some ⟨a, 0, none⟩), .int .i64 (x : Int)] u2 fun e w' => e = .returned (.int .i64 (y : Int)) ∧ w' = u2) := zaa (by
    rintro x y (⟨rfl, rfl⟩ | ⟨rfl, rfl⟩)
    ·rw [← hF]; exact start_any u2 B a k n _ _ cs HP2.out HZC.out x (by have := HSN.out; omega)
    ·rw [← hT]; exact start_any u2 B a k n _ _ cs HP2.out HZC.out x (by have := HSN.out; omega))
   have hTb : T ≤ bl := by rw [← hT, ← HBL.out]; exact zcj cs j
   have hFT : F ≤ T := by
    rw [← hF, ← hT]
    have := zcj (cs.take j) i
    rwa [List.take_take, Nat.min_eq_left hij] at this
   obtain ⟨Gn, hGn⟩ : ∃ Gn : Nat, T - F + (j - i) * 2 = Gn := ⟨_, rfl⟩
   have hgo : (T : Int) - (F : Int) + ((j : Int) - (i : Int)) * 2 = (Gn : Int) := by omega
   obtain ⟨Tk, hTk⟩ : ∃ Tk : Nat, ctk ⟨key, kd, val, pg, ct⟩ = Tk := ⟨_, rfl⟩
   have HTI : Hid ((if kd = 1 then 7 + (kn : Int) + (vn : Int) else 13 + (kn : Int)) = (Tk : Int)) := by
    have := ctk_int ⟨key, kd, val, pg, ct⟩
    rw [hTk] at this
    simp only [HKL.out, HVL.out] at this
    exact zaa this
   have HSZ : Hid (szN (cs.take i ++ [⟨key, kd, val, pg, ct⟩] ++ cs.drop j) + Gn = 8 + 2 * sn + bl + Tk) := zaa (by
    have h1 := cB_length ⟨key, kd, val, pg, ct⟩
    have h2 : (bdy [(⟨key, kd, val, pg, ct⟩ : Cl)]).length = (cB ⟨key, kd, val, pg, ct⟩).length := by simp [bdy]
    have h3 : (bdy (cs.drop j)).length = bl - T := by rw [← bdy_drop, zK, HBL.out, hT]
    have h4 : (cs.take i ++ [(⟨key, kd, val, pg, ct⟩ : Cl)] ++ cs.drop j).length = i + 1 + (sn - j) := by
     simp only [zG, zJ, zK, List.length_cons, List.length_nil, HSN.out]
     omega
    have h5 : (bdy (cs.take i ++ [(⟨key, kd, val, pg, ct⟩ : Cl)] ++ cs.drop j)).length = F + (cB ⟨key, kd, val, pg, ct⟩).length + (bl - T) := by rw [zbl, zbl, zG, zG, h2, h3, hF]
    rw [zbb, h4, h5]
    rw [hTk] at h1
    have hjs' : j ≤ sn := hjs
    omega)
   have hTkb : (Tk : Int) ≤ 281474976800000 := by
    have := HTI.out
    split at this <;> omega
   have hGnb : Gn ≤ 8 + 2 * sn + bl := by omega
   have hGnI : (Gn : Int) ≤ 300000 := by omega
   have hFb : (F : Int) ≤ 65536 := by omega
   have hTb2 : (T : Int) ≤ 65536 := by omega
   have HFY2 : Hid (∀ y, Below u2.heap.size u2 y → y.cell? ⟨a, 1, none⟩ = some (.int .i64 (n : Int)) ∧ y.cell? ⟨s, 0, none⟩ = some (.slice ka kn kc) ∧ y.cell? ⟨s, 1, none⟩ = some (.int .i64 kd) ∧ y.cell? ⟨s, 2, none⟩ = some (.slice va vn vc) ∧ y.cell? ⟨s, 3, none⟩ = some (.int .i64 pg) ∧ y.cell? ⟨s, 4, none⟩ = some (.int .i64 ct)) := zaa fun y hy => by
    have h5 : C5 y s (.slice ka kn kc) (.int .i64 kd) (.slice va vn vc) (.int .i64 pg) (.int .i64 ct) := zag HBOX2.out hy
    exact ⟨(HP2.out.on hy).row.cells.2.1, h5.cells⟩
   have CU : Hid (∀ y, Below u2.heap.size u2 y → Calls Tryz.prog 222 #[.pointer (some ⟨a, 0, none⟩)] y fun e y' => e = .returned (.int .i64 ((8 + 2 * sn + bl : Nat) : Int)) ∧ Hid (Below u2.heap.size u2 y') ∧ (y'.cell? ⟨a, 1, none⟩ = some (.int .i64 (n : Int)) ∧ y'.cell? ⟨s, 0, none⟩ = some (.slice ka kn kc) ∧ y'.cell? ⟨s, 1, none⟩ = some (.int .i64 kd) ∧ y'.cell? ⟨s, 2, none⟩ = some (.slice va vn vc) ∧ y'.cell? ⟨s, 3, none⟩ = some (.int .i64 pg) ∧ y'.cell? ⟨s, 4, none⟩ = some (.int .i64 ct))) := by
    refine zaa fun y hy => (used_row y a k n bo bl bc so sn sc (HP2.out.on hy).row hblb hsnb).mono ?_
    rintro e y' ⟨rfl, q, rfl⟩
    exact ⟨rfl, zaa (zab hy _), HFY2.out _ (zab hy _)⟩
   have CT : Hid (∀ y, Hid (Below u2.heap.size u2 y) → Calls Tryz.prog 70 #[.agg #[.slice ka kn kc, .int .i64 kd, .slice va vn vc, .int .i64 pg, .int .i64 ct]] y fun e y' => e = .returned (.int .i64 (Tk : Int)) ∧ Hid (Below u2.heap.size u2 y') ∧ (y'.cell? ⟨a, 1, none⟩ = some (.int .i64 (n : Int)) ∧ y'.cell? ⟨s, 0, none⟩ = some (.slice ka kn kc) ∧ y'.cell? ⟨s, 1, none⟩ = some (.int .i64 kd) ∧ y'.cell? ⟨s, 2, none⟩ = some (.slice va vn vc) ∧ y'.cell? ⟨s, 3, none⟩ = some (.int .i64 pg) ∧ y'.cell? ⟨s, 4, none⟩ = some (.int .i64 ct))) := by
    refine zaa fun y hy => (ptaken_any ka kn kc kd va vn vc pg ct y hkr hvr).mono ?_
    rintro e y' ⟨rfl, hb⟩
    rw [HTI.out]
    exact ⟨rfl, zaa (zae hy.out Lr hb), HFY2.out _ (zae hy.out Lr hb)⟩
   obtain ⟨Us, hUs⟩ : ∃ Us : Nat, 8 + 2 * sn + bl = Us := ⟨_, rfl⟩
   rw [hUs] at CU hGnb HSZ
   have hUsb : (Us : Int) ≤ 300000 := by omega
   have HUS := zaa hUs
   have HFE := zaa hF
   have HTE := zaa hT
   have HTKE := zaa hTk
   obtain ⟨c1, z0, z1, z2, z3, z4⟩ := HFY2.out u2 Br
   have w1 : IntKind.i64.wrap ((Us : Int) - (Gn : Int)) = (Us : Int) - (Gn : Int) := by rw [IntKind.wrap_i64]; omega
   have w2 : IntKind.i64.wrap ((Us : Int) - (Gn : Int) + (Tk : Int)) = (Us : Int) - (Gn : Int) + (Tk : Int) := by rw [IntKind.wrap_i64]; omega
   obtain ⟨bs, hbs⟩ : ∃ bs : Bool, decide ((n : Int) < (Us : Int) - (Gn : Int) + (Tk : Int)) = bs := ⟨_, rfl⟩
   have HBS : Hid (n < szN (cs.take i ++ [⟨key, kd, val, pg, ct⟩] ++ cs.drop j) ↔ bs = true) := zaa (by
    rw [← hbs, zQ]
    have := HSZ.out
    omega)
   clear hUs hF hT hTk HKL HVL hGn
   go_wp2_with (go_at_call 112; refine zac (HST.out _ _ (by first | exact .inl ⟨rfl, rfl⟩ | exact .inr ⟨rfl, rfl⟩)) ?_)
   clear HST
   go_cut [71] (fun v u => v = .bool bs ∧ Hid (Below u2.heap.size u2 u))
   case first =>
    go_wp2_with fail
    go_region_law (first
     | (go_simp; go_at_call 70; refine (CT.out _ HBU).mono ?_; rintro e y2 ⟨rfl, HBT, t1, t2, t3, t4, t5, t6⟩)
     | (go_simp; go_at_call 222; refine (CU.out _ (by first | exact Br | exact Br.drew | exact zab Br _)).mono ?_; rintro e y1 ⟨rfl, HBU, s1, s2, s3, s4, s5, s6⟩))
    all_goals (try go_wp2_with fail)
    all_goals go_meet
    all_goals exact ⟨by congr 1, HBT⟩
   obtain ⟨rfl, HB3⟩ := hcut
   obtain ⟨u3, hu3⟩ : ∃ u3, u3 = wc := ⟨_, rfl⟩
   subst hu3
   have HW3 : Hid (Below w.heap.size w u3) := zaa (zae HW2.out Lr HB3.out)
   clear c1 z0 z1 z2 z3 z4 CU CT HFY2 w1 w2 hbs
   cases bs with
   | true =>
    have hR := HR2.out
    rw [if_pos (HBS.out.2 rfl)] at hR
    subst hR
    go_wp2
    go_ret
    exact PuTo.same HP.out HW3.out (by decide)
   | false =>
    have hnfit : ¬ n < szN (cs.take i ++ [⟨key, kd, val, pg, ct⟩] ++ cs.drop j) := fun h => by have := HBS.out.1 h; cases this
    have hR := HR2.out
    rw [if_neg hnfit] at hR
    subst hR
    have HP3 := zaa (HP2.out.on HB3.out)
    have HBOX3 : Hid (C5 u3 s (.slice ka kn kc) (.int .i64 kd) (.slice va vn vc) (.int .i64 pg) (.int .i64 ct)) := zaa (zag HBOX2.out HB3.out)
    obtain ⟨z0, z1, z2, z3, z4⟩ := HBOX3.out.cells
    obtain ⟨v, hv⟩ : ∃ v, u3.alloc (.cells #[.slice ka kn kc, .int .i64 kd, .slice va vn vc, .int .i64 pg, .int .i64 ct] 50) = v := ⟨_, rfl⟩
    have hbv : Below u3.heap.size u3 v := by rw [← hv]; exact zad Br Lr _
    obtain ⟨g, hg⟩ : ∃ g, u3.heap.size = g := ⟨_, rfl⟩
    have h2v : Below u2.heap.size u2 v := zae HB3.out Lr hbv
    have HWV : Hid (Below w.heap.size w v) := zaa (zae HW3.out Lr hbv)
    have hkl' := HK2.out.hlen
    have hvl' := HV2.out.hlen
    have HSC : Hid (SlC v (some ⟨g, 0, none⟩) 1 1 [⟨key, kd, val, pg, ct⟩]) := by
     have hb5 : C5 v g (.slice ka kn kc) (.int .i64 kd) (.slice va vn vc) (.int .i64 pg) (.int .i64 ct) := by rw [← hv, ← hg]; exact C5.box _ _ _ _ _ _
     obtain ⟨e0, e1, e2, e3, e4⟩ := hb5.cells
     refine zaa ⟨rfl, Lr, by omega, (by intro h; cases h), .inr ⟨g, 0, rfl, zaf hb5, fun q c hc => ?_⟩⟩
     have hi : q = 0 := by have := (zH.1 hc).1; simpa using this
     subst hi
     simp only [List.getElem?_cons_zero, Option.some.injEq] at hc
     subst hc
     refine ⟨ka, kc, va, vc, ?_, e1, ?_, e3, e4, ?_, ?_⟩
     ·rw [hkl']; exact e0
     ·rw [hvl']; exact e2
     ·rw [hkl']; exact HK2.out.on Lr h2v
     ·rw [hvl']; exact HV2.out.on Lr h2v
    have hszc : szN [(⟨key, kd, val, pg, ct⟩ : Cl)] ≤ 65536 := by
     have h1 := HSZ.out
     have h2 := HUS.out
     have h3 := HTKE.out
     have e : szN [(⟨key, kd, val, pg, ct⟩ : Cl)] = 8 + Tk := by simp [szN, h3]
     rw [e]
     omega
    have HRP := zaa (replace_any v B a k n (.slice bo bl bc) (.slice so sn sc) cs i j (some ⟨g, 0, none⟩) 1 1 [⟨key, kd, val, pg, ct⟩] (HP3.out.on hbv) hij (by have := HSN.out; omega) HSC.out (fun c hc => by
     simp at hc
     subst hc
     exact (HMN.out.2 (by first | rfl | trivial)).fit hnI) HZC.out hszc (.inr (by omega)) (zN HBB.out HWV.out.size))
    clear hbv h2v hkl' hvl' hnfit hszc
    go_wp2_with (go_at_call 73; refine HRP.out.mono ?_; rintro e w9 ⟨rfl, HP9, HC9⟩; refine Hid.out ?_)
    apply zaa
    clear HRP
    go_wp2
    go_ret
    refine ⟨rfl, zaa ?_, zaa ((Cf.of_below HWV.out).go HC9.out)⟩
    obtain ⟨vb', vs', p1, p2, p3⟩ := HP9.out
    exact ⟨vb', vs', by simpa using p1, p2.imp id (fun ⟨q, h1, h2⟩ => ⟨q, h1, zN HWV.out.size h2⟩), p3.imp id (fun ⟨q, h1, h2⟩ => ⟨q, h1, zN HWV.out.size h2⟩)⟩
end Go.Proofs.YtbkhjeacmmbabaaGreatDoor
