import Derived.Test.YtbkhjeacmmbabaaGreatDoorJ31
namespace Go.Proofs.YtbkhjeacmmbabaaGreatDoor
set_option maxRecDepth 100000
set_option maxHeartbeats 2000000
open Go.RowKit
theorem filled_any (w : World) (a : Nat) (k n : Int) (po : Option Addr) (pn pc : Nat) (bo : Option Addr) (bn bc : Nat) (so : Option Addr) (sn sc : Nat) (ws : Int) (h : QR w a k n (.slice po pn pc) (.slice bo bn bc) (.slice so sn sc) ws) (h1 : pn ≤ 1099511627776) (h2 : bn ≤ 1099511627776) (h3 : sn ≤ 1099511627776) :
  Calls Tryz.prog 241 #[.pointer (some ⟨a, 0, none⟩)] w fun e w' => e = .returned (.int .i64 ((10 + pn + 2 * sn + bn : Nat) : Int)) ∧ ∃ q, w' = w.drewN q := by
 obtain ⟨c0, c1, c2, c3, c4, c5⟩ := h.cells
 have b1 : (pn : Int) ≤ 1099511627776 := by omega
 have b2 : (bn : Int) ≤ 1099511627776 := by omega
 have b3 : (sn : Int) ≤ 1099511627776 := by omega
 clear h
 go_enter Tryz.func241, Tryz.ntmps241
 go_wp2_with fail
 go_quiet (fail)
 go_wp2
 go_ret
 refine ⟨zbo ?_, _, rfl⟩
 omega
theorem usedQ_any (w : World) (a : Nat) (k n : Int) (po : Option Addr) (pn pc : Nat) (bo : Option Addr) (bn bc : Nat) (so : Option Addr) (sn sc : Nat) (h : QR w a k n (.slice po pn pc) (.slice bo bn bc) (.slice so sn sc) 0) (h1 : pn ≤ 1099511627776) (h2 : bn ≤ 1099511627776) (h3 : sn ≤ 1099511627776) (Z : Nat) (hZ : 10 + pn + 2 * sn + bn = Z) :
  Calls Tryz.prog 236 #[.pointer (some ⟨a, 0, none⟩)] w fun e w' => e = .returned (.int .i64 (Z : Int)) ∧ Hid (Below w.heap.size w w') := by
 obtain ⟨c0, c1, c2, c3, c4, c5⟩ := h.cells
 have HF : Hid (∀ u, Below w.heap.size w u → Calls Tryz.prog 241 #[.pointer (some ⟨a, 0, none⟩)] u fun e w' => e = .returned (.int .i64 (Z : Int)) ∧ w'.cell? ⟨a, 5, none⟩ = some (.int .i64 0) ∧ Hid (Below w.heap.size w w')) := by
  refine zaa fun u hu => (filled_any u a k n po pn pc bo bn bc so sn sc 0 (zag h hu) h1 h2 h3).mono ?_
  rintro e w' ⟨rfl, q, rfl⟩
  have hb := zab hu q
  exact ⟨by rw [hZ], (show QR _ a k n (.slice po pn pc) (.slice bo bn bc) (.slice so sn sc) 0 from zag h hb).cells.2.2.2.2.2, zaa hb⟩
 have bZ : (Z : Int) ≤ 8796093022208 := by omega
 have hwZ : IntKind.i64.wrap (Z : Int) = (Z : Int) := by rw [IntKind.wrap_i64]; omega
 have hwZ0 : IntKind.i64.wrap ((Z : Int) - 0) = (Z : Int) := by rw [IntKind.wrap_i64]; omega
 clear h hZ
 go_enter Tryz.func236, Tryz.ntmps236
 go_wp2_with fail
 go_region_with (first | (go_at_call 241; refine (HF.out _ (by first | exact Br | exact Br.drew | exact zab Br _)).mono ?_; rintro e w1 ⟨rfl, x5, HB1⟩))
 all_goals
  go_wp2
  go_ret
  exact ⟨rfl, zaa (by first | exact HB1.out | exact HB1.out.drew | exact zab HB1.out _)⟩
theorem hasPrefix_any (ao bo : Option Addr) (n m c d : Nat) (la lb : List Int) (w : World) (ha : Sl w ao n c la) (hb : Sl w bo m d lb) :
  Calls Tryz.prog 250 #[.slice ao n c, .slice bo m d] w fun e w' => e = .returned (.bool (decide (la.take lb.length = lb))) ∧ w' = w := by
 have h1 := ha.hlen
 have h2 := hb.hlen
 have h3 := ha.hcap
 by_cases hle : m ≤ n
 ·have HE := zaa (equal7 ao bo m m c d (la.take m) lb w (ha.take m hle) hb)
  have hmI : (m : Int) ≤ (n : Int) := by omega
  have hmc : m ≤ c := by omega
  have hmcI : (m : Int) ≤ (c : Int) := by omega
  rw [h2]
  generalize decide (la.take m = lb) = bb at *
  clear ha hb
  go_enter Tryz.func250, Tryz.ntmps250
  go_wp2_with (go_at_call 80; refine zac HE.out ?_)
  go_ret
  exact ⟨rfl, rfl⟩
 ·have hmI : ¬ (m : Int) ≤ (n : Int) := by omega
  have hd : decide (la.take lb.length = lb) = false := decide_eq_false (by
   intro h
   have := congrArg List.length h
   rw [zJ] at this
   omega)
  rw [hd]
  clear ha hb
  go_enter Tryz.func250, Tryz.ntmps250
  go_wp2
  go_ret
  exact ⟨rfl, rfl⟩
theorem cut_row (ao bo : Option Addr) (n m c d : Nat) (la lb : List Int) (w : World) (ha : Sl w ao n c la) (hb : Sl w bo m d lb) : ∃ (ro : Option Addr) (rn rc : Nat) (b : Bool), b = decide (la.take lb.length = lb) ∧ Sl w ro rn rc (if b then la.drop lb.length else la) ∧
  ∀ u, Below w.heap.size w u → Calls Tryz.prog 244 #[.slice ao n c, .slice bo m d] u fun e w' => e = .returned (.tuple #[.slice ro rn rc, .bool b]) ∧ w' = u := by
 have h1 := ha.hlen
 have h2 := hb.hlen
 have h3 := ha.hcap
 have HP := zaa (fun u (hu : Below w.heap.size w u) => hasPrefix_any ao bo n m c d la lb u (ha.on Lr hu) (hb.on Lr hu))
 cases hd : decide (la.take lb.length = lb) with
 | false =>
  rw [hd] at HP
  refine ⟨ao, n, c, false, rfl, by simpa using ha, fun u hu => ?_⟩
  have HQ := zaa (HP.out u hu)
  clear ha hb HP hu
  go_enter Tryz.func244, Tryz.ntmps244
  go_wp2_with (go_at_call 250; refine zac HQ.out ?_)
  go_ret2
  exact ⟨rfl, rfl⟩
 | true =>
  rw [hd] at HP
  have hmn : m ≤ n := by
   have := congrArg List.length (show la.take lb.length = lb by simpa using hd)
   rw [zJ] at this
   omega
  have hmc : m ≤ c := by omega
  have hmcI : (m : Int) ≤ (c : Int) := by omega
  have hmnI : (m : Int) ≤ (n : Int) := by omega
  rw [h2]
  rcases sl_from ha m hmn with ⟨rfl, rfl, rfl⟩ | ⟨a, rfl, ⟨hcn, hs⟩ | ⟨hcn, hs⟩⟩
  ·obtain rfl : m = 0 := by omega
   refine ⟨none, 0, 0, true, rfl, by simpa using ha, fun u hu => ?_⟩
   have HQ := zaa (HP.out u hu)
   clear ha hb HP hu
   go_enter Tryz.func244, Tryz.ntmps244
   go_wp2_with (go_at_call 250; refine zac HQ.out ?_)
   go_ret2
   exact ⟨rfl, rfl⟩
  ·subst hcn
   obtain rfl : n = c := by omega
   refine ⟨some a, n - n, n - n, true, rfl, by simpa using hs, fun u hu => ?_⟩
   have HQ := zaa (HP.out u hu)
   clear ha hb HP hu hs
   go_enter Tryz.func244, Tryz.ntmps244
   go_wp2_with (go_at_call 250; refine zac HQ.out ?_)
   go_ret2
   exact ⟨by simp, rfl⟩
  ·have hcn2 : c - m ≠ 0 := by omega
   have hcn3 : m < c := by omega
   have hcn4 : (m : Int) < (c : Int) := by omega
   refine ⟨some (a.add m), n - m, c - m, true, rfl, by simpa using hs, fun u hu => ?_⟩
   have HQ := zaa (HP.out u hu)
   clear ha hb HP hu hs
   go_enter Tryz.func244, Tryz.ntmps244
   go_wp2_with (go_at_call 250; refine zac HQ.out ?_)
   go_ret2
   exact ⟨by simp, rfl⟩
structure Ag (w : World) (a b1 b2 b3 b4 : Nat) (qo : Option Addr) (qn qc : Nat) (ro : Option Addr) (rn rc : Nat) (b : Bool) (P q : List Int) : Prop where
 c1 : w.cell? ⟨b1, 0, none⟩ = some (.pointer (some ⟨a, 0, none⟩))
 c2 : w.cell? ⟨b2, 0, none⟩ = some (.slice qo qn qc)
 c3 : w.cell? ⟨b3, 0, none⟩ = some (.bool b)
 c4 : w.cell? ⟨b4, 0, none⟩ = some (.slice ro rn rc)
 l1 : b1 < w.heap.size
 l2 : b2 < w.heap.size
 l3 : b3 < w.heap.size
 l4 : b4 < w.heap.size
 hq : Sl w qo qn qc q
 hr : Sl w ro rn rc (if b then q.drop P.length else q)
 hb : b = decide (q.take P.length = P)
def AgTo (a : Nat) (qo : Option Addr) (qn qc : Nat) (P q : List Int) (w : World) (e : Ending) (w' : World) : Prop :=
 ∃ (b1 b2 b3 b4 : Nat) (ro : Option Addr) (rn rc : Nat) (b : Bool), e = .returned (.func (.func 245) #[] #[.pointer (some ⟨b1, 0, none⟩), .pointer (some ⟨b2, 0, none⟩), .pointer (some ⟨b3, 0, none⟩), .pointer (some ⟨b4, 0, none⟩)]) ∧ Hid (Ag w' a b1 b2 b3 b4 qo qn qc ro rn rc b P q) ∧ Hid (Below w.heap.size w w')
theorem AgTo.of {w x z : World} {a s b3 b4 : Nat} {qo : Option Addr} {qn qc : Nat} {ro : Option Addr} {rn rc : Nat} {b : Bool} {P q : List Int} (hbx : Below w.heap.size w x) (hb : b = decide (q.take P.length = P)) (hq : Sl x qo qn qc q) (hr : Sl x ro rn rc (if b then q.drop P.length else q)) (hxs : x.heap.size = s + 2) (h12 : x.cell? ⟨s, 0, none⟩ = some (.pointer (some ⟨a, 0, none⟩)) ∧ x.cell? ⟨s + 1, 0, none⟩ = some (.slice qo qn qc)) (hz : Below x.heap.size x z)
  (c3 : z.cell? ⟨b3, 0, none⟩ = some (.bool b)) (c4 : z.cell? ⟨b4, 0, none⟩ = some (.slice ro rn rc)) (l3 : b3 < z.heap.size) (l4 : b4 < z.heap.size) :
  AgTo a qo qn qc P q w (.returned (.func (.func 245) #[] #[.pointer (some ⟨s, 0, none⟩), .pointer (some ⟨s + 1, 0, none⟩), .pointer (some ⟨b3, 0, none⟩), .pointer (some ⟨b4, 0, none⟩)])) z := by
 have := hz.size
 exact ⟨s, s + 1, b3, b4, ro, rn, rc, b, rfl, zaa ⟨(hz.cell (p := ⟨s, 0, none⟩) (by simp only; omega)).trans h12.1, (hz.cell (p := ⟨s + 1, 0, none⟩) (by simp only; omega)).trans h12.2, c3, c4, by omega, by omega, l3, l4, hq.on Lr hz, hr.on Lr hz, hb⟩, zaa (zae hbx Lr hz)⟩
theorem against_any (w : World) (a : Nat) (k : Int) (n : Nat) (po : Option Addr) (pn pc : Nat) (vb vs : Value) (ws : Int) (P : List Int) (h : QR w a k n (.slice po pn pc) vb vs ws) (hP : Sl w po pn pc P) (qo : Option Addr) (qn qc : Nat) (q : List Int) (hq : Sl w qo qn qc q) :
  Calls Tryz.prog 239 #[.pointer (some ⟨a, 0, none⟩), .slice qo qn qc] w fun e w' => AgTo a qo qn qc P q w e w' := by
 obtain ⟨x, hx⟩ : ∃ x, (w.alloc (.cells #[.pointer (some ⟨a, 0, none⟩)] 85)).alloc (.cells #[.slice qo qn qc] 22) = x := ⟨_, rfl⟩
 have hbx : Below w.heap.size w x := by rw [← hx]; exact zad (zad Br Lr _) Lr _
 obtain ⟨ro, rn, rc, b, hb, hr, hcut⟩ := cut_row qo po qn pn qc pc q P x (hq.on Lr hbx) (hP.on Lr hbx)
 have HCUT := zaa hcut
 obtain ⟨p0, p1, p2, p3, p4, p5⟩ := (show QR x a k n (.slice po pn pc) vb vs ws from zag h hbx).cells
 have p2a := fun o => (show QR (x.alloc o) a k n (.slice po pn pc) vb vs ws from zag (zag h hbx) (zad Br Lr _)).cells.2.2.1
 have p2b := fun o o' => (show QR ((x.alloc o).alloc o') a k n (.slice po pn pc) vb vs ws from zag (zag h hbx) (zad (zad Br Lr _) Lr _)).cells.2.2.1
 obtain ⟨s, hs⟩ : ∃ s, w.heap.size = s := ⟨_, rfl⟩
 have x1 : x.cell? ⟨s, 0, none⟩ = some (.pointer (some ⟨a, 0, none⟩)) := by rw [← hx, ← hs]; simp
 have x2 : x.cell? ⟨s + 1, 0, none⟩ = some (.slice qo qn qc) := by rw [← hx, ← hs]; simp
 have hxs : x.heap.size = s + 2 := by rw [← hx, ← hs]; simp
 have HSF : Hid (∀ u, Below x.heap.size x u → u.cell? ⟨s, 0, none⟩ = some (.pointer (some ⟨a, 0, none⟩)) ∧ u.cell? ⟨s + 1, 0, none⟩ = some (.slice qo qn qc) ∧ u.cell? ⟨a, 2, none⟩ = some (.slice po pn pc)) := zaa fun u hu => ⟨(hu.cell (p := ⟨s, 0, none⟩) (by simp only; omega)).trans x1, (hu.cell (p := ⟨s + 1, 0, none⟩) (by simp only; omega)).trans x2, (show QR u a k n (.slice po pn pc) vb vs ws from zag (zag h hbx) hu).cells.2.2.1⟩
 have HBX := zaa hbx
 have HB := zaa hb
 have HR := zaa hr
 have HQ := zaa (hq.on Lr hbx)
 have HX12 := zaa (And.intro x1 x2)
 clear h hP hq hcut hb hr p2a p2b hbx
 go_enter Tryz.func239, Tryz.ntmps239
 go_wp2_with fail
 refine wp_region_held_drew (S := (fun u => u.cell? ⟨s, 0, none⟩ = some (.pointer (some ⟨a, 0, none⟩)) ∧ u.cell? ⟨s + 1, 0, none⟩ = some (.slice qo qn qc) ∧ u.cell? ⟨a, 2, none⟩ = some (.slice po pn pc))) (by kernel_rfl) (HSF.out _ Br.drew) (fun hHeld => ?_)
 refine zT (i := 0) (v := ?_) rfl ?_ (fun _ _ _ h => h) ?_
 rotate_left
 ·(rintro w ⟨s0, s1, s2⟩; go_simp; try with_reducible rfl)
 try simp only [Act.put, zA, zC, zD, zE, zF]
 refine zT (i := 1) (v := ?_) rfl ?_ (fun _ _ _ h => h) ?_
 rotate_left
 ·(rintro w ⟨s0, s1, s2⟩; go_simp; try with_reducible rfl)
 try simp only [Act.put, zA, zB, zC, zD, zE, zF]
 refine zT (i := 2) (v := ?_) rfl ?_ (fun _ _ _ h => h) ?_
 rotate_left
 ·(rintro w ⟨s0, s1, s2⟩; go_simp; try with_reducible rfl)
 try simp only [Act.put, zA, zB, zC, zD, zE, zF]
 refine zT (i := 3) (v := ?_) rfl ?_ (fun _ _ _ h => h) ?_
 rotate_left
 ·(rintro w ⟨s0, s1, s2⟩; go_simp; try with_reducible rfl)
 try simp only [Act.put, zA, zB, zC, zD, zE, zF]
 refine zT (i := 4) (v := ?_) rfl ?_ (fun _ _ _ h => h) ?_
 rotate_left
 ·(rintro w ⟨s0, s1, s2⟩; go_simp; try with_reducible rfl)
 try simp only [Act.put, zA, zB, zC, zD, zE, zF]
 refine wpAnyH_ready (rs := [5, 9, 10]) (by kernel_rfl) (by simp) ?_
 refine AllReadyH.cons rfl (fun K hK => ?_) (AllReadyH.cons rfl (fun K hK => ?_) (AllReadyH.cons rfl (fun K hK => ?_) AllReadyH.nil))
 ·go_simp
  go_at_call 244
  refine zac (HCUT.out _ (by repeat (first | exact Br | apply Below.drew | apply below_drewN | refine zad ?_ Lr _ | refine Below.setCell ?_ (by simp; try omega) _))) ?_
  dsimp only
  refine hK.out _ _ (HSF.out _ (by repeat (first | exact Br | apply Below.drew | apply below_drewN | refine zad ?_ Lr _ | refine Below.setCell ?_ (by simp; try omega) _))) (fun hHeld => ?_)
  clear hK K
  try simp only [Act.put, zA, zB, zC, zD, zE, zF]
  refine zT (i := 6) (v := ?_) rfl ?_ (fun _ _ _ h => h) ?_
  rotate_left
  ·(rintro w ⟨s0, s1, s2⟩; go_simp; try with_reducible rfl)
  try simp only [Act.put, zA, zB, zC, zD, zE, zF]
  refine zT (i := 7) (v := ?_) rfl ?_ (fun _ _ _ h => h) ?_
  rotate_left
  ·(rintro w ⟨s0, s1, s2⟩; go_simp; try with_reducible rfl)
  try simp only [Act.put, zA, zB, zC, zD, zE, zF]
  refine zT (i := 8) (v := ?_) rfl ?_ (fun _ _ _ h => h) ?_
  rotate_left
  ·(rintro w ⟨s0, s1, s2⟩; go_simp; try with_reducible rfl)
  try simp only [Act.put, zA, zB, zC, zD, zE, zF]
  refine wpAnyH_ready (rs := [9, 10]) (by kernel_rfl) (by simp) ?_
  refine AllReadyH.cons rfl (fun K hK => ?_) (AllReadyH.cons rfl (fun K hK => ?_) AllReadyH.nil)
  ·go_simp
   refine hK.out _ _ (HSF.out _ (by repeat (first | exact Br | apply Below.drew | apply below_drewN | refine zad ?_ Lr _ | refine Below.setCell ?_ (by simp; try omega) _))) (fun hHeld => ?_)
   clear hK K
   try simp only [Act.put, zA, zB, zC, zD, zE, zF]
   refine zY (i := 10) rfl fun K hK => ?_
   ·go_simp
    refine hK.out _ _ (HSF.out _ (by repeat (first | exact Br | apply Below.drew | apply below_drewN | refine zad ?_ Lr _ | refine Below.setCell ?_ (by simp; try omega) _))) (fun hHeld => ?_)
    clear hK K
    try simp only [Act.put, zA, zB, zC, zD, zE, zF]
    refine zY (i := 11) rfl fun K hK => ?_
    go_simp
    refine hK.out _ _ (HSF.out _ (by repeat (first | exact Br | apply Below.drew | apply below_drewN | refine zad ?_ Lr _ | refine Below.setCell ?_ (by simp; try omega) _))) (fun hHeld => ?_)
    clear hK K
    try simp only [Act.put, zA, zB, zC, zD, zE, zF]
    refine zY (i := 12) rfl fun K hK => ?_
    go_simp
    refine hK.out _ _ (HSF.out _ (by repeat (first | exact Br | apply Below.drew | apply below_drewN | refine zad ?_ Lr _ | refine Below.setCell ?_ (by simp; try omega) _))) (fun hHeld => ?_)
    clear hK K
    try simp only [Act.put, zA, zB, zC, zD, zE, zF]
    refine wpAnyH_done (by kernel_rfl) ?_ _
    go_wp2
    go_ret
    exact AgTo.of HBX.out HB.out HQ.out HR.out hxs HX12.out (by repeat (first | exact Br | apply Below.drew | apply below_drewN | refine zad ?_ Lr _ | refine Below.setCell ?_ (by simp; try omega) _)) (by rw [← hxs]; simp) (by rw [← hxs]; simp) (by simp; try omega) (by simp; try omega)
  ·go_simp
   refine hK.out _ _ (HSF.out _ (by repeat (first | exact Br | apply Below.drew | apply below_drewN | refine zad ?_ Lr _ | refine Below.setCell ?_ (by simp; try omega) _))) (fun hHeld => ?_)
   clear hK K
   try simp only [Act.put, zA, zB, zC, zD, zE, zF]
   refine zY (i := 9) rfl fun K hK => ?_
   ·go_simp
    refine hK.out _ _ (HSF.out _ (by repeat (first | exact Br | apply Below.drew | apply below_drewN | refine zad ?_ Lr _ | refine Below.setCell ?_ (by simp; try omega) _))) (fun hHeld => ?_)
    clear hK K
    try simp only [Act.put, zA, zB, zC, zD, zE, zF]
    refine zY (i := 11) rfl fun K hK => ?_
    go_simp
    refine hK.out _ _ (HSF.out _ (by repeat (first | exact Br | apply Below.drew | apply below_drewN | refine zad ?_ Lr _ | refine Below.setCell ?_ (by simp; try omega) _))) (fun hHeld => ?_)
    clear hK K
    try simp only [Act.put, zA, zB, zC, zD, zE, zF]
    refine zY (i := 12) rfl fun K hK => ?_
    go_simp
    refine hK.out _ _ (HSF.out _ (by repeat (first | exact Br | apply Below.drew | apply below_drewN | refine zad ?_ Lr _ | refine Below.setCell ?_ (by simp; try omega) _))) (fun hHeld => ?_)
    clear hK K
    try simp only [Act.put, zA, zB, zC, zD, zE, zF]
    refine wpAnyH_done (by kernel_rfl) ?_ _
    go_wp2
    go_ret
    exact AgTo.of HBX.out HB.out HQ.out HR.out hxs HX12.out (by repeat (first | exact Br | apply Below.drew | apply below_drewN | refine zad ?_ Lr _ | refine Below.setCell ?_ (by simp; try omega) _)) (by rw [← hxs]; simp) (by rw [← hxs]; simp) (by simp; try omega) (by simp; try omega)
 ·go_simp
  refine hK.out _ _ (HSF.out _ (by repeat (first | exact Br | apply Below.drew | apply below_drewN | refine zad ?_ Lr _ | refine Below.setCell ?_ (by simp; try omega) _))) (fun hHeld => ?_)
  clear hK K
  try simp only [Act.put, zA, zB, zC, zD, zE, zF]
  refine wpAnyH_ready (rs := [5, 10]) (by kernel_rfl) (by simp) ?_
  refine AllReadyH.cons rfl (fun K hK => ?_) (AllReadyH.cons rfl (fun K hK => ?_) AllReadyH.nil)
  ·go_simp
   go_at_call 244
   refine zac (HCUT.out _ (by repeat (first | exact Br | apply Below.drew | apply below_drewN | refine zad ?_ Lr _ | refine Below.setCell ?_ (by simp; try omega) _))) ?_
   dsimp only
   refine hK.out _ _ (HSF.out _ (by repeat (first | exact Br | apply Below.drew | apply below_drewN | refine zad ?_ Lr _ | refine Below.setCell ?_ (by simp; try omega) _))) (fun hHeld => ?_)
   clear hK K
   try simp only [Act.put, zA, zB, zC, zD, zE, zF]
   refine zT (i := 6) (v := ?_) rfl ?_ (fun _ _ _ h => h) ?_
   rotate_left
   ·(rintro w ⟨s0, s1, s2⟩; go_simp; try with_reducible rfl)
   try simp only [Act.put, zA, zB, zC, zD, zE, zF]
   refine zT (i := 7) (v := ?_) rfl ?_ (fun _ _ _ h => h) ?_
   rotate_left
   ·(rintro w ⟨s0, s1, s2⟩; go_simp; try with_reducible rfl)
   try simp only [Act.put, zA, zB, zC, zD, zE, zF]
   refine zT (i := 8) (v := ?_) rfl ?_ (fun _ _ _ h => h) ?_
   rotate_left
   ·(rintro w ⟨s0, s1, s2⟩; go_simp; try with_reducible rfl)
   try simp only [Act.put, zA, zB, zC, zD, zE, zF]
   refine zY (i := 10) rfl fun K hK => ?_
   ·go_simp
    refine hK.out _ _ (HSF.out _ (by repeat (first | exact Br | apply Below.drew | apply below_drewN | refine zad ?_ Lr _ | refine Below.setCell ?_ (by simp; try omega) _))) (fun hHeld => ?_)
    clear hK K
    try simp only [Act.put, zA, zB, zC, zD, zE, zF]
    refine zY (i := 11) rfl fun K hK => ?_
    go_simp
    refine hK.out _ _ (HSF.out _ (by repeat (first | exact Br | apply Below.drew | apply below_drewN | refine zad ?_ Lr _ | refine Below.setCell ?_ (by simp; try omega) _))) (fun hHeld => ?_)
    clear hK K
    try simp only [Act.put, zA, zB, zC, zD, zE, zF]
    refine zY (i := 12) rfl fun K hK => ?_
    go_simp
    refine hK.out _ _ (HSF.out _ (by repeat (first | exact Br | apply Below.drew | apply below_drewN | refine zad ?_ Lr _ | refine Below.setCell ?_ (by simp; try omega) _))) (fun hHeld => ?_)
    clear hK K
    try simp only [Act.put, zA, zB, zC, zD, zE, zF]
    refine wpAnyH_done (by kernel_rfl) ?_ _
    go_wp2
    go_ret
    exact AgTo.of HBX.out HB.out HQ.out HR.out hxs HX12.out (by repeat (first | exact Br | apply Below.drew | apply below_drewN | refine zad ?_ Lr _ | refine Below.setCell ?_ (by simp; try omega) _)) (by rw [← hxs]; simp) (by rw [← hxs]; simp) (by simp; try omega) (by simp; try omega)
  ·go_simp
   refine hK.out _ _ (HSF.out _ (by repeat (first | exact Br | apply Below.drew | apply below_drewN | refine zad ?_ Lr _ | refine Below.setCell ?_ (by simp; try omega) _))) (fun hHeld => ?_)
   clear hK K
   try simp only [Act.put, zA, zB, zC, zD, zE, zF]
   refine zY (i := 5) rfl fun K hK => ?_
   ·go_simp
    go_at_call 244
    refine zac (HCUT.out _ (by repeat (first | exact Br | apply Below.drew | apply below_drewN | refine zad ?_ Lr _ | refine Below.setCell ?_ (by simp; try omega) _))) ?_
    dsimp only
    refine hK.out _ _ (HSF.out _ (by repeat (first | exact Br | apply Below.drew | apply below_drewN | refine zad ?_ Lr _ | refine Below.setCell ?_ (by simp; try omega) _))) (fun hHeld => ?_)
    clear hK K
    try simp only [Act.put, zA, zB, zC, zD, zE, zF]
    refine zT (i := 6) (v := ?_) rfl ?_ (fun _ _ _ h => h) ?_
    rotate_left
    ·(rintro w ⟨s0, s1, s2⟩; go_simp; try with_reducible rfl)
    try simp only [Act.put, zA, zB, zC, zD, zE, zF]
    refine zT (i := 7) (v := ?_) rfl ?_ (fun _ _ _ h => h) ?_
    rotate_left
    ·(rintro w ⟨s0, s1, s2⟩; go_simp; try with_reducible rfl)
    try simp only [Act.put, zA, zB, zC, zD, zE, zF]
    refine zT (i := 8) (v := ?_) rfl ?_ (fun _ _ _ h => h) ?_
    rotate_left
    ·(rintro w ⟨s0, s1, s2⟩; go_simp; try with_reducible rfl)
    try simp only [Act.put, zA, zB, zC, zD, zE, zF]
    refine zY (i := 11) rfl fun K hK => ?_
    go_simp
    refine hK.out _ _ (HSF.out _ (by repeat (first | exact Br | apply Below.drew | apply below_drewN | refine zad ?_ Lr _ | refine Below.setCell ?_ (by simp; try omega) _))) (fun hHeld => ?_)
    clear hK K
    try simp only [Act.put, zA, zB, zC, zD, zE, zF]
    refine zY (i := 12) rfl fun K hK => ?_
    go_simp
    refine hK.out _ _ (HSF.out _ (by repeat (first | exact Br | apply Below.drew | apply below_drewN | refine zad ?_ Lr _ | refine Below.setCell ?_ (by simp; try omega) _))) (fun hHeld => ?_)
    clear hK K
    try simp only [Act.put, zA, zB, zC, zD, zE, zF]
    refine wpAnyH_done (by kernel_rfl) ?_ _
    go_wp2
    go_ret
    exact AgTo.of HBX.out HB.out HQ.out HR.out hxs HX12.out (by repeat (first | exact Br | apply Below.drew | apply below_drewN | refine zad ?_ Lr _ | refine Below.setCell ?_ (by simp; try omega) _)) (by rw [← hxs]; simp) (by rw [← hxs]; simp) (by simp; try omega) (by simp; try omega)
 ·go_simp
  refine hK.out _ _ (HSF.out _ (by repeat (first | exact Br | apply Below.drew | apply below_drewN | refine zad ?_ Lr _ | refine Below.setCell ?_ (by simp; try omega) _))) (fun hHeld => ?_)
  clear hK K
  try simp only [Act.put, zA, zB, zC, zD, zE, zF]
  refine wpAnyH_ready (rs := [5, 9]) (by kernel_rfl) (by simp) ?_
  refine AllReadyH.cons rfl (fun K hK => ?_) (AllReadyH.cons rfl (fun K hK => ?_) AllReadyH.nil)
  ·go_simp
   go_at_call 244
   refine zac (HCUT.out _ (by repeat (first | exact Br | apply Below.drew | apply below_drewN | refine zad ?_ Lr _ | refine Below.setCell ?_ (by simp; try omega) _))) ?_
   dsimp only
   refine hK.out _ _ (HSF.out _ (by repeat (first | exact Br | apply Below.drew | apply below_drewN | refine zad ?_ Lr _ | refine Below.setCell ?_ (by simp; try omega) _))) (fun hHeld => ?_)
   clear hK K
   try simp only [Act.put, zA, zB, zC, zD, zE, zF]
   refine zT (i := 6) (v := ?_) rfl ?_ (fun _ _ _ h => h) ?_
   rotate_left
   ·(rintro w ⟨s0, s1, s2⟩; go_simp; try with_reducible rfl)
   try simp only [Act.put, zA, zB, zC, zD, zE, zF]
   refine zT (i := 7) (v := ?_) rfl ?_ (fun _ _ _ h => h) ?_
   rotate_left
   ·(rintro w ⟨s0, s1, s2⟩; go_simp; try with_reducible rfl)
   try simp only [Act.put, zA, zB, zC, zD, zE, zF]
   refine zT (i := 8) (v := ?_) rfl ?_ (fun _ _ _ h => h) ?_
   rotate_left
   ·(rintro w ⟨s0, s1, s2⟩; go_simp; try with_reducible rfl)
   try simp only [Act.put, zA, zB, zC, zD, zE, zF]
   refine zY (i := 9) rfl fun K hK => ?_
   ·go_simp
    refine hK.out _ _ (HSF.out _ (by repeat (first | exact Br | apply Below.drew | apply below_drewN | refine zad ?_ Lr _ | refine Below.setCell ?_ (by simp; try omega) _))) (fun hHeld => ?_)
    clear hK K
    try simp only [Act.put, zA, zB, zC, zD, zE, zF]
    refine zY (i := 11) rfl fun K hK => ?_
    go_simp
    refine hK.out _ _ (HSF.out _ (by repeat (first | exact Br | apply Below.drew | apply below_drewN | refine zad ?_ Lr _ | refine Below.setCell ?_ (by simp; try omega) _))) (fun hHeld => ?_)
    clear hK K
    try simp only [Act.put, zA, zB, zC, zD, zE, zF]
    refine zY (i := 12) rfl fun K hK => ?_
    go_simp
    refine hK.out _ _ (HSF.out _ (by repeat (first | exact Br | apply Below.drew | apply below_drewN | refine zad ?_ Lr _ | refine Below.setCell ?_ (by simp; try omega) _))) (fun hHeld => ?_)
    clear hK K
    try simp only [Act.put, zA, zB, zC, zD, zE, zF]
    refine wpAnyH_done (by kernel_rfl) ?_ _
    go_wp2
    go_ret
    exact AgTo.of HBX.out HB.out HQ.out HR.out hxs HX12.out (by repeat (first | exact Br | apply Below.drew | apply below_drewN | refine zad ?_ Lr _ | refine Below.setCell ?_ (by simp; try omega) _)) (by rw [← hxs]; simp) (by rw [← hxs]; simp) (by simp; try omega) (by simp; try omega)
  ·go_simp
   refine hK.out _ _ (HSF.out _ (by repeat (first | exact Br | apply Below.drew | apply below_drewN | refine zad ?_ Lr _ | refine Below.setCell ?_ (by simp; try omega) _))) (fun hHeld => ?_)
   clear hK K
   try simp only [Act.put, zA, zB, zC, zD, zE, zF]
   refine zY (i := 5) rfl fun K hK => ?_
   ·go_simp
    go_at_call 244
    refine zac (HCUT.out _ (by repeat (first | exact Br | apply Below.drew | apply below_drewN | refine zad ?_ Lr _ | refine Below.setCell ?_ (by simp; try omega) _))) ?_
    dsimp only
    refine hK.out _ _ (HSF.out _ (by repeat (first | exact Br | apply Below.drew | apply below_drewN | refine zad ?_ Lr _ | refine Below.setCell ?_ (by simp; try omega) _))) (fun hHeld => ?_)
    clear hK K
    try simp only [Act.put, zA, zB, zC, zD, zE, zF]
    refine zT (i := 6) (v := ?_) rfl ?_ (fun _ _ _ h => h) ?_
    rotate_left
    ·(rintro w ⟨s0, s1, s2⟩; go_simp; try with_reducible rfl)
    try simp only [Act.put, zA, zB, zC, zD, zE, zF]
    refine zT (i := 7) (v := ?_) rfl ?_ (fun _ _ _ h => h) ?_
    rotate_left
    ·(rintro w ⟨s0, s1, s2⟩; go_simp; try with_reducible rfl)
    try simp only [Act.put, zA, zB, zC, zD, zE, zF]
    refine zT (i := 8) (v := ?_) rfl ?_ (fun _ _ _ h => h) ?_
    rotate_left
    ·(rintro w ⟨s0, s1, s2⟩; go_simp; try with_reducible rfl)
    try simp only [Act.put, zA, zB, zC, zD, zE, zF]
    refine zY (i := 11) rfl fun K hK => ?_
    go_simp
    refine hK.out _ _ (HSF.out _ (by repeat (first | exact Br | apply Below.drew | apply below_drewN | refine zad ?_ Lr _ | refine Below.setCell ?_ (by simp; try omega) _))) (fun hHeld => ?_)
    clear hK K
    try simp only [Act.put, zA, zB, zC, zD, zE, zF]
    refine zY (i := 12) rfl fun K hK => ?_
    go_simp
    refine hK.out _ _ (HSF.out _ (by repeat (first | exact Br | apply Below.drew | apply below_drewN | refine zad ?_ Lr _ | refine Below.setCell ?_ (by simp; try omega) _))) (fun hHeld => ?_)
    clear hK K
    try simp only [Act.put, zA, zB, zC, zD, zE, zF]
    refine wpAnyH_done (by kernel_rfl) ?_ _
    go_wp2
    go_ret
    exact AgTo.of HBX.out HB.out HQ.out HR.out hxs HX12.out (by repeat (first | exact Br | apply Below.drew | apply below_drewN | refine zad ?_ Lr _ | refine Below.setCell ?_ (by simp; try omega) _)) (by rw [← hxs]; simp) (by rw [← hxs]; simp) (by simp; try omega) (by simp; try omega)
theorem Sl.apartQ {w : World} {ao : Option Addr} {n cap : Nat} {l : List Int} (h : Sl w ao n cap l) {g : Nat} {a b d : Option Addr} {c1 c2 c3 c4 c5 c6 : Nat} {x y z : Int} (hr : QR w g x y (.slice a c1 c2) (.slice b c3 c4) (.slice d c5 c6) z) : n = 0 ∨ ∀ p, ao = some p → ¬ p.block = g := by
 rcases h.hat with h0 | ⟨q, off, rfl, hg, hc⟩
 ·exact .inl h0
 ·rcases Nat.eq_zero_or_pos n with h0 | h0
  ·exact .inl h0
  ·right
   rintro p hp rfl
   injection hp with hp
   subst hp
   have h1 := hc 0 h0
   unfold QR at hr
   rw [cell_of_row _ _ _ _ _ _ hr] at h1
   rcases Nat.lt_or_ge (off + 0) 6 with h3 | h3
   ·have h4 : off + 0 = 0 ∨ off + 0 = 1 ∨ off + 0 = 2 ∨ off + 0 = 3 ∨ off + 0 = 4 ∨ off + 0 = 5 := by omega
    rcases h4 with h4 | h4 | h4 | h4 | h4 | h4 <;> (rw [h4] at h1; simp at h1)
   ·rw [Array.getElem?_eq_none (by simpa using h3)] at h1
    cases h1
end Go.Proofs.YtbkhjeacmmbabaaGreatDoor
