import Derived.Test.YtbkhjeacmmbabaaGreatDoorJ37
namespace Go.Proofs.YtbkhjeacmmbabaaGreatDoor
set_option maxRecDepth 100000
open Go.RowKit
def AgTo (a : Nat) (qo : Option Addr) (qn qc : Nat) (P q : List Int) (w : World) (e : Ending) (w' : World) : Prop :=
 ∃ (b1 b2 b3 b4 : Nat) (ro : Option Addr) (rn rc : Nat) (b : Bool), e = .returned (.func (.func 245) #[] #[.pointer (some ⟨b1, 0, none⟩), .pointer (some ⟨b2, 0, none⟩), .pointer (some ⟨b3, 0, none⟩), .pointer (some ⟨b4, 0, none⟩)]) ∧ Hid (Ag w' a b1 b2 b3 b4 qo qn qc ro rn rc b P q) ∧ Hid (Below w.heap.size w w')
theorem AgTo.of {w x z : World} {a s b3 b4 : Nat} {qo : Option Addr} {qn qc : Nat} {ro : Option Addr} {rn rc : Nat} {b : Bool} {P q : List Int} (B : Below w.heap.size w x) (hb : b = decide (q.take P.length = P)) (hq : Sl x qo qn qc q) (hr : Sl x ro rn rc (if b then q.drop P.length else q)) (C : x.heap.size = s + 2) (A : x.cell? ⟨s, 0, none⟩ = some (.pointer (some ⟨a, 0, none⟩)) ∧ x.cell? ⟨s + 1, 0, none⟩ = some (.slice qo qn qc)) (hz : Below x.heap.size x z)
  (c3 : z.cell? ⟨b3, 0, none⟩ = some (.bool b)) (c4 : z.cell? ⟨b4, 0, none⟩ = some (.slice ro rn rc)) (l3 : b3 < z.heap.size) (l4 : b4 < z.heap.size) :
  AgTo a qo qn qc P q w (.returned (.func (.func 245) #[] #[.pointer (some ⟨s, 0, none⟩), .pointer (some ⟨s + 1, 0, none⟩), .pointer (some ⟨b3, 0, none⟩), .pointer (some ⟨b4, 0, none⟩)])) z := by
 have := hz.size
 exact ⟨s, s + 1, b3, b4, ro, rn, rc, b, rfl, zaa ⟨(hz.cell (p := ⟨s, 0, none⟩) (by simp only; omega)).trans A.1, (hz.cell (p := ⟨s + 1, 0, none⟩) (by simp only; omega)).trans A.2, c3, c4, zq, zq, l3, l4, hq.on Lr hz, hr.on Lr hz, hb⟩, zaa (zae B Lr hz)⟩
set_option maxHeartbeats 2000000 in
theorem against_any (w : World) (a : Nat) (k : Int) (n : Nat) (po : Option Addr) (pn pc : Nat) (vb vs : Value) (ws : Int) (P : List Int) (h : QR w a k n (.slice po pn pc) vb vs ws) (hP : Sl w po pn pc P) (qo : Option Addr) (qn qc : Nat) (q : List Int) (hq : Sl w qo qn qc q) :
  Calls Tryz.prog 239 #[.pointer (some ⟨a, 0, none⟩), .slice qo qn qc] w fun e w' => AgTo a qo qn qc P q w e w' := by
 obtain ⟨x, hx⟩ : ∃ x, (w.alloc (.cells #[.pointer (some ⟨a, 0, none⟩)] 85)).alloc (.cells #[.slice qo qn qc] 22) = x := ⟨_, rfl⟩
 have D : Below w.heap.size w x := by rw [← hx]; exact zab (zab Br Lr _) Lr _
 obtain ⟨ro, rn, rc, b, hb, hr, hcut⟩ := cut_row qo po qn pn qc pc q P x (hq.on Lr D) (hP.on Lr D)
 have F := zaa hcut
 obtain ⟨p0, p1, p2, p3, p4, p5⟩ := (show QR x a k n (.slice po pn pc) vb vs ws from zag h D).cells
 have p2a := fun o => (show QR (x.alloc o) a k n (.slice po pn pc) vb vs ws from zag (zag h D) (zab Br Lr _)).cells.2.2.1
 have p2b := fun o o' => (show QR ((x.alloc o).alloc o') a k n (.slice po pn pc) vb vs ws from zag (zag h D) (zab (zab Br Lr _) Lr _)).cells.2.2.1
 obtain ⟨s, hs⟩ : ∃ s, w.heap.size = s := ⟨_, rfl⟩
 have x1 : x.cell? ⟨s, 0, none⟩ = some (.pointer (some ⟨a, 0, none⟩)) := by rw [← hx, ← hs]; simp
 have x2 : x.cell? ⟨s + 1, 0, none⟩ = some (.slice qo qn qc) := by rw [← hx, ← hs]; simp
 have C : x.heap.size = s + 2 := by rw [← hx, ← hs]; simp
 have B : Hid (∀ u, Below x.heap.size x u → u.cell? ⟨s, 0, none⟩ = some (.pointer (some ⟨a, 0, none⟩)) ∧ u.cell? ⟨s + 1, 0, none⟩ = some (.slice qo qn qc) ∧ u.cell? ⟨a, 2, none⟩ = some (.slice po pn pc)) := zaa fun u hu => ⟨(hu.cell (p := ⟨s, 0, none⟩) (by simp only; omega)).trans x1, (hu.cell (p := ⟨s + 1, 0, none⟩) (by simp only; omega)).trans x2, (show QR u a k n (.slice po pn pc) vb vs ws from zag (zag h D) hu).cells.2.2.1⟩
 have G := zaa D
 have HB := zaa hb
 have HR := zaa hr
 have HQ := zaa (hq.on Lr D)
 have E := zaa (And.intro x1 x2)
 clear h hP hq hcut hb hr p2a p2b D
 go_enter Tryz.func239, Tryz.ntmps239
 go_wp2_with fail
 refine wp_region_held_drew (S := (fun u => u.cell? ⟨s, 0, none⟩ = some (.pointer (some ⟨a, 0, none⟩)) ∧ u.cell? ⟨s + 1, 0, none⟩ = some (.slice qo qn qc) ∧ u.cell? ⟨a, 2, none⟩ = some (.slice po pn pc))) (by kernel_rfl) (B.out _ Br.drew) (fun A => ?_)
 refine zCi 0 ?_
 iterate 5 (refine zTc ?_ rfl ?_ ?_; rotate_left; (· (rintro w ⟨s0, s1, s2⟩; go_simp; try with_reducible rfl)); try simp only [Act.put, zA, zB, zC, zD, zE, zF])
 refine zCo ?_
 refine wpAnyH_ready (rs := [5, 9, 10]) (by kernel_rfl) zv ?_
 refine AllReadyH.cons rfl (fun K hK => ?_) (AllReadyH.cons rfl (fun K hK => ?_) (AllReadyH.cons rfl (fun K hK => ?_) AllReadyH.nil))
 ·go_simp
  go_at_call 244
  refine zad (F.out _ (by repeat (first | exact Br | apply Below.drew | apply below_drewN | refine zab ?_ Lr _ | refine Below.setCell ?_ zst _))) ?_
  dsimp only
  refine hK.out _ _ (B.out _ (by repeat (first | exact Br | apply Below.drew | apply below_drewN | refine zab ?_ Lr _ | refine Below.setCell ?_ zst _))) (fun A => ?_)
  clear hK K
  try simp only [Act.put, zA, zB, zC, zD, zE, zF]
  refine zCi 6 ?_
  iterate 3 (refine zTc ?_ rfl ?_ ?_; rotate_left; (· (rintro w ⟨s0, s1, s2⟩; go_simp; try with_reducible rfl)); try simp only [Act.put, zA, zB, zC, zD, zE, zF])
  refine zCo ?_
  refine wpAnyH_ready (rs := [9, 10]) (by kernel_rfl) zv ?_
  refine AllReadyH.cons rfl (fun K hK => ?_) (AllReadyH.cons rfl (fun K hK => ?_) AllReadyH.nil)
  ·go_simp
   refine hK.out _ _ (B.out _ (by repeat (first | exact Br | apply Below.drew | apply below_drewN | refine zab ?_ Lr _ | refine Below.setCell ?_ zst _))) (fun A => ?_)
   clear hK K
   try simp only [Act.put, zA, zB, zC, zD, zE, zF]
   refine zY (i := 10) rfl fun K hK => ?_
   ·go_simp
    refine hK.out _ _ (B.out _ (by repeat (first | exact Br | apply Below.drew | apply below_drewN | refine zab ?_ Lr _ | refine Below.setCell ?_ zst _))) (fun A => ?_)
    clear hK K
    try simp only [Act.put, zA, zB, zC, zD, zE, zF]
    refine zY (i := 11) rfl fun K hK => ?_
    go_simp
    refine hK.out _ _ (B.out _ (by repeat (first | exact Br | apply Below.drew | apply below_drewN | refine zab ?_ Lr _ | refine Below.setCell ?_ zst _))) (fun A => ?_)
    clear hK K
    try simp only [Act.put, zA, zB, zC, zD, zE, zF]
    refine zY (i := 12) rfl fun K hK => ?_
    go_simp
    refine hK.out _ _ (B.out _ (by repeat (first | exact Br | apply Below.drew | apply below_drewN | refine zab ?_ Lr _ | refine Below.setCell ?_ zst _))) (fun A => ?_)
    clear hK K
    try simp only [Act.put, zA, zB, zC, zD, zE, zF]
    refine wpAnyH_done (by kernel_rfl) ?_ _
    go_wp2
    go_ret
    exact AgTo.of G.out HB.out HQ.out HR.out C E.out (by repeat (first | exact Br | apply Below.drew | apply below_drewN | refine zab ?_ Lr _ | refine Below.setCell ?_ zst _)) (by rw [← C]; simp) (by rw [← C]; simp) zst zst
  ·go_simp
   refine hK.out _ _ (B.out _ (by repeat (first | exact Br | apply Below.drew | apply below_drewN | refine zab ?_ Lr _ | refine Below.setCell ?_ zst _))) (fun A => ?_)
   clear hK K
   try simp only [Act.put, zA, zB, zC, zD, zE, zF]
   refine zY (i := 9) rfl fun K hK => ?_
   ·go_simp
    refine hK.out _ _ (B.out _ (by repeat (first | exact Br | apply Below.drew | apply below_drewN | refine zab ?_ Lr _ | refine Below.setCell ?_ zst _))) (fun A => ?_)
    clear hK K
    try simp only [Act.put, zA, zB, zC, zD, zE, zF]
    refine zY (i := 11) rfl fun K hK => ?_
    go_simp
    refine hK.out _ _ (B.out _ (by repeat (first | exact Br | apply Below.drew | apply below_drewN | refine zab ?_ Lr _ | refine Below.setCell ?_ zst _))) (fun A => ?_)
    clear hK K
    try simp only [Act.put, zA, zB, zC, zD, zE, zF]
    refine zY (i := 12) rfl fun K hK => ?_
    go_simp
    refine hK.out _ _ (B.out _ (by repeat (first | exact Br | apply Below.drew | apply below_drewN | refine zab ?_ Lr _ | refine Below.setCell ?_ zst _))) (fun A => ?_)
    clear hK K
    try simp only [Act.put, zA, zB, zC, zD, zE, zF]
    refine wpAnyH_done (by kernel_rfl) ?_ _
    go_wp2
    go_ret
    exact AgTo.of G.out HB.out HQ.out HR.out C E.out (by repeat (first | exact Br | apply Below.drew | apply below_drewN | refine zab ?_ Lr _ | refine Below.setCell ?_ zst _)) (by rw [← C]; simp) (by rw [← C]; simp) zst zst
 ·go_simp
  refine hK.out _ _ (B.out _ (by repeat (first | exact Br | apply Below.drew | apply below_drewN | refine zab ?_ Lr _ | refine Below.setCell ?_ zst _))) (fun A => ?_)
  clear hK K
  try simp only [Act.put, zA, zB, zC, zD, zE, zF]
  refine wpAnyH_ready (rs := [5, 10]) (by kernel_rfl) zv ?_
  refine AllReadyH.cons rfl (fun K hK => ?_) (AllReadyH.cons rfl (fun K hK => ?_) AllReadyH.nil)
  ·go_simp
   go_at_call 244
   refine zad (F.out _ (by repeat (first | exact Br | apply Below.drew | apply below_drewN | refine zab ?_ Lr _ | refine Below.setCell ?_ zst _))) ?_
   dsimp only
   refine hK.out _ _ (B.out _ (by repeat (first | exact Br | apply Below.drew | apply below_drewN | refine zab ?_ Lr _ | refine Below.setCell ?_ zst _))) (fun A => ?_)
   clear hK K
   try simp only [Act.put, zA, zB, zC, zD, zE, zF]
   refine zCi 6 ?_
   iterate 3 (refine zTc ?_ rfl ?_ ?_; rotate_left; (· (rintro w ⟨s0, s1, s2⟩; go_simp; try with_reducible rfl)); try simp only [Act.put, zA, zB, zC, zD, zE, zF])
   refine zCo ?_
   refine zY (i := 10) rfl fun K hK => ?_
   ·go_simp
    refine hK.out _ _ (B.out _ (by repeat (first | exact Br | apply Below.drew | apply below_drewN | refine zab ?_ Lr _ | refine Below.setCell ?_ zst _))) (fun A => ?_)
    clear hK K
    try simp only [Act.put, zA, zB, zC, zD, zE, zF]
    refine zY (i := 11) rfl fun K hK => ?_
    go_simp
    refine hK.out _ _ (B.out _ (by repeat (first | exact Br | apply Below.drew | apply below_drewN | refine zab ?_ Lr _ | refine Below.setCell ?_ zst _))) (fun A => ?_)
    clear hK K
    try simp only [Act.put, zA, zB, zC, zD, zE, zF]
    refine zY (i := 12) rfl fun K hK => ?_
    go_simp
    refine hK.out _ _ (B.out _ (by repeat (first | exact Br | apply Below.drew | apply below_drewN | refine zab ?_ Lr _ | refine Below.setCell ?_ zst _))) (fun A => ?_)
    clear hK K
    try simp only [Act.put, zA, zB, zC, zD, zE, zF]
    refine wpAnyH_done (by kernel_rfl) ?_ _
    go_wp2
    go_ret
    exact AgTo.of G.out HB.out HQ.out HR.out C E.out (by repeat (first | exact Br | apply Below.drew | apply below_drewN | refine zab ?_ Lr _ | refine Below.setCell ?_ zst _)) (by rw [← C]; simp) (by rw [← C]; simp) zst zst
  ·go_simp
   refine hK.out _ _ (B.out _ (by repeat (first | exact Br | apply Below.drew | apply below_drewN | refine zab ?_ Lr _ | refine Below.setCell ?_ zst _))) (fun A => ?_)
   clear hK K
   try simp only [Act.put, zA, zB, zC, zD, zE, zF]
   refine zY (i := 5) rfl fun K hK => ?_
   ·go_simp
    go_at_call 244
    refine zad (F.out _ (by repeat (first | exact Br | apply Below.drew | apply below_drewN | refine zab ?_ Lr _ | refine Below.setCell ?_ zst _))) ?_
    dsimp only
    refine hK.out _ _ (B.out _ (by repeat (first | exact Br | apply Below.drew | apply below_drewN | refine zab ?_ Lr _ | refine Below.setCell ?_ zst _))) (fun A => ?_)
    clear hK K
    try simp only [Act.put, zA, zB, zC, zD, zE, zF]
    refine zCi 6 ?_
    iterate 3 (refine zTc ?_ rfl ?_ ?_; rotate_left; (· (rintro w ⟨s0, s1, s2⟩; go_simp; try with_reducible rfl)); try simp only [Act.put, zA, zB, zC, zD, zE, zF])
    refine zCo ?_
    refine zY (i := 11) rfl fun K hK => ?_
    go_simp
    refine hK.out _ _ (B.out _ (by repeat (first | exact Br | apply Below.drew | apply below_drewN | refine zab ?_ Lr _ | refine Below.setCell ?_ zst _))) (fun A => ?_)
    clear hK K
    try simp only [Act.put, zA, zB, zC, zD, zE, zF]
    refine zY (i := 12) rfl fun K hK => ?_
    go_simp
    refine hK.out _ _ (B.out _ (by repeat (first | exact Br | apply Below.drew | apply below_drewN | refine zab ?_ Lr _ | refine Below.setCell ?_ zst _))) (fun A => ?_)
    clear hK K
    try simp only [Act.put, zA, zB, zC, zD, zE, zF]
    refine wpAnyH_done (by kernel_rfl) ?_ _
    go_wp2
    go_ret
    exact AgTo.of G.out HB.out HQ.out HR.out C E.out (by repeat (first | exact Br | apply Below.drew | apply below_drewN | refine zab ?_ Lr _ | refine Below.setCell ?_ zst _)) (by rw [← C]; simp) (by rw [← C]; simp) zst zst
 ·go_simp
  refine hK.out _ _ (B.out _ (by repeat (first | exact Br | apply Below.drew | apply below_drewN | refine zab ?_ Lr _ | refine Below.setCell ?_ zst _))) (fun A => ?_)
  clear hK K
  try simp only [Act.put, zA, zB, zC, zD, zE, zF]
  refine wpAnyH_ready (rs := [5, 9]) (by kernel_rfl) zv ?_
  refine AllReadyH.cons rfl (fun K hK => ?_) (AllReadyH.cons rfl (fun K hK => ?_) AllReadyH.nil)
  ·go_simp
   go_at_call 244
   refine zad (F.out _ (by repeat (first | exact Br | apply Below.drew | apply below_drewN | refine zab ?_ Lr _ | refine Below.setCell ?_ zst _))) ?_
   dsimp only
   refine hK.out _ _ (B.out _ (by repeat (first | exact Br | apply Below.drew | apply below_drewN | refine zab ?_ Lr _ | refine Below.setCell ?_ zst _))) (fun A => ?_)
   clear hK K
   try simp only [Act.put, zA, zB, zC, zD, zE, zF]
   refine zCi 6 ?_
   iterate 3 (refine zTc ?_ rfl ?_ ?_; rotate_left; (· (rintro w ⟨s0, s1, s2⟩; go_simp; try with_reducible rfl)); try simp only [Act.put, zA, zB, zC, zD, zE, zF])
   refine zCo ?_
   refine zY (i := 9) rfl fun K hK => ?_
   ·go_simp
    refine hK.out _ _ (B.out _ (by repeat (first | exact Br | apply Below.drew | apply below_drewN | refine zab ?_ Lr _ | refine Below.setCell ?_ zst _))) (fun A => ?_)
    clear hK K
    try simp only [Act.put, zA, zB, zC, zD, zE, zF]
    refine zY (i := 11) rfl fun K hK => ?_
    go_simp
    refine hK.out _ _ (B.out _ (by repeat (first | exact Br | apply Below.drew | apply below_drewN | refine zab ?_ Lr _ | refine Below.setCell ?_ zst _))) (fun A => ?_)
    clear hK K
    try simp only [Act.put, zA, zB, zC, zD, zE, zF]
    refine zY (i := 12) rfl fun K hK => ?_
    go_simp
    refine hK.out _ _ (B.out _ (by repeat (first | exact Br | apply Below.drew | apply below_drewN | refine zab ?_ Lr _ | refine Below.setCell ?_ zst _))) (fun A => ?_)
    clear hK K
    try simp only [Act.put, zA, zB, zC, zD, zE, zF]
    refine wpAnyH_done (by kernel_rfl) ?_ _
    go_wp2
    go_ret
    exact AgTo.of G.out HB.out HQ.out HR.out C E.out (by repeat (first | exact Br | apply Below.drew | apply below_drewN | refine zab ?_ Lr _ | refine Below.setCell ?_ zst _)) (by rw [← C]; simp) (by rw [← C]; simp) zst zst
  ·go_simp
   refine hK.out _ _ (B.out _ (by repeat (first | exact Br | apply Below.drew | apply below_drewN | refine zab ?_ Lr _ | refine Below.setCell ?_ zst _))) (fun A => ?_)
   clear hK K
   try simp only [Act.put, zA, zB, zC, zD, zE, zF]
   refine zY (i := 5) rfl fun K hK => ?_
   ·go_simp
    go_at_call 244
    refine zad (F.out _ (by repeat (first | exact Br | apply Below.drew | apply below_drewN | refine zab ?_ Lr _ | refine Below.setCell ?_ zst _))) ?_
    dsimp only
    refine hK.out _ _ (B.out _ (by repeat (first | exact Br | apply Below.drew | apply below_drewN | refine zab ?_ Lr _ | refine Below.setCell ?_ zst _))) (fun A => ?_)
    clear hK K
    try simp only [Act.put, zA, zB, zC, zD, zE, zF]
    refine zCi 6 ?_
    iterate 3 (refine zTc ?_ rfl ?_ ?_; rotate_left; (· (rintro w ⟨s0, s1, s2⟩; go_simp; try with_reducible rfl)); try simp only [Act.put, zA, zB, zC, zD, zE, zF])
    refine zCo ?_
    refine zY (i := 11) rfl fun K hK => ?_
    go_simp
    refine hK.out _ _ (B.out _ (by repeat (first | exact Br | apply Below.drew | apply below_drewN | refine zab ?_ Lr _ | refine Below.setCell ?_ zst _))) (fun A => ?_)
    clear hK K
    try simp only [Act.put, zA, zB, zC, zD, zE, zF]
    refine zY (i := 12) rfl fun K hK => ?_
    go_simp
    refine hK.out _ _ (B.out _ (by repeat (first | exact Br | apply Below.drew | apply below_drewN | refine zab ?_ Lr _ | refine Below.setCell ?_ zst _))) (fun A => ?_)
    clear hK K
    try simp only [Act.put, zA, zB, zC, zD, zE, zF]
    refine wpAnyH_done (by kernel_rfl) ?_ _
    go_wp2
    go_ret
    exact AgTo.of G.out HB.out HQ.out HR.out C E.out (by repeat (first | exact Br | apply Below.drew | apply below_drewN | refine zab ?_ Lr _ | refine Below.setCell ?_ zst _)) (by rw [← C]; simp) (by rw [← C]; simp) zst zst
theorem Sl.apartQ {w : World} {ao : Option Addr} {n cap : Nat} {l : List Int} (h : Sl w ao n cap l) {g : Nat} {a b d : Option Addr} {c1 c2 c3 c4 c5 c6 : Nat} {x y z : Int} (hr : QR w g x y (.slice a c1 c2) (.slice b c3 c4) (.slice d c5 c6) z) : n = 0 ∨ ∀ p, ao = some p → ¬ p.block = g := by
 rcases h.hat with h0 | ⟨q, off, rfl, hg, hc⟩
 ·exact .inl h0
 ·rcases Nat.eq_zero_or_pos n with h0 | h0
  ·exact .inl h0
  ·right
   rintro p hp rfl
   injection hp with hp
   subst hp
   have h1 := hc 0 h0
   unfold QR at hr
   rw [cell_of_row _ _ _ _ _ _ hr] at h1
   rcases Nat.lt_or_ge (off + 0) 6 with h3 | h3
   ·have h4 : off + 0 = 0 ∨ off + 0 = 1 ∨ off + 0 = 2 ∨ off + 0 = 3 ∨ off + 0 = 4 ∨ off + 0 = 5 := zq
    rcases h4 with h4 | h4 | h4 | h4 | h4 | h4 <;> (rw [h4] at h1; simp at h1)
   ·rw [Array.getElem?_eq_none (by simpa using h3)] at h1
    cases h1
theorem zW0 {p : Prop} (h : p := by repeat (first | exact Br | apply Below.drew | apply below_drewN | refine zab ?_ Lr _ | refine Below.setCell ?_ zst _)) : p := h
end Go.Proofs.YtbkhjeacmmbabaaGreatDoor
