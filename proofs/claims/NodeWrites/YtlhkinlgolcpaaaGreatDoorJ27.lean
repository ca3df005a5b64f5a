import Derived.Test.YtlhkinlgolcpaaaGreatDoorJ25
import Derived.Test.YtlhkinlgolcpaaaGreatDoorJ26
import Derived.Test.YtlhkinlgolcpaaaGreatDoorJ24
namespace Go.Proofs.YtlhkinlgolcpaaaGreatDoor
set_option maxRecDepth 100000
open Go.RowKit
theorem SlC.take9 {w : World} {ao : Option Addr} {m cap : Nat} {cs : List Cl} (h : SlC w ao m cap cs) {i : Nat} (hi : i ≤ m) : SlC w ao i cap (cs.take i) := by
 have h1 := h.hlen
 have h2 := h.hcap
 have h3 := h.hroom
 refine ⟨by rw [List.length_take]; omega, by omega, by omega, h.hnil, ?_⟩
 rcases h.hat with h0 | ⟨b, off, e, hb, hc⟩
 ·exact .inl (by omega)
 ·refine .inr ⟨b, off, e, hb, fun j c hj => ?_⟩
  have hjl := (List.getElem?_eq_some_iff.1 hj).1
  rw [List.length_take] at hjl
  exact hc j c (by rwa [List.getElem?_take_of_lt (by omega)] at hj)
theorem SlC.drop9 {w : World} {b off m cap : Nat} {cs : List Cl} (h : SlC w (some ⟨b, off, none⟩) m cap cs) {i : Nat} (hi : i ≤ m) : SlC w (some ⟨b, off + i * 5, none⟩) (m - i) (cap - i) (cs.drop i) := by
 have h1 := h.hlen
 have h2 := h.hcap
 have h3 := h.hroom
 refine ⟨by rw [List.length_drop]; omega, by omega, by omega, (fun e => by cases e), ?_⟩
 rcases h.hat with h0 | ⟨b', off', e, hb, hc⟩
 ·exact .inl (by omega)
 ·injection e with e
  injection e with e1 e2
  subst e1 e2
  refine .inr ⟨b, off + i * 5, rfl, hb, fun j c hj => ?_⟩
  rw [List.getElem?_drop] at hj
  have := hc _ c hj
  rwa [show off + (i + j) * 5 = off + i * 5 + j * 5 by omega] at this
structure Bx (w : World) (k : Int) (n : Nat) (b off m cap : Nat) (cs : List Cl) (bk bc bp : Nat) : Prop where
 ck : w.cell? ⟨bk, 0, none⟩ = some (.int .i64 k)
 cc : w.cell? ⟨bc, 0, none⟩ = some (.slice (some ⟨b, off, none⟩) m cap)
 cp : w.cell? ⟨bp, 0, none⟩ = some (.int .i64 (n : Int))
 hk : bk < w.heap.size
 hc : bc < w.heap.size
 hp : bp < w.heap.size
 sl : SlC w (some ⟨b, off, none⟩) m cap cs
 lm : m ≤ 200000
 tb : Tab w
 h0 : 1 < w.heap.size
theorem Bx.go {w v : World} {k : Int} {n b off m cap : Nat} {cs : List Cl} {bk bc bp : Nat} (h : Bx w k n b off m cap cs bk bc bp) (hb : Below w.heap.size w v) : Bx v k n b off m cap cs bk bc bp :=
 ⟨(hb.cell (p := ⟨bk, 0, none⟩) h.hk).trans h.ck, (hb.cell (p := ⟨bc, 0, none⟩) h.hc).trans h.cc, (hb.cell (p := ⟨bp, 0, none⟩) h.hp).trans h.cp, Nat.lt_of_lt_of_le h.hk hb.size, Nat.lt_of_lt_of_le h.hc hb.size, Nat.lt_of_lt_of_le h.hp hb.size, h.sl.on hb, h.lm, h.tb.on hb h.h0, Nat.lt_of_lt_of_le h.h0 hb.size⟩
structure Ly (w : World) (f0 f1 f2 f3 f4 : Value) (bk bc bl bf br : Nat) : Prop where
 c0 : w.cell? ⟨bl, 0, none⟩ = some f0
 c1 : w.cell? ⟨bl, 1, none⟩ = some f1
 c2 : w.cell? ⟨bl, 2, none⟩ = some f2
 c3 : w.cell? ⟨bl, 3, none⟩ = some f3
 c4 : w.cell? ⟨bl, 4, none⟩ = some f4
 cf : w.cell? ⟨bf, 0, none⟩ = some (.func (.func 26) #[] #[.pointer (some ⟨bc, 0, none⟩)])
 cr : w.cell? ⟨br, 0, none⟩ = some (.func (.func 27) #[] #[.pointer (some ⟨bk, 0, none⟩), .pointer (some ⟨bc, 0, none⟩)])
 hl : bl < w.heap.size
 hf : bf < w.heap.size
 hr : br < w.heap.size
theorem Ly.go {w v : World} {f0 f1 f2 f3 f4 : Value} {bk bc bl bf br : Nat} (h : Ly w f0 f1 f2 f3 f4 bk bc bl bf br) (hb : Below w.heap.size w v) : Ly v f0 f1 f2 f3 f4 bk bc bl bf br :=
 ⟨(hb.cell (p := ⟨bl, 0, none⟩) h.hl).trans h.c0, (hb.cell (p := ⟨bl, 1, none⟩) h.hl).trans h.c1, (hb.cell (p := ⟨bl, 2, none⟩) h.hl).trans h.c2, (hb.cell (p := ⟨bl, 3, none⟩) h.hl).trans h.c3, (hb.cell (p := ⟨bl, 4, none⟩) h.hl).trans h.c4, (hb.cell (p := ⟨bf, 0, none⟩) h.hf).trans h.cf, (hb.cell (p := ⟨br, 0, none⟩) h.hr).trans h.cr, Nat.lt_of_lt_of_le h.hl hb.size, Nat.lt_of_lt_of_le h.hf hb.size, Nat.lt_of_lt_of_le h.hr hb.size⟩
def S8h (bl b1 b2 b3 : Nat) (f0 f1 f2 f3 f4 v1 v2 v3 : Value) (u : World) : Prop :=
 u.cell? ⟨bl, 0, none⟩ = some f0 ∧ u.cell? ⟨bl, 1, none⟩ = some f1 ∧ u.cell? ⟨bl, 2, none⟩ = some f2 ∧ u.cell? ⟨bl, 3, none⟩ = some f3 ∧ u.cell? ⟨bl, 4, none⟩ = some f4 ∧ u.cell? ⟨b1, 0, none⟩ = some v1 ∧ u.cell? ⟨b2, 0, none⟩ = some v2 ∧ u.cell? ⟨b3, 0, none⟩ = some v3
def S4h (b0 b1 b2 b3 : Nat) (v0 v1 v2 v3 : Value) (u : World) : Prop :=
 u.cell? ⟨b0, 0, none⟩ = some v0 ∧ u.cell? ⟨b1, 0, none⟩ = some v1 ∧ u.cell? ⟨b2, 0, none⟩ = some v2 ∧ u.cell? ⟨b3, 0, none⟩ = some v3
def S1h (b0 : Nat) (v0 : Value) (u : World) : Prop := u.cell? ⟨b0, 0, none⟩ = some v0 ∧ True
theorem half1_any (w : World) (k : Int) (n b off m cap : Nat) (cs : List Cl) (bk bc bp : Nat) (h : Bx w k n b off m cap cs bk bc bp) (i : Nat) (hi : i ≤ m) :
  Calls Tryz.prog 26 #[.int .i64 (i : Int), .pointer (some ⟨bc, 0, none⟩)] w fun e w' => e = .returned (.slice (some ⟨b, off, none⟩) i cap) ∧ w' = w := by
 have c1 := h.cc
 have h1 := h.sl.hcap
 have h2 := h.lm
 have h3 : (i : Int) ≤ 200000 := by omega
 have h4 : i ≤ cap := by omega
 have h5 : (i : Int) ≤ (cap : Int) := by omega
 clear h
 go_enter Tryz.func26, Tryz.ntmps26
 go_wp2
 go_ret
 exact ⟨rfl, rfl⟩
set_option maxHeartbeats 2000000 in
theorem half2_any (w : World) (k : Int) (n b off m cap : Nat) (cs : List Cl) (bk bc bp : Nat) (h : Bx w k n b off m cap cs bk bc bp) (i : Nat) (hi : i < m) :
  Calls Tryz.prog 27 #[.int .i64 (i : Int), .pointer (some ⟨bk, 0, none⟩), .pointer (some ⟨bc, 0, none⟩)] w fun e w' => ∃ g o c, e = .returned (.slice (some ⟨g, o, none⟩) (m - i) c) ∧ Hid (SlC w' (some ⟨g, o, none⟩) (m - i) c (rtL k cs i)) ∧ Hid (Below w.heap.size w w') := by
 have c0 := h.ck
 have c1 := h.cc
 have h1 := h.sl.hcap
 have h2 := h.lm
 have h3 : (i : Int) ≤ 200000 := by omega
 have h4 : i ≤ m := by omega
 have h5 : (i : Int) ≤ (m : Int) := by omega
 have h6 : m ≤ cap := h1
 have h7 : ¬ cap = i := by omega
 have h8 : i < cap := by omega
 have h9 : (m : Int) ≤ 200000 := by omega
 have HC : Hid (∀ u, Below w.heap.size w u → Calls Tryz.prog 28 #[.int .i64 k, .slice (some ⟨b, off + i * 5, none⟩) (m - i) (cap - i)] u fun e w' => ∃ g o c, e = .returned (.slice (some ⟨g, o, none⟩) (m - i) c) ∧ Hid (SlC w' (some ⟨g, o, none⟩) (m - i) c (rsd k (cs.drop i))) ∧ Hid (Below w.heap.size w w')) := hidden fun u hu => (rside_any u k b (off + i * 5) (m - i) (cap - i) (cs.drop i) ((h.sl.drop9 h4).on hu) (by omega) (by omega)).mono fun e w' hq => by
  obtain ⟨g, o, c, rfl, HS, HB⟩ := hq
  exact ⟨g, o, c, rfl, HS, hidden (bl_go hu (Nat.le_refl _) HB.out)⟩
 obtain ⟨M, hM⟩ : ∃ M, m - i = M := ⟨_, rfl⟩
 rw [hM] at HC
 obtain ⟨C, hC⟩ : ∃ C, cap - i = C := ⟨_, rfl⟩
 rw [hC] at HC
 rw [hM]
 clear h h1
 go_enter Tryz.func27, Tryz.ntmps27
 go_wp2_with fail
 go_region_with (first | (go_at_call 28; refine (HC.out _ (by first | exact Below.refl _ _ | exact (Below.refl _ _).drew | exact bl_dr (Below.refl _ _) _)).mono ?_; rintro e w2 ⟨g, o, c, rfl, HS, HB⟩))
 all_goals
  try go_wp2_with fail
  go_ret
  exact ⟨g, o, c, rfl, by first | exact HS | exact hidden (HS.out.on (bl_dr (Below.refl _ _) _)) | exact hidden (HS.out.on (Below.refl _ _).drew), by first | exact HB | exact hidden (bl_dr HB.out _) | exact hidden HB.out.drew⟩
/-! The third question. -/
set_option maxHeartbeats 2000000 in
theorem half6_any (w : World) (bg : Nat) (G : Nat → Nat) (p1 p2 p3 p4 i j : Nat) (hij : i + 1 = j) (hi : j ≤ 200000) (hg : ∀ t, t ≤ 200000 → G t ≤ 1099511627776)
  (hcl : w.cell? ⟨bg, 0, none⟩ = some (.func (.func 32) #[] #[.pointer (some ⟨p1, 0, none⟩), .pointer (some ⟨p2, 0, none⟩), .pointer (some ⟨p3, 0, none⟩), .pointer (some ⟨p4, 0, none⟩)])) (hlt : bg < w.heap.size)
  (hF : ∀ u (t : Nat), Below w.heap.size w u → (t = i ∨ t = j) → Calls Tryz.prog 32 #[.int .i64 (t : Int), .pointer (some ⟨p1, 0, none⟩), .pointer (some ⟨p2, 0, none⟩), .pointer (some ⟨p3, 0, none⟩), .pointer (some ⟨p4, 0, none⟩)] u fun e w' => e = .returned (.int .i64 (G t : Int)) ∧ Hid (Below u.heap.size u w')) :
  Calls Tryz.prog 33 #[.int .i64 (i : Int), .pointer (some ⟨bg, 0, none⟩)] w fun e w' => e = .returned (.bool (decide (G i ≤ G j))) ∧ Hid (Below w.heap.size w w') := by
 have HI : Hid (∀ u, Below w.heap.size w u → Calls Tryz.prog 32 #[.int .i64 (i : Int), .pointer (some ⟨p1, 0, none⟩), .pointer (some ⟨p2, 0, none⟩), .pointer (some ⟨p3, 0, none⟩), .pointer (some ⟨p4, 0, none⟩)] u fun e w' => e = .returned (.int .i64 (G i : Int)) ∧ w'.cell? ⟨bg, 0, none⟩ = some (.func (.func 32) #[] #[.pointer (some ⟨p1, 0, none⟩), .pointer (some ⟨p2, 0, none⟩), .pointer (some ⟨p3, 0, none⟩), .pointer (some ⟨p4, 0, none⟩)]) ∧ Hid (Below w.heap.size w w')) := hidden fun u hu => by
  refine (hF u i hu (.inl rfl)).mono ?_
  rintro e w' ⟨rfl, HB⟩
  have hb := bl_go hu (Nat.le_refl _) HB.out
  exact ⟨rfl, (hb.cell (p := ⟨bg, 0, none⟩) hlt).trans hcl, hidden hb⟩
 have HJ : Hid (∀ u, Below w.heap.size w u → Calls Tryz.prog 32 #[.int .i64 (j : Int), .pointer (some ⟨p1, 0, none⟩), .pointer (some ⟨p2, 0, none⟩), .pointer (some ⟨p3, 0, none⟩), .pointer (some ⟨p4, 0, none⟩)] u fun e w' => e = .returned (.int .i64 (G j : Int)) ∧ Hid (Below w.heap.size w w')) := hidden fun u hu => (hF u j hu (.inr rfl)).mono fun e w' h => ⟨h.1, hidden (bl_go hu (Nat.le_refl _) h.2.out)⟩
 have hjI : (i : Int) + 1 = (j : Int) := by omega
 have hjb : (j : Int) ≤ 200000 := by omega
 have hib : (i : Int) ≤ 200000 := by omega
 have g1 := hg i (by omega)
 have g2 := hg j (by omega)
 generalize G i = A at *
 generalize G j = B at *
 have a1 : (A : Int) ≤ 1099511627776 := by omega
 have a2 : (B : Int) ≤ 1099511627776 := by omega
 have hwr : IntKind.i64.wrap ((i : Int) + 1) = (i : Int) + 1 := by rw [IntKind.wrap_i64]; omega
 have HSF : Hid (∀ u, Below w.heap.size w u → S1h bg (.func (.func 32) #[] #[.pointer (some ⟨p1, 0, none⟩), .pointer (some ⟨p2, 0, none⟩), .pointer (some ⟨p3, 0, none⟩), .pointer (some ⟨p4, 0, none⟩)]) u) := hidden fun u hu => ⟨(hu.cell (p := ⟨bg, 0, none⟩) hlt).trans hcl, trivial⟩
 rw [← hjI] at HJ
 clear hF hij hg hjI hcl hlt
 go_enter Tryz.func33, Tryz.ntmps33
 go_upto_region 1 with fail
 refine wp_region_held_drew (S := S1h bg (.func (.func 32) #[] #[.pointer (some ⟨p1, 0, none⟩), .pointer (some ⟨p2, 0, none⟩), .pointer (some ⟨p3, 0, none⟩), .pointer (some ⟨p4, 0, none⟩)])) (by kernel_rfl) (HSF.out _ (Below.refl _ _).drew) (fun hHeld => ?_)
 refine wpAnyH_take (i := 0) (v := ?_) rfl (by kernel_rfl) (by kernel_rfl) (by kernel_rfl) (fun _ _ _ h => h) (Or.inl ⟨by rfl, ?_⟩) (by assumption) ?_
 rotate_left
 ·(intro w hSw; obtain ⟨q0, _⟩ := hSw; go_simp; try (with_reducible rfl))
 try simp only [Act.put, List.getElem_toArray, List.getElem_cons_zero, List.setIfInBounds_toArray, List.set_cons_zero, List.set_cons_succ]
 refine wpAnyH_take (i := 1) (v := ?_) rfl (by kernel_rfl) (by kernel_rfl) (by kernel_rfl) (fun _ _ _ h => h) (Or.inl ⟨by rfl, ?_⟩) (by assumption) ?_
 rotate_left
 ·(intro w hSw; obtain ⟨q0, _⟩ := hSw; go_simp; try (with_reducible rfl))
 try simp only [Act.put, List.getElem_toArray, List.getElem_cons_succ, List.getElem_cons_zero, List.setIfInBounds_toArray, List.set_cons_zero, List.set_cons_succ]
 refine wpAnyH_take (i := 3) (v := ?_) rfl (by kernel_rfl) (by kernel_rfl) (by kernel_rfl) (fun _ _ _ h => h) (Or.inl ⟨by rfl, ?_⟩) (by assumption) ?_
 rotate_left
 ·(intro w hSw; obtain ⟨q0, _⟩ := hSw; go_simp; try (with_reducible rfl))
 try simp only [Act.put, List.getElem_toArray, List.getElem_cons_succ, List.getElem_cons_zero, List.setIfInBounds_toArray, List.set_cons_zero, List.set_cons_succ]
 refine wpAnyH_take (i := 4) (v := ?_) rfl (by kernel_rfl) (by kernel_rfl) (by kernel_rfl) (fun _ _ _ h => h) (Or.inl ⟨by rfl, ?_⟩) (by assumption) ?_
 rotate_left
 ·(intro w hSw; obtain ⟨q0, _⟩ := hSw; go_simp; try (with_reducible rfl))
 try simp only [Act.put, List.getElem_toArray, List.getElem_cons_succ, List.getElem_cons_zero, List.setIfInBounds_toArray, List.set_cons_zero, List.set_cons_succ]
 refine wpAnyH_take (i := 5) (v := ?_) rfl (by kernel_rfl) (by kernel_rfl) (by kernel_rfl) (fun _ _ _ h => h) (Or.inl ⟨by rfl, ?_⟩) (by assumption) ?_
 rotate_left
 ·(intro w hSw; obtain ⟨q0, _⟩ := hSw; go_simp; try (with_reducible rfl))
 try simp only [Act.put, List.getElem_toArray, List.getElem_cons_succ, List.getElem_cons_zero, List.setIfInBounds_toArray, List.set_cons_zero, List.set_cons_succ]
 refine wpAnyH_ready (rs := [2]) (by kernel_rfl) (by simp) ?_
 refine AllReadyH.cons rfl (fun K hK => ?_) AllReadyH.nil
 go_simp
 go_at_call 32
 refine (HI.out _ (Below.refl _ _).drew).mono ?_
 rintro e w1 ⟨rfl, _, HB1⟩
 dsimp only
 refine hK.out _ _ (HSF.out _ HB1.out) (fun hHeld => ?_)
 clear hK K
 try simp only [Act.put, List.getElem_toArray, List.getElem_cons_succ, List.getElem_cons_zero, List.setIfInBounds_toArray, List.set_cons_zero, List.set_cons_succ]
 refine wpAnyH_ready (rs := [6]) (by kernel_rfl) (by simp) ?_
 refine AllReadyH.cons rfl (fun K hK => ?_) AllReadyH.nil
 go_simp
 go_at_call 32
 refine (HJ.out _ HB1.out).mono ?_
 rintro e w2 ⟨rfl, HB2⟩
 dsimp only
 refine hK.out _ _ (HSF.out _ HB2.out) (fun hHeld => ?_)
 clear hK K
 try simp only [Act.put, List.getElem_toArray, List.getElem_cons_succ, List.getElem_cons_zero, List.setIfInBounds_toArray, List.set_cons_zero, List.set_cons_succ]
 refine wpAnyH_take (i := 7) (v := ?_) rfl (by kernel_rfl) (by kernel_rfl) (by kernel_rfl) (fun _ _ _ h => h) (Or.inl ⟨by rfl, ?_⟩) (by assumption) ?_
 rotate_left
 ·(intro w hSw; obtain ⟨q0, _⟩ := hSw; go_simp; try (with_reducible rfl))
 try simp only [Act.put, List.getElem_toArray, List.getElem_cons_succ, List.getElem_cons_zero, List.setIfInBounds_toArray, List.set_cons_zero, List.set_cons_succ]
 refine wpAnyH_take (i := 8) (v := ?_) rfl (by kernel_rfl) (by kernel_rfl) (by kernel_rfl) (fun _ _ _ h => h) (Or.inl ⟨by rfl, ?_⟩) (by assumption) ?_
 rotate_left
 ·(intro w hSw; obtain ⟨q0, _⟩ := hSw; go_simp; try (with_reducible rfl))
 try simp only [Act.put, List.getElem_toArray, List.getElem_cons_succ, List.getElem_cons_zero, List.setIfInBounds_toArray, List.set_cons_zero, List.set_cons_succ]
 refine wpAnyH_done (by kernel_rfl) ?_ _
 clear hHeld
 go_wp2
 go_ret
 exact ⟨rfl, HB2⟩
end Go.Proofs.YtlhkinlgolcpaaaGreatDoor

namespace Go.Proofs.YtlhkinlgolcpaaaGreatDoor
set_option maxRecDepth 100000
open Go.RowKit
theorem one_cell9 (w : World) (v : Value) (t : TypeId) : (w.alloc (.cells #[v] t)).cell? ⟨w.heap.size, 0, none⟩ = some v := by
 rw [cell_of_row _ _ _ _ _ _ (heap_alloc_last w _)]
 rfl
theorem keep_cell9 {w : World} {p : Nat} {v : Value} (o : Obj) (h : w.cell? ⟨p, 0, none⟩ = some v) (hp : p < w.heap.size) : (w.alloc o).cell? ⟨p, 0, none⟩ = some v :=
 ((bl_al (Below.refl _ _) (Nat.le_refl _) o : Below w.heap.size w (w.alloc o)).cell (p := ⟨p, 0, none⟩) hp).trans h
end Go.Proofs.YtlhkinlgolcpaaaGreatDoor

namespace Go.Proofs.YtlhkinlgolcpaaaGreatDoor
set_option maxRecDepth 100000
theorem gd_of {k : Int} {n : Nat} {cs : List Cl} (h : chk k n none cs = 0) : Gd k n cs := by
 refine ⟨chk_may h, ?_⟩
 unfold Rs
 rw [List.pairwise_iff_getElem]
 intro i j hi hj hij
 exact chk_rise h i j _ _ hij (List.getElem?_eq_getElem hi) (List.getElem?_eq_getElem hj)
theorem fitB_take {e k : Int} {n : Nat} {cs : List Cl} {i : Nat} (h : fitB e k n cs = true) : fitB e k n (cs.take i) = true := by
 unfold fitB at *
 have h1 := of_decide_eq_true h
 obtain ⟨a, b, c, d⟩ := h1
 exact decide_eq_true ⟨a, b, ((gd_of c).take i).chk, Nat.le_trans (szE_take e k cs i) d⟩
theorem fitB_rt {e k : Int} {n : Nat} {cs : List Cl} {i : Nat} (h : fitB e k n cs = true) : fitB e k n (rtL k cs i) = true := by
 unfold fitB at *
 have h1 := of_decide_eq_true h
 obtain ⟨a, b, c, d⟩ := h1
 exact decide_eq_true ⟨a, b, ((gd_of c).rt i).chk, Nat.le_trans (szE_rt e k cs i) d⟩
theorem fitB_takes {e k : Int} {n : Nat} {cs : List Cl} {i j : Nat} (hij : i ≤ j) (h : fitB e k n (cs.take j) = true) : fitB e k n (cs.take i) = true := by
 have := fitB_take (i := i) h
 rwa [List.take_take, Nat.min_eq_left hij] at this
theorem fitB_rts {e k : Int} {n : Nat} {cs : List Cl} {i j : Nat} (hij : i ≤ j) (h : fitB e k n (rtL k cs i) = true) : fitB e k n (rtL k cs j) = true := by
 obtain ⟨d, rfl⟩ := Nat.exists_eq_add_of_le hij
 induction d with
 | zero => exact h
 | succ d ih =>
  have h1 := fitB_rt (i := 1) (ih (by omega))
  rwa [rtL_next] at h1
theorem qtk_pos (m : Nat) (c : Cl) : 0 < qtk m c := by unfold qtk; omega
theorem ctk_pos (c : Cl) : 0 < ctk c := by unfold ctk; split <;> omega
theorem szE_falls (e k : Int) (c : Cl) (r : List Cl) : szE e k (rtL k (c :: r) 1) < szE e k (c :: r) := by
 unfold szE
 split
 ·have h1 := szN_rsd k r
  have h2 := ctk_pos c
  have h3 : szN (c :: r) = ctk c + szN r := by unfold szN; simp; omega
  show szN (rsd k r) < _
  omega
 ·have h1 : szQ k (shP k (rsd k r)).length (rsd k r) ≤ szQ k (shP k (c :: r)).length (rsd k r) := szQ_less ((shP_beg k (c :: r)).rt 1)
  have h2 := qsm_rsd (shP k (c :: r)).length k r
  have h3 := qtk_pos (if whl k = true then 0 else (shP k (c :: r)).length) c
  have h4 : qsm (shP k (c :: r)).length (whl k) (c :: r) = qtk (if whl k = true then 0 else (shP k (c :: r)).length) c + qsm (shP k (c :: r)).length false r := rfl
  show szQ k (shP k (rsd k r)).length (rsd k r) < szQ k (shP k (c :: r)).length (c :: r)
  unfold szQ at *
  omega
theorem szE_fall {e k : Int} {cs : List Cl} {i : Nat} (h : i < cs.length) : szE e k (rtL k cs (i + 1)) < szE e k (rtL k cs i) := by
 rw [← rtL_next]
 have hl : (rtL k cs i).length = cs.length - i := rtL_length k cs i
 cases hr : rtL k cs i with
 | nil => rw [hr] at hl; simp at hl; omega
 | cons c r => exact szE_falls e k c r
def okC (e k : Int) (n : Nat) (cs : List Cl) (i : Nat) : Bool := fitB e k n (cs.take i) && fitB e k n (rtL k cs i)
def grC (e k : Int) (cs : List Cl) (i : Nat) : Nat := max (szE e k (cs.take i)) (szE e k (rtL k cs i))
theorem grC_rise {e k : Int} {cs : List Cl} {t : Nat} (ht : t < cs.length) (h : grC e k cs t ≤ grC e k cs (t + 1)) : grC e k cs (t + 1) ≤ grC e k cs (t + 2) := by
 unfold grC at *
 have h1 := szE_fall (e := e) (k := k) ht
 have h2 := szE_takes e k cs (show t + 1 ≤ t + 2 by omega)
 have h3 := szE_rts e k cs (show t + 1 ≤ t + 2 by omega)
 omega
def IsHalf (e k : Int) (n : Nat) (cs : List Cl) (r : Nat) (c : Int) : Prop :=
 (c = 61 ∧ r = 0 ∧ ∀ i, 2 ≤ i → i + 2 ≤ cs.length → okC e k n cs i = false) ∨
 (c = 0 ∧ (2 ≤ r ∧ r + 2 ≤ cs.length) ∧ okC e k n cs r = true ∧ ∀ i, 2 ≤ i → i + 2 ≤ cs.length → okC e k n cs i = true → grC e k cs r < grC e k cs i ∨ (grC e k cs r = grC e k cs i ∧ r ≤ i))
theorem IsHalf.det {e k : Int} {n : Nat} {cs : List Cl} {r s : Nat} {c d : Int} (h1 : IsHalf e k n cs r c) (h2 : IsHalf e k n cs s d) : r = s ∧ c = d := by
 rcases h1 with ⟨rfl, rfl, a⟩ | ⟨rfl, a, b, f⟩ <;> rcases h2 with ⟨rfl, rfl, a'⟩ | ⟨rfl, a', b', f'⟩
 ·exact ⟨rfl, rfl⟩
 ·rw [a s a'.1 a'.2] at b'; cases b'
 ·rw [a' r a.1 a.2] at b; cases b
 ·have g1 := f s a'.1 a'.2 b'
  have g2 := f' r a.1 a.2 b
  exact ⟨by omega, rfl⟩
theorem half_none {e k : Int} {n : Nat} {cs : List Cl} (h : cs.length < 4) : IsHalf e k n cs 0 61 := .inl ⟨rfl, rfl, fun i h1 h2 => by omega⟩
def DHalf (e k : Int) (n : Nat) (cs : List Cl) (K at_ least : Nat) : Prop :=
 (at_ = 0 ∧ least = 0 ∧ ∀ i, 2 ≤ i → i < K → okC e k n cs i = false) ∨
 ((2 ≤ at_ ∧ at_ < K) ∧ least = grC e k cs at_ ∧ okC e k n cs at_ = true ∧ ∀ i, 2 ≤ i → i < K → okC e k n cs i = true → grC e k cs at_ < grC e k cs i ∨ (grC e k cs at_ = grC e k cs i ∧ at_ ≤ i))
theorem DHalf.zero (e k : Int) (n : Nat) (cs : List Cl) : DHalf e k n cs 2 0 0 := .inl ⟨rfl, rfl, fun i h1 h2 => by omega⟩
theorem DHalf.stay {e k : Int} {n : Nat} {cs : List Cl} {K a l : Nat} (h : DHalf e k n cs K a l) (h2 : okC e k n cs K = false ∨ (a ≠ 0 ∧ ¬ grC e k cs K < l)) : DHalf e k n cs (K + 1) a l := by
 rcases h with ⟨rfl, rfl, f⟩ | ⟨g, rfl, o, f⟩
 ·refine .inl ⟨rfl, rfl, fun i h1 h3 => ?_⟩
  rcases Nat.lt_or_ge i K with h | h
  ·exact f i h1 h
  ·obtain rfl : i = K := by omega
   rcases h2 with h2 | ⟨h2, _⟩
   ·exact h2
   ·exact absurd rfl h2
 ·refine .inr ⟨⟨g.1, by omega⟩, rfl, o, fun i h1 h3 ho => ?_⟩
  rcases Nat.lt_or_ge i K with h | h
  ·exact f i h1 h ho
  ·obtain rfl : i = K := by omega
   rcases h2 with h2 | ⟨_, h2⟩
   ·rw [h2] at ho; cases ho
   ·omega
theorem DHalf.take {e k : Int} {n : Nat} {cs : List Cl} {K a l : Nat} (hK : 2 ≤ K) (h : DHalf e k n cs K a l) (ho : okC e k n cs K = true) (h2 : a = 0 ∨ grC e k cs K < l) : DHalf e k n cs (K + 1) K (grC e k cs K) := by
 refine .inr ⟨⟨hK, by omega⟩, rfl, ho, fun i h1 h3 hi => ?_⟩
 rcases Nat.lt_or_ge i K with hlt | hge
 ·rcases h with ⟨rfl, rfl, f⟩ | ⟨g, rfl, o, f⟩
  ·rw [f i h1 hlt] at hi; cases hi
  ·have := f i h1 hlt hi
   omega
 ·obtain rfl : i = K := by omega
  exact .inr ⟨rfl, Nat.le_refl _⟩
theorem DHalf.done {e k : Int} {n : Nat} {cs : List Cl} {K a l : Nat} (h : DHalf e k n cs K a l) (hK : ¬ K + 2 ≤ cs.length) (h2 : K + 1 ≤ cs.length ∨ K = 2) : IsHalf e k n cs a (if a = 0 then 61 else 0) := by
 rcases h with ⟨rfl, rfl, f⟩ | ⟨g, rfl, o, f⟩
 ·rw [if_pos rfl]
  exact .inl ⟨rfl, rfl, fun i h1 h3 => f i h1 (by omega)⟩
 ·rw [if_neg (by omega)]
  exact .inr ⟨rfl, ⟨g.1, by omega⟩, o, fun i h1 h3 => f i h1 (by omega)⟩
theorem half_fit {e k : Int} {n m : Nat} {cs : List Cl} {first fin : Nat} (hl : cs.length = m)
  (h1 : (2 ≤ first ∧ first ≤ m - 1) ∧ (first < m - 1 → fitB e k n (rtL k cs first) = true) ∧ ∀ t, first = t + 1 → 2 ≤ t → fitB e k n (rtL k cs t) = false)
  (h2 : first ≤ fin ∧ fin ≤ m - 1) (h2b : fin < m - 1 → (!fitB e k n (cs.take fin)) = true) (h2c : ∀ t, fin = t + 1 → first ≤ t → (!fitB e k n (cs.take t)) = false) :
  ∀ i, 2 ≤ i → i + 2 ≤ m → (okC e k n cs i = true ↔ (first ≤ i ∧ i < fin)) := by
 intro i i1 i2
 have hr : fitB e k n (rtL k cs i) = true ↔ first ≤ i := by
  constructor
  ·intro h
   rcases Nat.lt_or_ge i first with hlt | hge
   ·exfalso
    obtain ⟨t, rfl⟩ : ∃ t, first = t + 1 := ⟨first - 1, by omega⟩
    have h3 := h1.2.2 t rfl (by omega)
    rw [fitB_rts (show i ≤ t by omega) h] at h3
    cases h3
   ·exact hge
  ·intro h
   exact fitB_rts h (h1.2.1 (by omega))
 have hlf : first ≤ i → (fitB e k n (cs.take i) = true ↔ i < fin) := by
  intro hfi
  constructor
  ·intro h
   rcases Nat.lt_or_ge i fin with hlt | hge
   ·exact hlt
   ·exfalso
    have h3 := h2b (by omega)
    rw [fitB_takes hge h] at h3
    cases h3
  ·intro h
   obtain ⟨t, rfl⟩ : ∃ t, fin = t + 1 := ⟨fin - 1, by omega⟩
   have h3 := h2c t rfl (by omega)
   exact fitB_takes (show i ≤ t by omega) (by simpa using h3)
 unfold okC
 rw [Bool.and_eq_true]
 constructor
 ·rintro ⟨a, b⟩
  have := hr.1 b
  exact ⟨this, (hlf this).1 a⟩
 ·rintro ⟨a, b⟩
  exact ⟨(hlf a).2 b, hr.2 a⟩
theorem half_no {e k : Int} {n m : Nat} {cs : List Cl} {first fin : Nat} (hl : cs.length = m) (h : ∀ i, 2 ≤ i → i + 2 ≤ m → (okC e k n cs i = true ↔ (first ≤ i ∧ i < fin))) (hn : fin ≤ first) : IsHalf e k n cs 0 61 := by
 refine .inl ⟨rfl, rfl, fun i h1 h2 => ?_⟩
 have := h i h1 (by omega)
 cases ho : okC e k n cs i with
 | false => rfl
 | true => have := this.1 ho; omega
theorem half_yes {e k : Int} {n m : Nat} {cs : List Cl} {first fin f1 r : Nat} (hl : cs.length = m) (h : ∀ i, 2 ≤ i → i + 2 ≤ m → (okC e k n cs i = true ↔ (first ≤ i ∧ i < fin))) (h0 : 2 ≤ first) (hf : fin ≤ m - 1) (hm : 4 ≤ m) (hf1 : f1 = fin - 1) (hn : first < fin)
  (h3 : (first ≤ r ∧ r ≤ f1) ∧ (r < f1 → decide (grC e k cs r ≤ grC e k cs (r + 1)) = true) ∧ ∀ t, r = t + 1 → first ≤ t → decide (grC e k cs t ≤ grC e k cs (t + 1)) = false) : IsHalf e k n cs r 0 := by
 obtain ⟨⟨a1, a2⟩, a3, a4⟩ := h3
 have up : ∀ d, r + d ≤ f1 → grC e k cs r ≤ grC e k cs (r + d) ∧ (r + d < f1 → grC e k cs (r + d) ≤ grC e k cs (r + d + 1)) := by
  intro d
  induction d with
  | zero => exact fun _ => ⟨Nat.le_refl _, fun h => of_decide_eq_true (a3 h)⟩
  | succ d ih =>
   intro hd
   have h1 := ih (by omega)
   have h2 := h1.2 (by omega)
   exact ⟨Nat.le_trans h1.1 h2, fun _ => grC_rise (t := r + d) (by omega) h2⟩
 have down : ∀ d t, t + d + 1 = r → first ≤ t → grC e k cs (t + 1) < grC e k cs t := by
  intro d
  induction d with
  | zero =>
   intro t ht hft
   have := of_decide_eq_false (a4 t (by omega) hft)
   omega
  | succ d ih =>
   intro t ht hft
   have h1 : grC e k cs (t + 2) < grC e k cs (t + 1) := ih (t + 1) (by omega) (by omega)
   rcases Nat.lt_or_ge (grC e k cs (t + 1)) (grC e k cs t) with h2 | h2
   ·exact h2
   ·have := grC_rise (t := t) (by omega) h2
    omega
 have low : ∀ d t, t + d = r → first ≤ t → 0 < d → grC e k cs r < grC e k cs t := by
  intro d
  induction d with
  | zero => intro t _ _ h; omega
  | succ d ih =>
   intro t ht hft _
   have h1 := down d t (by omega) hft
   rcases Nat.eq_zero_or_pos d with rfl | hd
   ·rw [show r = t + 1 by omega]; exact h1
   ·exact Nat.lt_trans (ih (t + 1) (by omega) (by omega) hd) h1
 refine .inr ⟨rfl, ⟨by omega, by omega⟩, (h r (by omega) (by omega)).2 ⟨a1, by omega⟩, fun i h1 h2 ho => ?_⟩
 have hi := (h i h1 (by omega)).1 ho
 rcases Nat.lt_or_ge i r with hlt | hge
 ·exact .inl (low (r - i) i (by omega) hi.1 (by omega))
 ·obtain ⟨d, rfl⟩ := Nat.exists_eq_add_of_le hge
  have := (up d (by omega)).1
  omega
end Go.Proofs.YtlhkinlgolcpaaaGreatDoor

namespace Go.Proofs.YtlhkinlgolcpaaaGreatDoor
set_option maxRecDepth 100000
open Go.RowKit
theorem search_lo (w : World) (N : Int) (f : Nat) (caps : Array Value) (h1 : -1000 ≤ N) (h2 : N ≤ 0) :
  Calls Tryz.prog 63 #[.int .i64 N, .func (.func f) #[] caps] w fun e w' => e = .returned (.int .i64 0) ∧ Hid (Below w.heap.size w w') := by
 go_enter Tryz.func63, Tryz.ntmps63
 go_wp2_with fail
 go_loopw [5, 6] (fun s5 s6 wr => s5 = .int .i64 0 ∧ s6 = .int .i64 N ∧ Hid (Below w.heap.size w wr)) (fun s5 s6 _ => 0)
 case atStart => exact ⟨rfl, rfl, hidden (Below.refl _ _)⟩
 case round =>
  obtain ⟨rfl, rfl, HB⟩ := hrel
  have hlt : ¬ (0 : Int) < N := by omega
  go_wp2
  go_ret
  exact ⟨rfl, HB⟩
set_option maxHeartbeats 2000000 in
theorem least_lo (w : World) (low : Nat) (h : Int) (g : Nat) (caps : Array Value) (hl : low ≤ 900) (hh : -1 ≤ h) (h2 : h ≤ (low : Int)) :
  Calls Tryz.prog 29 #[.int .i64 (low : Int), .int .i64 h, .func (.func g) #[] caps] w fun e w' => e = .returned (.int .i64 (low : Int)) ∧ Hid (Below w.heap.size w w') := by
 obtain ⟨N, hN⟩ : ∃ N, h - (low : Int) = N := ⟨_, rfl⟩
 obtain ⟨s, hs⟩ : ∃ s, w.heap.size = s := ⟨_, rfl⟩
 obtain ⟨x, hx⟩ : ∃ x, (w.alloc (.cells #[.int .i64 (low : Int)] 3)).alloc (.cells #[.func (.func g) #[] caps] 58) = x := ⟨_, rfl⟩
 have hbx : Below w.heap.size w x := by rw [← hx]; exact bl_al (bl_al (Below.refl _ _) (Nat.le_refl _) _) (Nat.le_refl _) _
 have hAm : Am x (s + 1) s low (.func (.func g) #[] caps) := by
  rw [← hx, ← hs]
  exact ⟨by simp, by simp, by simp, by simp; omega⟩
 have HSR : Hid (∀ u, Below x.heap.size x u → Calls Tryz.prog 63 #[.int .i64 N, .func (.func 64) #[] #[.pointer (some ⟨s + 1, 0, none⟩), .pointer (some ⟨s, 0, none⟩)]] u fun e w' => e = .returned (.int .i64 0) ∧ (w'.cell? ⟨s, 0, none⟩ = some (.int .i64 (low : Int))) ∧ Hid (Below x.heap.size x w')) := by
  refine hidden fun u hu => (search_lo u N 64 _ (by omega) (by omega)).mono ?_
  rintro e w' ⟨rfl, HB⟩
  have hb := bl_go hu (Nat.le_refl _) HB.out
  exact ⟨rfl, (hAm.go hb).c2, hidden hb⟩
 have HBX := hidden hbx
 obtain ⟨y1, y2, _, _⟩ := hAm
 have bl : (low : Int) ≤ 1000 := by omega
 have bN : N ≤ 0 := by omega
 have bN0 : -1001 ≤ N := by omega
 have hwN : IntKind.i64.wrap N = N := by rw [IntKind.wrap_i64]; omega
 have hwl : IntKind.i64.wrap (low : Int) = (low : Int) := by rw [IntKind.wrap_i64]; omega
 have HSF : Hid (∀ u, Below x.heap.size x u → u.cell? ⟨s, 0, none⟩ = some (.int .i64 (low : Int)) ∧ True) := hidden fun u hu => ⟨(hu.cell (p := ⟨s, 0, none⟩) (by rw [← hx, ← hs]; simp; omega)).trans y2, trivial⟩
 clear hbx y1 y2
 go_enter Tryz.func29, Tryz.ntmps29
 go_upto_region 1 with fail
 refine wp_region_held_drew (S := S1l s low) (by kernel_rfl) (HSF.out _ (Below.refl _ _).drew) (fun hHeld => ?_)
 refine wpAnyH_take (i := 0) (v := ?_) rfl (by kernel_rfl) (by kernel_rfl) (by kernel_rfl) (fun _ _ _ h => h) (Or.inl ⟨by rfl, ?_⟩) (by assumption) ?_
 rotate_left
 ·(intro w hSw; obtain ⟨q0, _⟩ := hSw; go_simp; try (with_reducible rfl))
 try simp only [Act.put, List.getElem_toArray, List.getElem_cons_zero, List.setIfInBounds_toArray, List.set_cons_zero, List.set_cons_succ]
 refine wpAnyH_take (i := 1) (v := ?_) rfl (by kernel_rfl) (by kernel_rfl) (by kernel_rfl) (fun _ _ _ h => h) (Or.inl ⟨by rfl, ?_⟩) (by assumption) ?_
 rotate_left
 ·(intro w hSw; obtain ⟨q0, _⟩ := hSw; go_simp; try (with_reducible rfl))
 try simp only [Act.put, List.getElem_toArray, List.getElem_cons_succ, List.getElem_cons_zero, List.setIfInBounds_toArray, List.set_cons_zero, List.set_cons_succ]
 refine wpAnyH_take (i := 2) (v := ?_) rfl (by kernel_rfl) (by kernel_rfl) (by kernel_rfl) (fun _ _ _ h => h) (Or.inl ⟨by rfl, ?_⟩) (by assumption) ?_
 rotate_left
 ·(intro w hSw; obtain ⟨q0, _⟩ := hSw; go_simp; try (with_reducible rfl))
 try simp only [Act.put, List.getElem_toArray, List.getElem_cons_succ, List.getElem_cons_zero, List.setIfInBounds_toArray, List.set_cons_zero, List.set_cons_succ]
 refine wpAnyH_take (i := 3) (v := ?_) rfl (by kernel_rfl) (by kernel_rfl) (by kernel_rfl) (fun _ _ _ h => h) (Or.inl ⟨by rfl, ?_⟩) (by assumption) ?_
 rotate_left
 ·(intro w hSw; obtain ⟨q0, _⟩ := hSw; go_simp; try (with_reducible rfl))
 try simp only [Act.put, List.getElem_toArray, List.getElem_cons_succ, List.getElem_cons_zero, List.setIfInBounds_toArray, List.set_cons_zero, List.set_cons_succ]
 refine wpAnyH_take (i := 4) (v := ?_) rfl (by kernel_rfl) (by kernel_rfl) (by kernel_rfl) (fun _ _ _ h => h) (Or.inl ⟨by rfl, ?_⟩) (by assumption) ?_
 rotate_left
 ·(intro w hSw; obtain ⟨q0, _⟩ := hSw; go_simp; try (with_reducible rfl))
 try simp only [Act.put, List.getElem_toArray, List.getElem_cons_succ, List.getElem_cons_zero, List.setIfInBounds_toArray, List.set_cons_zero, List.set_cons_succ]
 refine wpAnyH_ready (rs := [5]) (by kernel_rfl) (by simp) ?_
 refine AllReadyH.cons rfl (fun K hK => ?_) AllReadyH.nil
 go_simp
 go_at_call 63
 refine (HSR.out _ (Below.refl _ _).drew).mono ?_
 rintro e w2 ⟨rfl, _, HB2⟩
 dsimp only
 refine hK.out _ _ (HSF.out _ HB2.out) (fun hHeld => ?_)
 clear hK K
 try simp only [Act.put, List.getElem_toArray, List.getElem_cons_succ, List.getElem_cons_zero, List.setIfInBounds_toArray, List.set_cons_zero, List.set_cons_succ]
 refine wpAnyH_take (i := 6) (v := ?_) rfl (by kernel_rfl) (by kernel_rfl) (by kernel_rfl) (fun _ _ _ h => h) (Or.inl ⟨by rfl, ?_⟩) (by assumption) ?_
 rotate_left
 ·(intro w hSw; obtain ⟨q0, _⟩ := hSw; go_simp; try (with_reducible rfl))
 try simp only [Act.put, List.getElem_toArray, List.getElem_cons_succ, List.getElem_cons_zero, List.setIfInBounds_toArray, List.set_cons_zero, List.set_cons_succ]
 refine wpAnyH_take (i := 7) (v := ?_) rfl (by kernel_rfl) (by kernel_rfl) (by kernel_rfl) (fun _ _ _ h => h) (Or.inl ⟨by rfl, ?_⟩) (by assumption) ?_
 rotate_left
 ·(intro w hSw; obtain ⟨q0, _⟩ := hSw; go_simp; try (with_reducible rfl))
 try simp only [Act.put, List.getElem_toArray, List.getElem_cons_succ, List.getElem_cons_zero, List.setIfInBounds_toArray, List.set_cons_zero, List.set_cons_succ]
 refine wpAnyH_done (by kernel_rfl) ?_ _
 clear hHeld
 go_wp2
 go_ret
 exact ⟨by first | rfl | simp, hidden (bl_go HBX.out (Nat.le_refl _) HB2.out)⟩
end Go.Proofs.YtlhkinlgolcpaaaGreatDoor
