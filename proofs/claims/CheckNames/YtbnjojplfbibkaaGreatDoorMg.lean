/- meta.isWithin and meta.Check: what they answer. -/
import Derived.Test.YtbnjojplfbibkaaGreatDoorMf
namespace Go.Proofs.YtbnjojplfbibkaaGreatDoor
open Go.RowKit

set_option maxRecDepth 100000 in
theorem bl_al {B : Nat} {a w : World} (h : Below B a w) (hB : B ≤ a.heap.size) (o : Obj) : Below B a (w.alloc o) := h.alloc (Nat.le_trans hB h.size) o
set_option maxRecDepth 100000 in
theorem bl_go {B : Nat} {a w w' : World} (h : Below B a w) (hB : B ≤ a.heap.size) (k : Below w.heap.size w w') : Below B a w' := h.trans (k.mono (Nat.le_trans hB h.size))
set_option maxRecDepth 100000 in
theorem bl_dr {B : Nat} {a w : World} (h : Below B a w) (q : Nat) : Below B a (w.drewN q) := h.trans ⟨rfl, rfl, rfl, Nat.le_refl _, fun _ _ => rfl⟩
set_option maxRecDepth 100000 in
theorem lt_some {w : World} {g : Nat} {o : Obj} (h : w.heap[g]? = some o) : g < w.heap.size := by
  rcases Nat.lt_or_ge g w.heap.size with hx | hx
  · exact hx
  · rw [Array.getElem?_eq_none hx] at h; cases h
/-- Each number lies between its least and its most. -/
def Mt.nth (m : Mt) (k : Nat) : Int := [m.en, m.pg, m.tx, m.ro, m.co, m.fr, m.li, m.hi].getD k 0
def atN (k : Nat) : Nat := [1, 8, 12, 20, 24, 28, 32, 36].getD k 0
def wdN (k : Nat) : Nat := [1, 4, 8, 4, 4, 4, 4, 4].getD k 0
def leastN (k : Nat) : Int := [1, 512, 0, 0, 0, 0, 0, 2].getD k 0
def mostN (k : Nat) : Int := [2, 65536, 1099511627776, 65535, 256, 65535, 65534, 65536].getD k 0
def InM (m : Mt) : Prop := ∀ k, k < 8 → leastN k ≤ m.nth k ∧ m.nth k ≤ mostN k
set_option maxRecDepth 100000 in
theorem eight {k : Nat} (h : k < 8) : k = 0 ∨ k = 1 ∨ k = 2 ∨ k = 3 ∨ k = 4 ∨ k = 5 ∨ k = 6 ∨ k = 7 := by omega
set_option maxRecDepth 100000 in
theorem plIx (k : Nat) (h : k < 8) (w : World) : (Instr.index 181 plV (.int .i64 (k : Int))).run Tryz.prog w = .ok (.agg #[.int .i64 (atN k : Int), .int .i64 (wdN k : Int), .int .i64 (leastN k), .int .i64 (mostN k)]) w := by
  rcases eight h with rfl | rfl | rfl | rfl | rfl | rfl | rfl | rfl <;> kernel_rfl
/-- The cells of a meta. -/
def mtC (m : Mt) : Array Value := #[.int .i64 m.en, .int .i64 m.pg, .int .i64 m.tx, .int .i64 m.ro, .int .i64 m.co, .int .i64 m.fr, .int .i64 m.li, .int .i64 m.hi]
set_option maxRecDepth 100000 in
theorem mtV_eq (m : Mt) : mtV m = .agg #[.int .i64 m.en, .int .i64 m.pg, .int .i64 m.tx, .int .i64 m.ro, .int .i64 m.co, .int .i64 m.fr, .int .i64 m.li, .int .i64 m.hi] := rfl
set_option maxRecDepth 100000 in
theorem mtC_at (m : Mt) (k : Nat) (h : k < 8) : (mtC m)[k]? = some (.int .i64 (m.nth k)) := by
  rcases eight h with rfl | rfl | rfl | rfl | rfl | rfl | rfl | rfl <;> rfl
set_option maxRecDepth 100000 in
theorem cell_mt {w : World} {g t : Nat} {m : Mt} (hg : w.heap[g]? = some (.cells (mtC m) t (0, 0))) (k : Nat) (h : k < 8) : w.cell? ⟨g, k, none⟩ = some (.int .i64 (m.nth k)) := by
  rw [cell_of_row _ _ k _ _ _ hg, mtC_at m k h]

set_option maxRecDepth 100000 in
set_option maxHeartbeats 2000000 in
theorem isWithin_any (m : Mt) (w : World) : Calls Tryz.prog 111 #[mtV m] w fun e w' => Ans (InM m) w e w' := by
  have HI : Hid (InM m ↔ ∀ k, k < 8 → leastN k ≤ m.nth k ∧ m.nth k ≤ mostN k) := Iff.rfl
  generalize InM m = P at *
  rw [mtV_eq]
  go_enter Tryz.func111, Tryz.ntmps111
  go_wp2_with (first
    | (go_at_call 115; refine (numbers_any m _).mono ?_; rintro e w1 ⟨rfl, hb1⟩; have HB1 := hidden hb1; clear hb1; rw [mtV_eq])
    | (go_at_call 109; refine (places_any _).mono ?_; rintro e w2 ⟨rfl, hb2⟩; have HB2 := hidden hb2; clear hb2))
  have hr : w2.heap[w1.heap.size]? = some (.cells (mtC m) 178 (0, 0)) := (HB2.out.block _ (by simp)).trans (heap_alloc_last w1 _)
  have hb : Below w.heap.size w w2 := bl_go (bl_al (bl_go (bl_al (Below.refl _ w) (Nat.le_refl _) _) (Nat.le_refl _) HB1.out) (Nat.le_refl _) _) (Nat.le_refl _) HB2.out
  clear HB1 HB2
  obtain ⟨g, hg⟩ : ∃ g, w1.heap.size = g := ⟨_, rfl⟩
  rw [hg] at hr ⊢
  clear hg
  go_loopw [9] (fun i wr => ∃ k : Nat, k ≤ 8 ∧ i = .int .i64 k ∧ (∀ j, j < k → leastN j ≤ m.nth j ∧ m.nth j ≤ mostN j) ∧ wr.heap[g]? = some (.cells (mtC m) 178 (0, 0)) ∧ Below w.heap.size w wr) (fun i _ => 8 - (intOf i).toNat)
  case atStart => exact ⟨0, by omega, rfl, fun j h => by omega, hr, hb⟩
  case round =>
    obtain ⟨k, hk, rfl, hin, hr, hb⟩ := hrel
    have HIN := hidden hin
    have HR := hidden hr
    have HB := hidden hb
    have hr0 := hr
    clear hin hr hb
    by_cases hlt : k < 8
    · have hix := fun u => plIx k hlt u
      have hc := cell_mt HR.out k hlt
      have hkc : (k : Int) < 8 := by omega
      have HBa := fun o => hidden (bl_al HB.out (Nat.le_refl _) o)
      have HRa : ∀ o, Hid ((wr.alloc o).heap[g]? = some (.cells (mtC m) 178 (0, 0))) := fun o => (Below.heap_alloc wr o g (lt_some hr0)).trans HR.out
      clear hr0
      have hca := fun o => cell_mt (HRa o).out k hlt
      have HK : Hid (∀ a b, leastN k = a → mostN k = b → a ≤ m.nth k → m.nth k ≤ b → (∀ j, j < k + 1 → leastN j ≤ m.nth j ∧ m.nth j ≤ mostN j)) := by
        rintro a b rfl rfl h1 h2 j hj
        by_cases e : j = k
        · subst e; exact ⟨h1, h2⟩
        · exact HIN.out j (by omega)
      have HN : Hid (leastN k ≤ m.nth k ∧ m.nth k ≤ mostN k ∨ ¬ P) := by
        by_cases h : leastN k ≤ m.nth k ∧ m.nth k ≤ mostN k
        · exact .inl h
        · exact .inr fun hp => h (HI.out.1 hp k hlt)
      obtain ⟨a, ha⟩ : ∃ a, leastN k = a := ⟨_, rfl⟩
      obtain ⟨b, hbb⟩ : ∃ b, mostN k = b := ⟨_, rfl⟩
      have HK2 := hidden (HK.out a b ha hbb)
      clear HK
      rw [ha, hbb] at hix HN
      generalize m.nth k = x at *
      have HKE := hidden (And.intro ha hbb)
      clear ha hbb
      by_cases h1 : x < a
      · have d1 : decide (x < a) = true := by simpa using h1
        have HP : Hid (¬ P) := by rcases HN.out with h | h; · omega
                                  · exact h
        go_wp2_with fail
        go_quiet (fail)
        go_wp2
        go_ret
        exact Ans.mk (by simpa using HP.out) (bl_dr (HBa _).out _)
      · have d1 : decide (x < a) = false := by simpa using h1
        by_cases h2 : b < x
        · have d2 : decide (b < x) = true := by simpa using h2
          have HP : Hid (¬ P) := by rcases HN.out with h | h; · omega
                                    · exact h
          go_wp2_with fail
          go_quiet (fail)
          go_wp2
          go_ret
          exact Ans.mk (by simpa using HP.out) (bl_dr (HBa _).out _)
        · have d2 : decide (b < x) = false := by simpa using h2
          have HKN := hidden (HK2.out (by omega) (by omega))
          go_wp2_with fail
          go_quiet (fail)
          go_wp2
          go_roundw
          case rel => exact ⟨k + 1, by omega, by go_num, HKN.out, by simpa using (HRa _).out, bl_dr (HBa _).out _⟩
          case measure => simp [intOf]; omega
    · clear hr0
      have hkc : ¬ (k : Int) < 8 := by omega
      have HP : Hid P := HI.out.2 fun j hj => HIN.out j (by omega)
      go_wp2
      go_ret
      exact Ans.mk (by simpa using HP.out) HB.out

set_option maxRecDepth 100000 in
theorem inM_iff (m : Mt) : InM m ↔ (1 ≤ m.en ∧ m.en ≤ 2) ∧ (512 ≤ m.pg ∧ m.pg ≤ 65536) ∧ (0 ≤ m.tx ∧ m.tx ≤ 1099511627776) ∧ (0 ≤ m.ro ∧ m.ro ≤ 65535) ∧ (0 ≤ m.co ∧ m.co ≤ 256) ∧ (0 ≤ m.fr ∧ m.fr ≤ 65535) ∧ (0 ≤ m.li ∧ m.li ≤ 65534) ∧ (2 ≤ m.hi ∧ m.hi ≤ 65536) := by
  constructor
  · intro h
    exact ⟨h 0 (by omega), h 1 (by omega), h 2 (by omega), h 3 (by omega), h 4 (by omega), h 5 (by omega), h 6 (by omega), h 7 (by omega)⟩
  · rintro ⟨h0, h1, h2, h3, h4, h5, h6, h7⟩ k hk
    rcases eight hk with rfl | rfl | rfl | rfl | rfl | rfl | rfl | rfl
    · exact h0
    · exact h1
    · exact h2
    · exact h3
    · exact h4
    · exact h5
    · exact h6
    · exact h7

/-- A meta's cells in a block. -/
structure Row8 (w : World) (g : Nat) (m : Mt) : Prop where
  c0 : w.cell? ⟨g, 0, none⟩ = some (.int .i64 m.en)
  c1 : w.cell? ⟨g, 1, none⟩ = some (.int .i64 m.pg)
  c2 : w.cell? ⟨g, 2, none⟩ = some (.int .i64 m.tx)
  c3 : w.cell? ⟨g, 3, none⟩ = some (.int .i64 m.ro)
  c4 : w.cell? ⟨g, 4, none⟩ = some (.int .i64 m.co)
  c5 : w.cell? ⟨g, 5, none⟩ = some (.int .i64 m.fr)
  c6 : w.cell? ⟨g, 6, none⟩ = some (.int .i64 m.li)
  c7 : w.cell? ⟨g, 7, none⟩ = some (.int .i64 m.hi)
set_option maxRecDepth 100000 in
theorem row8 {w : World} {g t : Nat} {m : Mt} (h : w.heap[g]? = some (.cells (mtC m) t (0, 0))) : Row8 w g m :=
  ⟨cell_mt h 0 (by omega), cell_mt h 1 (by omega), cell_mt h 2 (by omega), cell_mt h 3 (by omega), cell_mt h 4 (by omega), cell_mt h 5 (by omega), cell_mt h 6 (by omega), cell_mt h 7 (by omega)⟩
set_option maxRecDepth 100000 in
theorem Row8.go {w w' : World} {g : Nat} {m : Mt} (h : Row8 w g m) (hg : g < w.heap.size) (hb : Below w.heap.size w w') : Row8 w' g m :=
  ⟨(hb.cell (p := ⟨g, 0, none⟩) hg).trans h.c0, (hb.cell (p := ⟨g, 1, none⟩) hg).trans h.c1, (hb.cell (p := ⟨g, 2, none⟩) hg).trans h.c2, (hb.cell (p := ⟨g, 3, none⟩) hg).trans h.c3,
   (hb.cell (p := ⟨g, 4, none⟩) hg).trans h.c4, (hb.cell (p := ⟨g, 5, none⟩) hg).trans h.c5, (hb.cell (p := ⟨g, 6, none⟩) hg).trans h.c6, (hb.cell (p := ⟨g, 7, none⟩) hg).trans h.c7⟩
set_option maxRecDepth 100000 in
theorem row_new (w : World) (m : Mt) (t : TypeId) : (w.alloc (.cells (mtC m) t)).heap[w.heap.size]? = some (.cells (mtC m) t (0, 0)) := heap_alloc_last w _
set_option maxRecDepth 100000 in
/-- What a call leaves: the box that was made ahead of it. -/
theorem box_kept {w w1 : World} {m : Mt} {t : TypeId} (hb : Below (w.alloc (.cells (mtC m) t)).heap.size (w.alloc (.cells (mtC m) t)) w1) : w1.heap[w.heap.size]? = some (.cells (mtC m) t (0, 0)) ∧ Below w.heap.size w w1 :=
  ⟨(hb.block _ (by simp)).trans (row_new w m t), bl_go (bl_al (Below.refl _ w) (Nat.le_refl _) _) (Nat.le_refl _) hb⟩
set_option maxRecDepth 100000 in
theorem box_on {w1 w2 : World} {g : Nat} {o : Obj} (h : w1.heap[g]? = some o) (hb : Below w1.heap.size w1 w2) : w2.heap[g]? = some o := (hb.block _ (lt_some h)).trans h

/-- What Check answers: 0 for a meta, else 1. -/
def Says1 (m : Mt) (w : World) (e : Ending) (w' : World) : Prop := ∃ k, e = .returned (.int .i64 k) ∧ (m.ok ∧ k = 0 ∨ ¬ m.ok ∧ k = 1) ∧ Below w.heap.size w w'
set_option maxRecDepth 100000 in
theorem Says1.yes {m : Mt} {w w' : World} (h : m.ok) (hb : Below w.heap.size w w') : Says1 m w (.returned (.int .i64 0)) w' := ⟨0, rfl, .inl ⟨h, rfl⟩, hb⟩
set_option maxRecDepth 100000 in
theorem Says1.no {m : Mt} {w w' : World} (h : ¬ m.ok) (hb : Below w.heap.size w w') : Says1 m w (.returned (.int .i64 1)) w' := ⟨1, rfl, .inr ⟨h, rfl⟩, hb⟩
set_option maxRecDepth 100000 in
theorem ok_of (m : Mt) (h1 : InM m) (h2 : pw m.pg) (h3 : m.ro = 0 ∧ m.co = 0 ∨ m.ro ≠ 0 ∧ 2 ≤ m.ro ∧ m.ro < m.hi ∧ 0 < m.co) (h4 : m.fr = 0 ∧ m.li = 0 ∨ m.fr ≠ 0 ∧ 2 ≤ m.fr ∧ m.fr < m.hi ∧ m.li ≤ m.hi - 2) (h5 : ¬ (m.ro = m.fr ∧ m.ro ≠ 0)) : m.ok := by
  rw [inM_iff] at h1
  exact ⟨by omega, h2, by omega, by omega, by omega, by omega, by omega, by omega, by omega, by omega, h5⟩
set_option maxRecDepth 100000 in
theorem Mt.ok.inM {m : Mt} (h : m.ok) : InM m := by
  rw [inM_iff]
  have := pw_le h.pg
  obtain ⟨h1, h2, h3, h4, h5, h6, h7, h8, h9, h10, h11⟩ := h
  omega
set_option maxRecDepth 100000 in
theorem Mt.ok.tree {m : Mt} (h : m.ok) : m.ro = 0 ∧ m.co = 0 ∨ m.ro ≠ 0 ∧ 2 ≤ m.ro ∧ m.ro < m.hi ∧ 0 < m.co := by
  obtain ⟨h1, h2, h3, h4, h5, h6, h7, h8, h9, h10, h11⟩ := h
  omega
set_option maxRecDepth 100000 in
theorem Mt.ok.list {m : Mt} (h : m.ok) : m.fr = 0 ∧ m.li = 0 ∨ m.fr ≠ 0 ∧ 2 ≤ m.fr ∧ m.fr < m.hi ∧ m.li ≤ m.hi - 2 := by
  obtain ⟨h1, h2, h3, h4, h5, h6, h7, h8, h9, h10, h11⟩ := h
  omega

set_option maxRecDepth 100000 in
set_option maxHeartbeats 2000000 in
theorem check_any (m : Mt) (w : World) : Calls Tryz.prog 80 #[mtV m] w fun e w' => Says1 m w e w' := by
  rw [mtV_eq]
  go_enter Tryz.func80, Tryz.ntmps80
  go_wp2_with (go_at_call 111; rw [← mtV_eq]; refine (isWithin_any m _).mono ?_; rintro e w1 ⟨b1, rfl, h1, hb1⟩; have HB1 := hidden (box_kept (m := m) hb1); clear hb1; rw [mtV_eq]; refine Hid.out ?_)
  apply hidden
  have HI := hidden h1
  clear h1
  cases b1
  · go_wp2
    go_ret
    exact Says1.no (fun h => by have := HI.out.2 h.inM; cases this) HB1.out.2
  have hI : InM m := HI.out.1 rfl
  have hI2 := (inM_iff m).1 hI
  obtain ⟨c0, c1, c2, c3, c4, c5, c6, c7⟩ := row8 HB1.out.1
  have HII := hidden hI
  have HI2 := hidden hI2
  have HP := hidden (isPower_any m.pg w1 hI2.2.1.1 hI2.2.1.2)
  clear hI hI2 HI
  go_wp2_with (go_at_call 112; refine HP.out.mono ?_; rintro e w2 ⟨b2, rfl, h2, hw2⟩; have HW2 := hidden hw2; clear hw2; refine Hid.out ?_)
  apply hidden
  obtain rfl := HW2.out
  clear HW2 HP
  have H2 := hidden h2
  clear h2
  cases b2
  · go_wp2
    go_ret
    exact Says1.no (fun h => by have := H2.out.2 h.pg; cases this) HB1.out.2
  go_wp2_with (go_at_call 113; rw [← mtV_eq]; refine (isTree_any m _).mono ?_; rintro e w3 ⟨b3, rfl, h3, hb3⟩; have HB3 := hidden (And.intro (box_on HB1.out.1 hb3) (bl_go HB1.out.2 (Nat.le_refl _) hb3)); clear hb3; rw [mtV_eq]; refine Hid.out ?_)
  apply hidden
  have H3 := hidden h3
  clear h3 c0 c1 c2 c3 c4 c5 c6 c7
  cases b3
  · go_wp2
    go_ret
    exact Says1.no (fun h => by have := H3.out.2 h.tree; cases this) HB3.out.2
  obtain ⟨c0, c1, c2, c3, c4, c5, c6, c7⟩ := row8 HB3.out.1
  have HL := hidden (isList_any m w3 HI2.out.2.2.2.2.2.2.2.1 HI2.out.2.2.2.2.2.2.2.2)
  go_wp2_with (go_at_call 114; rw [← mtV_eq]; refine HL.out.mono ?_; rintro e w4 ⟨b4, rfl, h4, hb4⟩; have HB4 := hidden (And.intro (box_on HB3.out.1 hb4) (bl_go HB3.out.2 (Nat.le_refl _) hb4)); clear hb4; rw [mtV_eq]; refine Hid.out ?_)
  apply hidden
  have H4 := hidden h4
  clear h4 c0 c1 c2 c3 c4 c5 c6 c7 HL
  cases b4
  · go_wp2
    go_ret
    exact Says1.no (fun h => by have := H4.out.2 h.list; cases this) HB4.out.2
  obtain ⟨c0, c1, c2, c3, c4, c5, c6, c7⟩ := row8 HB4.out.1
  have HOK := hidden (ok_of m HII.out (H2.out.1 (by first | trivial | rfl)) (H3.out.1 (by first | trivial | rfl)) (H4.out.1 (by first | trivial | rfl)))
  clear HI2 H2 H3 H4 HII
  by_cases e1 : m.ro = m.fr
  · by_cases e2 : m.ro = 0
    · have d1 : (m.ro == m.fr) = true := by simpa using e1
      have d2 : (m.ro == 0) = true := by simpa using e2
      go_wp2
      go_ret
      exact Says1.yes (HOK.out (by omega)) HB4.out.2
    · have d1 : (m.ro == m.fr) = true := by simpa using e1
      have d2 : (m.ro == 0) = false := by simpa using e2
      go_wp2
      go_ret
      exact Says1.no (fun h => h.rf ⟨e1, e2⟩) HB4.out.2
  · have d1 : (m.ro == m.fr) = false := by simpa using e1
    go_wp2
    go_ret
    exact Says1.yes (HOK.out (by omega)) HB4.out.2
end Go.Proofs.YtbnjojplfbibkaaGreatDoor
