/- The law's great; the document's SameCell and SameCells. -/
import Derived.Test.YtddjepdgigeelaaDoorJh
namespace Go.Proofs.YtddjepdgigeelaaDoor
open Go.RowKit

/-- How much cells are. -/
def gN (cs : List Cl) : Nat := (cs.map fun c => c.key.length + c.val.length).sum
set_option maxRecDepth 100000 in
theorem gN_take (cs : List Cl) (i : Nat) (c : Cl) (h : cs[i]? = some c) : gN (cs.take (i + 1)) = gN (cs.take i) + (c.key.length + c.val.length) := by
  unfold gN
  rw [List.take_add_one, h]
  simp
set_option maxRecDepth 100000 in
theorem gN_szN (cs : List Cl) : szN cs ≤ 8 + 13 * cs.length + gN cs := by
  unfold szN gN
  induction cs with
  | nil => simp
  | cons c r ih =>
    simp only [List.map_cons, List.sum_cons, List.length_cons]
    have : ctk c ≤ 13 + (c.key.length + c.val.length) := by unfold ctk; split <;> omega
    omega

/-- What great comes to. -/
def GrtTo (n : Nat) (cs : List Cl) (w : World) (e : Ending) (w' : World) : Prop := ∃ b : Bool, e = .returned (.bool b) ∧ Hid (Below w.heap.size w w') ∧ Hid (b = false → n ≤ 100000 ∧ szN cs ≤ 8388608)
set_option maxRecDepth 100000 in
set_option maxHeartbeats 1000000 in
theorem great_any (ao : Option Addr) (n cap : Nat) (cs : List Cl) (w : World) (hs : SlC w ao n cap cs) :
    Calls Tryd.prog 9 #[.slice ao n cap] w fun e w' => GrtTo n cs w e w' := by
  have HS := hidden hs
  have hn := hs.hroom
  have HLEN := hidden hs.hlen
  clear hs
  go_enter Tryd.func9, Tryd.ntmps9
  go_wp2_with fail
  go_loopw [3, 4] (fun v i wr => ∃ j p : Nat, j ≤ n ∧ p ≤ 562949953421312 ∧ i = .int .i64 j ∧ v = .int .i64 (p : Int) ∧ Hid (p = n + gN (cs.take j)) ∧ Hid (Below w.heap.size w wr)) (fun _ i _ => n - (intOf i).toNat)
  case atStart => exact ⟨0, n, by omega, by omega, rfl, rfl, hidden (by simp [gN]), hidden (Below.refl _ _)⟩
  case round =>
    obtain ⟨j, p, hj, hp, rfl, rfl, HP, HB⟩ := hrel
    have bj : (j : Int) ≤ 140737488355328 := by omega
    have bp : (p : Int) ≤ 562949953421312 := by omega
    by_cases hlt : j < n
    · have hltI : (j : Int) < (n : Int) := by omega
      by_cases hpp : p ≤ 4194304
      · have hppI : (p : Int) ≤ 4194304 := by omega
        obtain ⟨b, off, c, ka, kc, va, vc, rfl, hb, hci, c0, c1, c2, c3, c4, hk, hv⟩ := (HS.out.on HB.out).item j hlt
        have hkr := hk.hroom
        have hvr := hv.hroom
        have HG := hidden (gN_take cs j c hci)
        obtain ⟨x, hx⟩ : ∃ x, c.key.length = x := ⟨_, rfl⟩
        obtain ⟨y, hy⟩ : ∃ y, c.val.length = y := ⟨_, rfl⟩
        rw [hx] at c0 hkr
        rw [hy] at c2 hvr
        rw [hx, hy] at HG
        have bx : (x : Int) ≤ 140737488355328 := by omega
        have by_ : (y : Int) ≤ 140737488355328 := by omega
        clear hk hv hci hx hy
        go_wp2_with fail
        go_quiet (fail)
        go_wp2
        go_roundw
        case rel => exact ⟨j + 1, p + x + y, by omega, by omega, by go_num, by go_num, hidden (by rw [HG.out, HP.out]; omega), hidden (bl_dr HB.out _)⟩
        case measure => simp [intOf]; omega
      · have hppI : ¬ (p : Int) ≤ 4194304 := by omega
        have hppJ : 4194304 < (p : Int) := by omega
        go_wp2
        go_ret
        exact ⟨true, rfl, HB, hidden (fun h => by cases h)⟩
    · obtain rfl : j = n := by omega
      have hlI : ¬ (j : Int) < (j : Int) := by omega
      have HT : Hid (cs.take j = cs) := hidden (List.take_of_length_le (by rw [HLEN.out]; exact Nat.le_refl _))
      have HZ := hidden (gN_szN cs)
      by_cases hpp : 4194304 < p
      · have hppJ : 4194304 < (p : Int) := by omega
        go_wp2
        go_ret
        exact ⟨true, rfl, HB, hidden (fun h => by cases h)⟩
      · have hppJ : ¬ 4194304 < (p : Int) := by omega
        by_cases hjj : 100000 < j
        · have hjJ : 100000 < (j : Int) := by omega
          go_wp2
          go_ret
          exact ⟨true, rfl, HB, hidden (fun h => by cases h)⟩
        · have hjJ : ¬ 100000 < (j : Int) := by omega
          go_wp2
          go_ret
          refine ⟨false, rfl, HB, hidden fun _ => ⟨by omega, ?_⟩⟩
          have h1 := HZ.out
          have h2 := HP.out
          rw [HT.out] at h2
          have h3 := HLEN.out
          omega

set_option maxRecDepth 100000 in
theorem sameCell_self (c : Cl) (ka ka' va va' : Option Addr) (kc kc' vc vc' : Nat) (w : World) (h1 : Sl w ka c.key.length kc c.key) (h2 : Sl w ka' c.key.length kc' c.key) (h3 : Sl w va c.val.length vc c.val) (h4 : Sl w va' c.val.length vc' c.val) :
    Calls Tryd.prog 54 #[.agg #[.slice ka c.key.length kc, .int .i64 c.kd, .slice va c.val.length vc, .int .i64 c.pg, .int .i64 c.ct], .agg #[.slice ka' c.key.length kc', .int .i64 c.kd, .slice va' c.val.length vc', .int .i64 c.pg, .int .i64 c.ct]] w fun e w' => e = .returned (.bool true) ∧ Below w.heap.size w w' := by
  obtain ⟨x, hx⟩ : ∃ x, ((w.alloc (.cells #[.slice ka c.key.length kc, .int .i64 c.kd, .slice va c.val.length vc, .int .i64 c.pg, .int .i64 c.ct] 32)).alloc (.cells #[.slice ka' c.key.length kc', .int .i64 c.kd, .slice va' c.val.length vc', .int .i64 c.pg, .int .i64 c.ct] 32)) = x := ⟨_, rfl⟩
  have hb : Below w.heap.size w x := by rw [← hx]; exact bl_al (bl_al (Below.refl _ _) (Nat.le_refl _) _) (Nat.le_refl _) _
  have k1 : ∀ q, (convert 27 9 (.slice ka c.key.length kc)).run Tryd.prog (x.drewN q) = .ok (.string (strOfNums c.key)) (x.drewN q) := fun q => conv_sl ((h1.on (Nat.le_refl _) hb).drewN q)
  have k2 : ∀ q, (convert 27 9 (.slice ka' c.key.length kc')).run Tryd.prog (x.drewN q) = .ok (.string (strOfNums c.key)) (x.drewN q) := fun q => conv_sl ((h2.on (Nat.le_refl _) hb).drewN q)
  have k3 : ∀ q, (convert 27 9 (.slice va c.val.length vc)).run Tryd.prog (x.drewN q) = .ok (.string (strOfNums c.val)) (x.drewN q) := fun q => conv_sl ((h3.on (Nat.le_refl _) hb).drewN q)
  have k4 : ∀ q, (convert 27 9 (.slice va' c.val.length vc')).run Tryd.prog (x.drewN q) = .ok (.string (strOfNums c.val)) (x.drewN q) := fun q => conv_sl ((h4.on (Nat.le_refl _) hb).drewN q)
  have j1 := conv_sl (h1.on (Nat.le_refl _) hb)
  have j2 := conv_sl (h2.on (Nat.le_refl _) hb)
  have j3 := conv_sl (h3.on (Nat.le_refl _) hb)
  have j4 := conv_sl (h4.on (Nat.le_refl _) hb)
  have hz1 : (w.alloc (.cells #[.slice ka c.key.length kc, .int .i64 c.kd, .slice va c.val.length vc, .int .i64 c.pg, .int .i64 c.ct] 32)).heap.size = w.heap.size + 1 := by simp
  have b1 : C5 x w.heap.size (.slice ka c.key.length kc) (.int .i64 c.kd) (.slice va c.val.length vc) (.int .i64 c.pg) (.int .i64 c.ct) := by
    rw [← hx]
    exact box_on (C5.box w _ _ _ _ _) (bl_al (Below.refl _ _) (Nat.le_refl _) _)
  have b2 : C5 x (w.heap.size + 1) (.slice ka' c.key.length kc') (.int .i64 c.kd) (.slice va' c.val.length vc') (.int .i64 c.pg) (.int .i64 c.ct) := by
    rw [← hx, ← hz1]
    exact C5.box _ _ _ _ _ _
  obtain ⟨c0, c1, c2, c3, c4⟩ := b1.cells
  obtain ⟨d0, d1, d2, d3, d4⟩ := b2.cells
  have HB := hidden hb
  clear h1 h2 h3 h4 hb b1 b2 hz1
  go_enter Tryd.func54, Tryd.ntmps54
  go_wp2
  go_ret
  exact ⟨rfl, HB.out⟩
set_option maxRecDepth 100000 in
set_option maxHeartbeats 1000000 in
theorem sameCells_self (ao bo : Option Addr) (n c d : Nat) (cs : List Cl) (w : World) (ha : SlC w ao n c cs) (hb : SlC w bo n d cs) :
    Calls Tryd.prog 26 #[.slice ao n c, .slice bo n d] w fun e w' => e = .returned (.bool true) ∧ Hid (Below w.heap.size w w') := by
  have HA := hidden ha
  have HC := hidden hb
  have hn := ha.hroom
  clear ha hb
  go_enter Tryd.func26, Tryd.ntmps26
  go_wp2_with fail
  go_loopw [5] (fun i wr => ∃ j : Nat, j ≤ n ∧ i = .int .i64 j ∧ Hid (Below w.heap.size w wr)) (fun i _ => n - (intOf i).toNat)
  case atStart => exact ⟨0, by omega, rfl, hidden (Below.refl _ _)⟩
  case round =>
    obtain ⟨j, hj, rfl, HB⟩ := hrel
    have bj : (j : Int) ≤ 140737488355328 := by omega
    by_cases hlt : j < n
    · have hltI : (j : Int) < (n : Int) := by omega
      obtain ⟨b, off, x, ka, kc, va, vc, rfl, hb, hci, c0, c1, c2, c3, c4, hk, hv⟩ := (HA.out.on HB.out).item j hlt
      obtain ⟨b', off', x', ka', kc', va', vc', rfl, hb', hci', d0, d1, d2, d3, d4, hk', hv'⟩ := (HC.out.on HB.out).item j hlt
      rw [hci] at hci'
      injection hci' with hxx
      subst hxx
      have HS : Hid (∀ u, Below wr.heap.size wr u → Calls Tryd.prog 54 #[.agg #[.slice ka x.key.length kc, .int .i64 x.kd, .slice va x.val.length vc, .int .i64 x.pg, .int .i64 x.ct], .agg #[.slice ka' x.key.length kc', .int .i64 x.kd, .slice va' x.val.length vc', .int .i64 x.pg, .int .i64 x.ct]] u fun e w' => e = .returned (.bool true) ∧ Below wr.heap.size wr w') :=
        hidden fun u hu => (sameCell_self x ka ka' va va' kc kc' vc vc' u (hk.on (Nat.le_refl _) hu) (hk'.on (Nat.le_refl _) hu) (hv.on (Nat.le_refl _) hu) (hv'.on (Nat.le_refl _) hu)).mono fun e w' h => ⟨h.1, bl_go hu (Nat.le_refl _) h.2⟩
      clear hk hk' hv hv' hci
      go_wp2_with fail
      go_region_with (first | (go_at_call 54; refine (HS.out _ ?_).mono ?_; (repeat (first | exact Below.refl _ _ | apply Below.drew | apply below_drewN)); rintro e w1 ⟨rfl, hb1⟩))
      all_goals
        go_wp2
        go_roundw
        case rel => exact ⟨j + 1, by omega, by go_num, hidden (bl_go HB.out (Nat.le_refl _) hb1)⟩
        case measure => simp [intOf]; omega
    · obtain rfl : j = n := by omega
      have hlI : ¬ (j : Int) < (j : Int) := by omega
      go_wp2
      go_ret
      exact ⟨rfl, HB⟩
end Go.Proofs.YtddjepdgigeelaaDoor
