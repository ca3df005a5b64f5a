/- The document's Ordered, Between, Behind come to the same bytes. -/
import Derived.Test.YtfofkgdhepdjeabDoorBetweenMath
import Derived.Test.YtfofkgdhepdjeabDoorOrdered
namespace Go.Proofs.YtfofkgdhepdjeabDoor
open Go.RowKit

set_option maxHeartbeats 1000000 in
theorem refOrdered_any (ao : Option Addr) (n cap : Nat) (l : List Int) (w : World) (hs : Sl w ao n cap l) (hbig : 2 * n + 2 ≤ 140737488355328) :
    Calls Tryd.prog 18 #[.slice ao n cap] w fun e w' => ∃ v, e = .returned v ∧ OwnB w' w.heap.size v (oB l) ∧ Below w.heap.size w w' := by
  obtain ⟨hlen, hcap, hroom, hwf, hnil, hat⟩ := hs
  go_enter Tryd.func18, Tryd.ntmps18
  go_wp2_with fail
  go_loopw [3, 4] (fun v i wr => ∃ k : Nat, k ≤ n ∧ i = .int .i64 k ∧ OwnB wr w.heap.size v (oM (l.take k)) ∧ Below w.heap.size w wr) (fun _ i _ => n - (intOf i).toNat)
  case atStart => exact ⟨0, by omega, rfl, by simpa [oM] using OwnB.nil _ _, Below.refl _ _⟩
  case round =>
    obtain ⟨k, hk, rfl, hown, hb⟩ := hrel
    have hsz := hb.size
    have hol := (oM_length (l.take k)).2
    have htl2 : (l.take k).length ≤ k := by simp; omega
    by_cases hlt : k < n
    · rcases hat with h | ⟨b, off, rfl, hbb, hc⟩
      · omega
      have hck : wr.cell? ⟨b, off + k, none⟩ = some (.int .u8 (l.getD k 0)) := (hb.cell (p := ⟨b, off + k, none⟩) hbb).trans (hc k hlt)
      have HC := hidden (hc k hlt)
      have HT := hidden (take_snoc l k (by omega))
      clear hc
      generalize l.getD k 0 = c at *
      go_wp2_with (at_builtin; refine app_bytes _ rfl _ _ rfl w.heap.size (oM (l.take k)) _ rfl (hown.alloc _) _ 1 1 [c] rfl rfl (one_cell _ _) (by omega) (by simp; omega) ?_)
      intro v2 w2 hown2 hb2
      have R2 : Below w.heap.size w w2 := (hb.alloc hsz _).trans hb2
      have hsz2 := R2.size
      clear hb2 hown hck
      have hck : w2.cell? ⟨b, off + k, none⟩ = some (.int .u8 c) := (R2.cell (p := ⟨b, off + k, none⟩) hbb).trans HC.out
      by_cases hc0 : c = 0
      · subst hc0
        have hl2 : (oM (l.take k) ++ [0]).length ≤ 2 * k + 1 := by simp; omega
        go_wp2_with (at_builtin; refine app_bytes _ rfl _ _ rfl w.heap.size (oM (l.take k) ++ [0]) _ rfl (hown2.alloc _) _ 1 1 [255] rfl rfl (one_cell _ _) (by omega) (by simp; omega) ?_)
        intro v3 w3 hown3 hb3
        have R3 : Below w.heap.size w w3 := (R2.alloc hsz2 _).trans hb3
        clear hb3 hown2 hck
        go_wp2
        go_roundw
        case rel => exact ⟨k + 1, by omega, by go_num, by rw [HT.out, oM_snoc]; simpa [oC] using hown3, R3⟩
        case measure => simp [intOf]; omega
      · have hb0 : (c == 0) = false := by simp [hc0]
        have HC0 := hidden hc0
        clear hc0
        go_wp2
        go_roundw
        case rel => exact ⟨k + 1, by omega, by go_num, by rw [HT.out, oM_snoc]; simpa [oC, HC0.out] using hown2, R2⟩
        case measure => simp [intOf]; omega
    · have e : l.take k = l := List.take_of_length_le (by omega)
      rw [e] at hown hol htl2
      clear e hat
      go_wp2_with (at_builtin; refine app_bytes _ rfl _ _ rfl w.heap.size (oM l) _ rfl (hown.alloc _) _ 1 1 [0] rfl rfl (one_cell _ _) (by omega) (by simp; omega) ?_)
      intro v2 w2 hown2 hb2
      have R2 : Below w.heap.size w w2 := (hb.alloc hsz _).trans hb2
      have hsz2 := R2.size
      have hl2 : (oM l ++ [0]).length ≤ 2 * k + 1 := by simp; omega
      clear hb2 hown
      go_wp2_with (at_builtin; refine app_bytes _ rfl _ _ rfl w.heap.size (oM l ++ [0]) _ rfl (hown2.alloc _) _ 1 1 [1] rfl rfl (one_cell _ _) (by omega) (by simp; omega) ?_)
      intro v3 w3 hown3 hb3
      have R3 : Below w.heap.size w w3 := (R2.alloc hsz2 _).trans hb3
      clear hb3 hown2
      go_wp2
      go_ret
      exact ⟨_, rfl, by unfold oB; simpa using hown3, R3⟩

theorem set_take (a : List Int) (j : Nat) (y : Int) (h : j < a.length) : (a.take (j + 1)).set j y = a.take j ++ [y] := by
  have hl : (a.take j).length = j := by simp; omega
  rw [take_snoc a j h, List.set_append_right _ _ (by omega), hl]
  simp

set_option maxHeartbeats 1000000 in
theorem refBehind_none (ao : Option Addr) (n cap : Nat) (l : List Int) (w : World) (hs : Sl w ao n cap l) (hall : ∀ i, i < n → l.getD i 0 = 255) :
    Calls Tryd.prog 16 #[.slice ao n cap] w fun e w' => e = .returned (.tuple #[.slice none 0 0, .bool false]) ∧ w' = w := by
  obtain ⟨hlen, hcap, hroom, hwf, hnil, hat⟩ := hs
  go_enter Tryd.func16, Tryd.ntmps16
  go_wp2_with fail
  go_loop [4] (fun i => ∃ j : Nat, j ≤ n ∧ i = .int .i64 j) (fun i => (intOf i).toNat)
  case atStart => exact ⟨n, Nat.le_refl _, rfl⟩
  case round =>
    obtain ⟨j, hj2, rfl⟩ := hrel
    by_cases hj0 : j = 0
    · subst hj0
      go_wp2
      go_ret2
      exact ⟨rfl, rfl⟩
    · obtain ⟨i, rfl⟩ : ∃ i, j = i + 1 := ⟨j - 1, by omega⟩
      rcases hat with h | ⟨b, off, rfl, hbb, hc⟩
      · omega
      have hck := hc i (by omega)
      rw [hall i (by omega)] at hck
      clear hall hc
      go_wp2
      go_round
      case rel => exact ⟨i, by omega, by go_num⟩
      case measure => simp [intOf]

set_option maxHeartbeats 1000000 in
theorem refBehind_some (ao : Option Addr) (n cap k : Nat) (l : List Int) (w : World) (hs : Sl w ao n cap l) (hk0 : 0 < k) (hkn : k ≤ n) (hne : l.getD (k - 1) 0 ≠ 255) (hall : ∀ i, k ≤ i → i < n → l.getD i 0 = 255) :
    Calls Tryd.prog 16 #[.slice ao n cap] w fun e w' => ∃ v, e = .returned (.tuple #[v, .bool true]) ∧ OwnB w' w.heap.size v ((l.take k).set (k - 1) (l.getD (k - 1) 0 + 1)) ∧ Below w.heap.size w w' := by
  obtain ⟨hlen, hcap, hroom, hwf, hnil, hat⟩ := hs
  rcases hat with h | ⟨b, off, rfl, hbb, hc⟩
  · omega
  obtain ⟨m, rfl⟩ : ∃ m, k = m + 1 := ⟨k - 1, by omega⟩
  simp only [Nat.add_sub_cancel] at hne ⊢
  rw [set_take l m _ (by omega)]
  have hby := hwf.getD m
  have HC := hidden hc
  have HX := hidden (hc m (by omega))
  clear hc
  go_enter Tryd.func16, Tryd.ntmps16
  go_wp2_with fail
  go_loop [4] (fun i => ∃ j : Nat, m + 1 ≤ j ∧ j ≤ n ∧ i = .int .i64 j) (fun i => (intOf i).toNat)
  case atStart => exact ⟨n, hkn, Nat.le_refl _, rfl⟩
  case round =>
    obtain ⟨j, hj1, hj2, rfl⟩ := hrel
    obtain ⟨i, rfl⟩ : ∃ i, j = i + 1 := ⟨j - 1, by omega⟩
    have hck := HC.out i (by omega)
    by_cases hjk : i = m
    · subst hjk
      have hnb : (l.getD i 0 == 255) = false := by simpa using hne
      clear hall hne HX
      have HX := hidden hck
      generalize hxe : l.getD i 0 = x at *
      have HXE := hidden hxe
      clear hxe
      have hx254 : x ≤ 254 := by have : x ≠ 255 := by simpa using hnb
                                 omega
      have hi0 : ((i : Int) + 1 == 0) = false := by simp; omega
      go_wp2_with fail
      clear hck
      go_loopw [5, 6] (fun v t wr => ∃ q : Nat, q ≤ i ∧ t = .int .i64 q ∧ OwnB wr w.heap.size v (l.take q) ∧ Below w.heap.size w wr) (fun _ t _ => i - (intOf t).toNat)
      case atStart => exact ⟨0, by omega, rfl, by simpa using OwnB.nil _ _, Below.refl _ _⟩
      case round =>
        obtain ⟨q, hq, rfl, hown, hbl⟩ := hrel
        have hsz := hbl.size
        have htl : (l.take q).length ≤ q := by simp; omega
        by_cases hqi : q < i
        · have hcq : wr.cell? ⟨b, off + q, none⟩ = some (.int .u8 (l.getD q 0)) := (hbl.cell (p := ⟨b, off + q, none⟩) hbb).trans (HC.out q (by omega))
          have HT := hidden (take_snoc l q (by omega))
          generalize l.getD q 0 = y at *
          go_wp2_with (at_builtin; refine app_bytes _ rfl _ _ rfl w.heap.size (l.take q) _ rfl (hown.alloc _) _ 1 1 [y] rfl rfl (one_cell _ _) (by omega) (by simp; omega) ?_)
          intro v2 w2 hown2 hb2
          have R2 : Below w.heap.size w w2 := (hbl.alloc hsz _).trans hb2
          clear hb2 hown hcq
          go_wp2
          go_roundw
          case rel => exact ⟨q + 1, by omega, by go_num, by rw [HT.out]; exact hown2, R2⟩
          case measure => simp [intOf]; omega
        · obtain rfl : q = i := by omega
          have hcq : wr.cell? ⟨b, off + q, none⟩ = some (.int .u8 x) := (hbl.cell (p := ⟨b, off + q, none⟩) hbb).trans HX.out
          go_wp2_with (at_builtin; refine app_bytes _ rfl _ _ rfl w.heap.size (l.take q) _ rfl (hown.alloc _) _ 1 1 [x + 1] rfl rfl (one_cell _ _) (by omega) (by simp; omega) ?_)
          intro v2 w2 hown2 hb2
          have R2 : Below w.heap.size w w2 := (hbl.alloc hsz _).trans hb2
          clear hb2 hown hcq
          go_wp2
          go_ret2
          exact ⟨v2, rfl, by rw [HXE.out]; exact hown2, R2⟩
    · have h255 := hall i (by omega) (by omega)
      rw [h255] at hck
      clear hall h255 hne
      go_wp2
      go_round
      case rel => exact ⟨i, by omega, by omega, by go_num⟩
      case measure => simp [intOf]

theorem ord_short (a b : List Int) (k : Nat) (h : k ≤ lcp a b) : 0 ≤ ordL a (b.take k) := by
  have hle := lcp_le a b
  have e : a.take k = (b.take k).take k := by
    have h2 := congrArg (List.take k) (lcp_take a b)
    rw [List.take_take, List.take_take, Nat.min_eq_left h] at h2
    rw [List.take_take, Nat.min_self]
    exact h2
  rw [ord_at a (b.take k) k e, List.drop_eq_nil_of_le (show (b.take k).length ≤ k by simp; omega)]
  cases a.drop k <;> simp [ordL]

theorem refBetween_arg (ao bo : Option Addr) (n m c d : Nat) (la lb : List Int) (w : World) (ha : Sl w ao n c la) (hb : Sl w bo m d lb) (h : 0 ≤ ordL la lb) :
    Calls Tryd.prog 14 #[.slice ao n c, .slice bo m d] w fun e w' => e = .returned (.tuple #[.slice none 0 0, .int .i64 1]) ∧ ∃ q, w' = w.drewN q := by
  have HO := hidden (order_any ao bo n m c d la lb w ha hb)
  clear ha hb
  generalize ordL la lb = o at *
  go_enter Tryd.func14, Tryd.ntmps14
  go_wp2_with fail
  refine quiet_call' HO.out ?_
  intro q
  go_wp2
  go_ret2
  exact ⟨rfl, _, rfl⟩

set_option maxHeartbeats 1000000 in
theorem refBetween_ok (ao bo : Option Addr) (n m c d : Nat) (la lb : List Int) (w : World) (ha : Sl w ao n c la) (hb : Sl w bo m d lb) (h1 : lcp la lb < m) (h2 : n ≤ lcp la lb ∨ la.getD (lcp la lb) 0 < lb.getD (lcp la lb) 0) :
    Calls Tryd.prog 14 #[.slice ao n c, .slice bo m d] w fun e w' => ∃ v, e = .returned (.tuple #[v, .int .i64 0]) ∧ OwnB w' w.heap.size v (lb.take (lcp la lb + 1)) ∧ Below w.heap.size w w' := by
  have hla := ha.hlen
  have hlb := hb.hlen
  have hmr := hb.hroom
  have hmd := hb.hcap
  have hbn := hb.hnil
  have hbf := between_facts la lb (by omega) (by omega)
  have ho : ordL la lb = -1 := by
    rcases ord_cases la lb with h | h
    · exact h.2.2
    · exfalso
      have hle := lcp_le la lb
      rcases h.1 with e | ⟨e1, e2, e3⟩ <;> omega
  have hO := order_any ao bo n m c d la lb w ha hb
  rw [ho] at hO
  have HO := hidden hO
  have HSH := hidden (ord_short la lb)
  have HA := hidden ha
  have HB := hidden hb
  have HF := hidden hbf.1
  clear ha hb hO ho hbf h2
  generalize lcp la lb = k at *
  go_enter Tryd.func14, Tryd.ntmps14
  go_wp2_with fail
  refine quiet_call' HO.out ?_
  intro q0
  clear HO
  go_wp2_with fail
  go_loopw [7] (fun i wr => ∃ j q : Nat, j ≤ k + 1 ∧ i = .int .i64 j ∧ wr = w.drewN q) (fun i _ => k + 2 - (intOf i).toNat)
  case atStart => exact ⟨0, q0, by omega, rfl, rfl⟩
  case round =>
    obtain ⟨j, q, hj, rfl, rfl⟩ := hrel
    have hjm : decide (j ≤ m) = true := by simp; omega
    have hjm2 : decide ((j : Int) ≤ (m : Int)) = true := by simp; omega
    have hO2 := order_any ao bo n j c d la (lb.take j) (w.drewN q) (HA.out.drewN q) ((HB.out.take j (by omega)).drewN q)
    by_cases hjk : j = k + 1
    · subst hjk
      rw [HF.out] at hO2
      have HO2 := hidden hO2
      clear hO2
      go_wp2_with fail
      refine quiet_call' HO2.out ?_
      intro q2
      clear HO2
      have HBq := hidden (below_drewN (below_drewN (Below.refl w.heap.size w) q) q2)
      generalize (w.drewN q).drewN q2 = w2 at *
      go_wp2_with fail
      go_loopw [9, 10] (fun v t wr => ∃ p : Nat, p ≤ k + 1 ∧ t = .int .i64 p ∧ OwnB wr w.heap.size v (lb.take p) ∧ Below w.heap.size w wr) (fun _ t _ => k + 1 - (intOf t).toNat)
      case atStart => exact ⟨0, by omega, rfl, by simpa using OwnB.nil _ _, HBq.out⟩
      case round =>
        obtain ⟨p, hp, rfl, hown, hbl⟩ := hrel
        have hsz := hbl.size
        have htl : (lb.take p).length ≤ p := by simp; omega
        by_cases hpk : p < k + 1
        · rcases HB.out.hat with h | ⟨b, off, rfl, hbb, hc⟩
          · omega
          have hcq : wr.cell? ⟨b, off + p, none⟩ = some (.int .u8 (lb.getD p 0)) := (hbl.cell (p := ⟨b, off + p, none⟩) hbb).trans (hc p (by omega))
          have HT := hidden (take_snoc lb p (by omega))
          clear hc
          generalize lb.getD p 0 = y at *
          go_wp2_with (at_builtin; refine app_bytes _ rfl _ _ rfl w.heap.size (lb.take p) _ rfl (hown.alloc _) _ 1 1 [y] rfl rfl (one_cell _ _) (by omega) (by simp; omega) ?_)
          intro v2 w3 hown2 hb2
          have R2 : Below w.heap.size w w3 := (hbl.alloc hsz _).trans hb2
          clear hb2 hown hcq
          go_wp2
          go_roundw
          case rel => exact ⟨p + 1, by omega, by go_num, by rw [HT.out]; exact hown2, R2⟩
          case measure => simp [intOf]; omega
        · obtain rfl : p = k + 1 := by omega
          go_wp2
          go_ret2
          exact ⟨_, rfl, hown, hbl⟩
    · have h0 := HSH.out j (by omega)
      generalize ordL la (lb.take j) = o at *
      have HO2 := hidden hO2
      clear hO2
      go_wp2_with fail
      refine quiet_call' HO2.out ?_
      intro q2
      clear HO2
      go_wp2
      go_roundw
      case rel => exact ⟨j + 1, _, by omega, by go_num, rfl⟩
      case measure => simp [intOf]; omega
end Go.Proofs.YtfofkgdhepdjeabDoor
