/- The document's Ordered and Behind, for items. -/
import Derived.Test.YtfdiflfjefhjfaaGreatDoorSmA
import Derived.Test.YtfdiflfjefhjfaaGreatDoorOrdered
namespace Go.Proofs.YtfdiflfjefhjfaaGreatDoor
open Go.RowKit

set_option maxRecDepth 100000 in
set_option maxHeartbeats 1000000 in
theorem refOrdered_any (ao : Option Addr) (n cap : Nat) (l : List Int) (w : World) (hs : Sl w ao n cap l) (hbig : 2 * n + 2 ≤ 140737488355328) :
    Calls Tryz.prog 40 #[.slice ao n cap] w fun e w' => ∃ v, e = .returned v ∧ OwnB w' w.heap.size v (oB l) ∧ Below w.heap.size w w' := by
  obtain ⟨hlen, hcap, hroom, hwf, hnil, hat⟩ := hs
  go_enter Tryz.func40, Tryz.ntmps40
  go_wp2_with fail
  go_loopw [3, 4] (fun v i wr => ∃ k : Nat, k ≤ n ∧ i = .int .i64 k ∧ OwnB wr w.heap.size v (oM (l.take k)) ∧ Below w.heap.size w wr) (fun _ i _ => n - (intOf i).toNat)
  case atStart => exact ⟨0, by omega, rfl, by simpa [oM] using OwnB.nil _ _, Below.refl _ _⟩
  case round =>
    obtain ⟨k, hk, rfl, hown, hb⟩ := hrel
    have hsz := hb.size
    have hol := (oM_length (l.take k)).2
    have htl2 : (l.take k).length ≤ k := by simp; omega
    by_cases hlt : k < n
    · rcases hat with h | ⟨b, off, rfl, hbb, hc⟩
      · omega
      have hck : wr.cell? ⟨b, off + k, none⟩ = some (.int .u8 (l.getD k 0)) := (hb.cell (p := ⟨b, off + k, none⟩) hbb).trans (hc k hlt)
      have HC := hidden (hc k hlt)
      have HT := hidden (take_snoc l k (by omega))
      clear hc
      generalize l.getD k 0 = c at *
      go_wp2_with (at_builtin; refine app_bytes _ rfl _ _ rfl w.heap.size (oM (l.take k)) _ rfl (hown.alloc _) _ 1 1 [c] rfl rfl (one_cell _ _) (by omega) (by simp; omega) ?_)
      intro v2 w2 hown2 hb2
      have R2 : Below w.heap.size w w2 := (hb.alloc hsz _).trans hb2
      have hsz2 := R2.size
      clear hb2 hown hck
      have hck : w2.cell? ⟨b, off + k, none⟩ = some (.int .u8 c) := (R2.cell (p := ⟨b, off + k, none⟩) hbb).trans HC.out
      by_cases hc0 : c = 0
      · subst hc0
        have hl2 : (oM (l.take k) ++ [0]).length ≤ 2 * k + 1 := by simp; omega
        go_wp2_with (at_builtin; refine app_bytes _ rfl _ _ rfl w.heap.size (oM (l.take k) ++ [0]) _ rfl (hown2.alloc _) _ 1 1 [255] rfl rfl (one_cell _ _) (by omega) (by simp; omega) ?_)
        intro v3 w3 hown3 hb3
        have R3 : Below w.heap.size w w3 := (R2.alloc hsz2 _).trans hb3
        clear hb3 hown2 hck
        go_wp2
        go_roundw
        case rel => exact ⟨k + 1, by omega, by go_num, by rw [HT.out, oM_snoc]; simpa [oC] using hown3, R3⟩
        case measure => simp [intOf]; omega
      · have hb0 : (c == 0) = false := by simp [hc0]
        have HC0 := hidden hc0
        clear hc0
        go_wp2
        go_roundw
        case rel => exact ⟨k + 1, by omega, by go_num, by rw [HT.out, oM_snoc]; simpa [oC, HC0.out] using hown2, R2⟩
        case measure => simp [intOf]; omega
    · have e : l.take k = l := List.take_of_length_le (by omega)
      rw [e] at hown hol htl2
      clear e hat
      go_wp2_with (at_builtin; refine app_bytes _ rfl _ _ rfl w.heap.size (oM l) _ rfl (hown.alloc _) _ 1 1 [0] rfl rfl (one_cell _ _) (by omega) (by simp; omega) ?_)
      intro v2 w2 hown2 hb2
      have R2 : Below w.heap.size w w2 := (hb.alloc hsz _).trans hb2
      have hsz2 := R2.size
      have hl2 : (oM l ++ [0]).length ≤ 2 * k + 1 := by simp; omega
      clear hb2 hown
      go_wp2_with (at_builtin; refine app_bytes _ rfl _ _ rfl w.heap.size (oM l ++ [0]) _ rfl (hown2.alloc _) _ 1 1 [1] rfl rfl (one_cell _ _) (by omega) (by simp; omega) ?_)
      intro v3 w3 hown3 hb3
      have R3 : Below w.heap.size w w3 := (R2.alloc hsz2 _).trans hb3
      clear hb3 hown2
      go_wp2
      go_ret
      exact ⟨_, rfl, by unfold oB; simpa using hown3, R3⟩

set_option maxRecDepth 100000 in
theorem set_take (a : List Int) (j : Nat) (y : Int) (h : j < a.length) : (a.take (j + 1)).set j y = a.take j ++ [y] := by
  have hl : (a.take j).length = j := by simp; omega
  rw [take_snoc a j h, List.set_append_right _ _ (by omega), hl]
  simp

set_option maxRecDepth 100000 in
set_option maxHeartbeats 1000000 in
theorem refBehind_none (ao : Option Addr) (n cap : Nat) (l : List Int) (w : World) (hs : Sl w ao n cap l) (hall : ∀ i, i < n → l.getD i 0 = 255) :
    Calls Tryz.prog 28 #[.slice ao n cap] w fun e w' => e = .returned (.tuple #[.slice none 0 0, .bool false]) ∧ w' = w := by
  obtain ⟨hlen, hcap, hroom, hwf, hnil, hat⟩ := hs
  go_enter Tryz.func28, Tryz.ntmps28
  go_wp2_with fail
  go_loop [4] (fun i => ∃ j : Nat, j ≤ n ∧ i = .int .i64 j) (fun i => (intOf i).toNat)
  case atStart => exact ⟨n, Nat.le_refl _, rfl⟩
  case round =>
    obtain ⟨j, hj2, rfl⟩ := hrel
    by_cases hj0 : j = 0
    · subst hj0
      go_wp2
      go_ret2
      exact ⟨rfl, rfl⟩
    · obtain ⟨i, rfl⟩ : ∃ i, j = i + 1 := ⟨j - 1, by omega⟩
      rcases hat with h | ⟨b, off, rfl, hbb, hc⟩
      · omega
      have hck := hc i (by omega)
      rw [hall i (by omega)] at hck
      clear hall hc
      go_wp2
      go_round
      case rel => exact ⟨i, by omega, by go_num⟩
      case measure => simp [intOf]

set_option maxRecDepth 100000 in
set_option maxHeartbeats 1000000 in
theorem refBehind_some (ao : Option Addr) (n cap k : Nat) (l : List Int) (w : World) (hs : Sl w ao n cap l) (hk0 : 0 < k) (hkn : k ≤ n) (hne : l.getD (k - 1) 0 ≠ 255) (hall : ∀ i, k ≤ i → i < n → l.getD i 0 = 255) :
    Calls Tryz.prog 28 #[.slice ao n cap] w fun e w' => ∃ v, e = .returned (.tuple #[v, .bool true]) ∧ OwnB w' w.heap.size v ((l.take k).set (k - 1) (l.getD (k - 1) 0 + 1)) ∧ Below w.heap.size w w' := by
  obtain ⟨hlen, hcap, hroom, hwf, hnil, hat⟩ := hs
  rcases hat with h | ⟨b, off, rfl, hbb, hc⟩
  · omega
  obtain ⟨m, rfl⟩ : ∃ m, k = m + 1 := ⟨k - 1, by omega⟩
  simp only [Nat.add_sub_cancel] at hne ⊢
  rw [set_take l m _ (by omega)]
  have hby := hwf.getD m
  have HC := hidden hc
  have HX := hidden (hc m (by omega))
  clear hc
  go_enter Tryz.func28, Tryz.ntmps28
  go_wp2_with fail
  go_loop [4] (fun i => ∃ j : Nat, m + 1 ≤ j ∧ j ≤ n ∧ i = .int .i64 j) (fun i => (intOf i).toNat)
  case atStart => exact ⟨n, hkn, Nat.le_refl _, rfl⟩
  case round =>
    obtain ⟨j, hj1, hj2, rfl⟩ := hrel
    obtain ⟨i, rfl⟩ : ∃ i, j = i + 1 := ⟨j - 1, by omega⟩
    have hck := HC.out i (by omega)
    by_cases hjk : i = m
    · subst hjk
      have hnb : (l.getD i 0 == 255) = false := by simpa using hne
      clear hall hne HX
      have HX := hidden hck
      generalize hxe : l.getD i 0 = x at *
      have HXE := hidden hxe
      clear hxe
      have hx254 : x ≤ 254 := by have : x ≠ 255 := by simpa using hnb
                                 omega
      have hi0 : ((i : Int) + 1 == 0) = false := by simp; omega
      go_wp2_with fail
      clear hck
      go_loopw [5, 6] (fun v t wr => ∃ q : Nat, q ≤ i ∧ t = .int .i64 q ∧ OwnB wr w.heap.size v (l.take q) ∧ Below w.heap.size w wr) (fun _ t _ => i - (intOf t).toNat)
      case atStart => exact ⟨0, by omega, rfl, by simpa using OwnB.nil _ _, Below.refl _ _⟩
      case round =>
        obtain ⟨q, hq, rfl, hown, hbl⟩ := hrel
        have hsz := hbl.size
        have htl : (l.take q).length ≤ q := by simp; omega
        by_cases hqi : q < i
        · have hcq : wr.cell? ⟨b, off + q, none⟩ = some (.int .u8 (l.getD q 0)) := (hbl.cell (p := ⟨b, off + q, none⟩) hbb).trans (HC.out q (by omega))
          have HT := hidden (take_snoc l q (by omega))
          generalize l.getD q 0 = y at *
          go_wp2_with (at_builtin; refine app_bytes _ rfl _ _ rfl w.heap.size (l.take q) _ rfl (hown.alloc _) _ 1 1 [y] rfl rfl (one_cell _ _) (by omega) (by simp; omega) ?_)
          intro v2 w2 hown2 hb2
          have R2 : Below w.heap.size w w2 := (hbl.alloc hsz _).trans hb2
          clear hb2 hown hcq
          go_wp2
          go_roundw
          case rel => exact ⟨q + 1, by omega, by go_num, by rw [HT.out]; exact hown2, R2⟩
          case measure => simp [intOf]; omega
        · obtain rfl : q = i := by omega
          have hcq : wr.cell? ⟨b, off + q, none⟩ = some (.int .u8 x) := (hbl.cell (p := ⟨b, off + q, none⟩) hbb).trans HX.out
          go_wp2_with (at_builtin; refine app_bytes _ rfl _ _ rfl w.heap.size (l.take q) _ rfl (hown.alloc _) _ 1 1 [x + 1] rfl rfl (one_cell _ _) (by omega) (by simp; omega) ?_)
          intro v2 w2 hown2 hb2
          have R2 : Below w.heap.size w w2 := (hbl.alloc hsz _).trans hb2
          clear hb2 hown hcq
          go_wp2
          go_ret2
          exact ⟨v2, rfl, by rw [HXE.out]; exact hown2, R2⟩
    · have h255 := hall i (by omega) (by omega)
      rw [h255] at hck
      clear hall h255 hne
      go_wp2
      go_round
      case rel => exact ⟨i, by omega, by omega, by go_num⟩
      case measure => simp [intOf]

end Go.Proofs.YtfdiflfjefhjfaaGreatDoor
