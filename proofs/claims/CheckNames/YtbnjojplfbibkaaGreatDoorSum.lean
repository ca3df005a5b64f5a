/- ink.Sum, followed as its text goes. -/
import Derived.Test.YtbnjojplfbibkaaGreatDoorTaken
import Derived.Test.YtbnjojplfbibkaaGreatDoorBehind
namespace Go.Proofs.YtbnjojplfbibkaaGreatDoor
open Go.RowKit

/-- A slice of slices of bytes. -/
structure SlS (w : World) (ao : Option Addr) (n cap : Nat) (ls : List (List Int)) : Prop where
  hlen : ls.length = n
  hcap : n ≤ cap
  hroom : n ≤ 140737488355328
  hnil : ao = none → cap = 0
  hat : n = 0 ∨ ∃ b off, ao = some ⟨b, off, none⟩ ∧ b < w.heap.size ∧ ∀ i, i < n → ∃ a m c, w.cell? ⟨b, off + i, none⟩ = some (.slice a m c) ∧ Sl w a m c (ls.getD i [])

/-- What Sum comes to. -/
def sumN (ls : List (List Int)) : Nat := 4294967295 ^^^ ls.foldl (fun r l => tk (l.map Int.toNat) r) 4294967295
set_option maxRecDepth 100000 in
theorem tk1_lt : ∀ (l : List Nat) (r : Nat), r < 4294967296 → (∀ x ∈ l, x < 256) → tk1 r l < 4294967296
  | [], _, h, _ => h
  | c :: l, r, h, hl => by
    show tk1 (tb (r ^^^ c)) l < _
    exact tk1_lt l _ (tb_lt (xor32 h (by have := hl c (by simp); omega))) (fun x hx => hl x (by simp [hx]))
set_option maxRecDepth 100000 in
theorem tk_lt : ∀ (l : List Nat) (r : Nat), r < 4294967296 → (∀ x ∈ l, x < 256) → tk l r < 4294967296
  | [], _, h, _ => h
  | [a], r, h, hl => tk1_lt [a] r h hl
  | [a, b], r, h, hl => tk1_lt [a, b] r h hl
  | [a, b, c], r, h, hl => tk1_lt [a, b, c] r h hl
  | a :: b :: c :: d :: l, r, _, hl => by
    show tk l (sh _) < _
    exact tk_lt l _ (sh_lt _) (fun x hx => hl x (by simp [hx]))
set_option maxRecDepth 100000 in
theorem nat_lt (l : List Int) (h : Wf l) : ∀ x ∈ l.map Int.toNat, x < 256 := by
  intro x hx
  obtain ⟨y, hy, rfl⟩ := List.mem_map.1 hx
  have := h y hy
  omega
set_option maxRecDepth 100000 in
theorem dropS (ls : List (List Int)) (k : Nat) (h : k < ls.length) : ls.drop k = ls.getD k [] :: ls.drop (k + 1) := by
  rw [List.drop_eq_getElem_cons h]
  simp [List.getD, List.getElem?_eq_getElem h]

set_option maxRecDepth 100000 in
set_option maxHeartbeats 1000000 in
theorem sum_any (ao : Option Addr) (n cap : Nat) (ls : List (List Int)) (w : World) (hs : SlS w ao n cap ls) (ht : Tab w) :
    Calls Tryz.prog 106 #[.slice ao n cap] w fun e w' => e = .returned (.int .u32 (sumN ls)) ∧ ∃ q, w' = w.drewN q := by
  have HT := hidden ht
  clear ht
  obtain ⟨hlen, hcap, hroom, hnil, hat⟩ := hs
  unfold sumN
  generalize hF : ls.foldl (fun r l => tk (l.map Int.toNat) r) 4294967295 = F
  have HF := hidden hF
  clear hF
  go_enter Tryz.func106, Tryz.ntmps106
  go_wp2_with fail
  go_loopw [3, 8] (fun v i wr => ∃ (k q y : Nat), k ≤ n ∧ i = .int .i64 k ∧ v = .int .u32 y ∧ y < 4294967296 ∧ Hid ((ls.drop k).foldl (fun r l => tk (l.map Int.toNat) r) y = F) ∧ wr = w.drewN q) (fun _ i _ => n - (intOf i).toNat)
  case atStart => exact ⟨0, 0, 4294967295, by omega, rfl, rfl, by omega, HF, rfl⟩
  case round =>
    obtain ⟨k, q, y, hk, rfl, rfl, hy, HK, rfl⟩ := hrel
    clear HF
    by_cases hlt : k < n
    · rcases hat with h | ⟨b, off, rfl, hbb, hc⟩
      · omega
      obtain ⟨a, m, c, hck, hsl⟩ := hc k hlt
      clear hc
      have hT := taken_any a m c (ls.getD k []) y (w.drewN q) (hsl.drewN q) (HT.out.drewN q) hy
      have hlt2 := tk_lt _ y hy (nat_lt _ hsl.wf)
      have e := HK.out
      rw [dropS ls k (by omega), List.foldl_cons] at e
      clear HK hsl
      generalize tk ((ls.getD k []).map Int.toNat) y = y2 at *
      have HT2 := hidden hT
      have HE := hidden e
      clear hT e
      go_wp2_with fail
      refine quiet_call' HT2.out ?_
      intro q2
      go_wp2
      go_roundw
      case rel => exact ⟨k + 1, _, y2, by omega, by go_num, rfl, hlt2, HE, rfl⟩
      case measure => simp [intOf]; omega
    · have e : F = y := by
        rw [← HK.out, List.drop_eq_nil_of_le (by omega)]
        rfl
      have HE := hidden e
      have hx := u32_xor_nat 4294967295 y (by omega) hy
      have HX := hidden hx
      have hsg : IntKind.u32.signed = false := rfl
      clear e HK hx
      go_wp2
      go_ret
      exact ⟨ret_int (by rw [HE.out]; exact HX.out), _, rfl⟩

end Go.Proofs.YtbnjojplfbibkaaGreatDoor
