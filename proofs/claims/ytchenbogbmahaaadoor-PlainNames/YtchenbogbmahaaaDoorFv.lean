/- plain.Size. -/
import Derived.Test.YtchenbogbmahaaaDoorFu
namespace Go.Proofs.YtchenbogbmahaaaDoor
open Go.RowKit

set_option maxRecDepth 100000 in
theorem ctk_int (c : Cl) : (if c.kd = 1 then 7 + (c.key.length : Int) + (c.val.length : Int) else 13 + (c.key.length : Int)) = (ctk c : Int) := by
  unfold ctk
  split <;> simp
set_option maxRecDepth 100000 in
theorem szN_take (cs : List Cl) (i : Nat) (c : Cl) (h : cs[i]? = some c) : szN (cs.take (i + 1)) = szN (cs.take i) + ctk c := by
  have hi := (List.getElem?_eq_some_iff.1 h).1
  have e := (List.getElem?_eq_some_iff.1 h).2
  unfold szN
  rw [List.take_add_one, h]
  simp
  omega
set_option maxRecDepth 100000 in
theorem szN_take_le (cs : List Cl) (i : Nat) : szN (cs.take i) ≤ szN cs := by
  unfold szN
  conv => rhs; rw [← List.take_append_drop i cs]
  rw [List.map_append, List.sum_append]
  omega
set_option maxRecDepth 100000 in
/-- A cell of a slice of cells. -/
theorem SlC.item {w : World} {ao : Option Addr} {n cap : Nat} {cs : List Cl} (h : SlC w ao n cap cs) (i : Nat) (hi : i < n) : ∃ b off c ka kc va vc, ao = some ⟨b, off, none⟩ ∧ b < w.heap.size ∧ cs[i]? = some c ∧
    w.cell? ⟨b, off + i * 5, none⟩ = some (.slice ka c.key.length kc) ∧ w.cell? ⟨b, off + i * 5 + 1, none⟩ = some (.int .i64 c.kd) ∧ w.cell? ⟨b, off + i * 5 + 2, none⟩ = some (.slice va c.val.length vc) ∧ w.cell? ⟨b, off + i * 5 + 3, none⟩ = some (.int .i64 c.pg) ∧ w.cell? ⟨b, off + i * 5 + 4, none⟩ = some (.int .i64 c.ct) ∧ Sl w ka c.key.length kc c.key ∧ Sl w va c.val.length vc c.val := by
  have hl := h.hlen
  rcases h.hat with h0 | ⟨b, off, e, hb, hc⟩
  · omega
  · obtain ⟨c, hci⟩ : ∃ c, cs[i]? = some c := ⟨_, List.getElem?_eq_getElem (by omega)⟩
    obtain ⟨ka, kc, va, vc, h0⟩ := hc i c hci
    exact ⟨b, off, c, ka, kc, va, vc, e, hb, hci, h0⟩

set_option maxRecDepth 100000 in
set_option maxHeartbeats 1000000 in
theorem size_any (k : Int) (ao : Option Addr) (n cap : Nat) (cs : List Cl) (w : World) (hs : SlC w ao n cap cs) (hz : szN cs ≤ 1099511627776) :
    Calls Tryd.prog 14 #[.int .i64 k, .slice ao n cap] w fun e w' => e = .returned (.int .i64 (szN cs : Int)) ∧ Below w.heap.size w w' := by
  have HS := hidden hs
  have hn := hs.hroom
  have HLEN := hidden hs.hlen
  have HZ := hidden hz
  clear hs hz
  go_enter Tryd.func14, Tryd.ntmps14
  go_wp2_with fail
  go_loopw [5, 10] (fun v i wr => ∃ j : Nat, j ≤ n ∧ i = .int .i64 j ∧ v = .int .i64 (szN (cs.take j) : Int) ∧ Hid (Below w.heap.size w wr)) (fun _ i _ => n - (intOf i).toNat)
  case atStart => exact ⟨0, by omega, rfl, by simp [szN], hidden (Below.refl _ _)⟩
  case round =>
    obtain ⟨j, hj, rfl, rfl, HB⟩ := hrel
    have bj : (j : Int) ≤ 140737488355328 := by omega
    by_cases hlt : j < n
    · have hltI : (j : Int) < (n : Int) := by omega
      obtain ⟨b, off, c, ka, kc, va, vc, rfl, hb, hci, c0, c1, c2, c3, c4, hk, hv⟩ := (HS.out.on HB.out).item j hlt
      have hkr := hk.hroom
      have hvr := hv.hroom
      have HST := hidden (szN_take cs j c hci)
      have hle := szN_take_le cs (j + 1)
      rw [HST.out] at hle
      have hz := HZ.out
      obtain ⟨S, hS⟩ : ∃ S, szN (cs.take j) = S := ⟨_, rfl⟩
      obtain ⟨T, hT⟩ : ∃ T, ctk c = T := ⟨_, rfl⟩
      have HTI := hidden (ctk_int c)
      rw [hS, hT] at hle
      rw [hS, hT] at HST
      rw [hT] at HTI
      rw [hS]
      have b1 : (S : Int) ≤ 1099511627776 := by omega
      have b2 : (T : Int) ≤ 1099511627776 := by omega
      have HPT := hidden (fun u => ptaken_any ka c.key.length kc c.kd va c.val.length vc c.pg c.ct u hkr hvr)
      rw [HTI.out] at HPT
      clear hk hv hci hS hT hle hz HTI
      go_wp2_with (first | (go_at_call 42; refine (HPT.out _).mono ?_; rintro e w2 ⟨rfl, hb2⟩; have HB2 := hidden (bl_go (bl_al HB.out (Nat.le_refl _) _) (Nat.le_refl _) hb2); clear hb2))
      go_roundw
      case rel => exact ⟨j + 1, by omega, by go_num, by rw [HST.out]; simp, HB2⟩
      case measure => simp [intOf]; omega
    · obtain rfl : j = n := by omega
      have hlI : ¬ (j : Int) < (j : Int) := by omega
      have HT : Hid (cs.take j = cs) := hidden (List.take_of_length_le (by rw [HLEN.out]; exact Nat.le_refl _))
      go_wp2
      go_ret
      rw [HT.out]
      exact ⟨rfl, HB.out⟩
end Go.Proofs.YtchenbogbmahaaaDoor
