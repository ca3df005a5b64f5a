/- The cache: State of none and of one page. -/
import Derived.Test.YtmelhpghpcpoiabCf
import Derived.Deep.RegionHeld3
namespace Go.Proofs.Ytmelhpghpcpoiab
open Go.RowKit Go.Maps

set_option maxRecDepth 100000 in
set_option maxHeartbeats 4000000 in
theorem State_none (w : World) (c a : Nat) (fr h mi ev : Int) (m nn : Nat) (hc : Hs w c (cC a fr m (.pointer none) (.pointer none) h mi ev) tC) (hm : MapIs w m nn (.map [])) :
    Calls Try.prog 14 #[pt c] w fun e u => e = .returned (stV fr 0 0 0 h mi ev) ∧ Below w.heap.size w u := by
  have c1 : w.cell? ⟨c, 1, none⟩ = some (.int .i64 fr) := hc.cell 1
  have c2 : w.cell? ⟨c, 2, none⟩ = some (.map (some m)) := hc.cell 2
  have c3 : w.cell? ⟨c, 3, none⟩ = some (.pointer none) := hc.cell 3
  have c5 : w.cell? ⟨c, 5, none⟩ = some (.int .i64 h) := hc.cell 5
  have c6 : w.cell? ⟨c, 6, none⟩ = some (.int .i64 mi) := hc.cell 6
  have c7 : w.cell? ⟨c, 7, none⟩ = some (.int .i64 ev) := hc.cell 7
  have hclt := hc.lt
  have hcne : ¬ c = w.heap.size := by omega
  have hcne1 : ¬ c = w.heap.size + 1 := by omega
  have hmlt := World.ownsMap.lt hm
  have LEN : Hid (∀ u : World, u.heap[m]? = w.heap[m]? → ∀ ty, (Builtin.len_ #[51] ty #[.map (some m)]).run Try.prog u = .ok (.int .i64 0) u) := by
    refine hidden fun u hu ty => ?_
    obtain ⟨es, clock, hb, F, hs, hD⟩ := hm
    have := len_is (w := u) (D := .map []) ⟨es, clock, hu.trans hb, F, hs, hD⟩ ty
    exact this
  clear hc hm
  have hm1 : ∀ o, (w.alloc o).drew.heap[m]? = w.heap[m]? := fun o => Below.heap_alloc w o m hmlt
  have hm2 : ∀ o o', ((w.alloc o).drew.alloc o').heap[m]? = w.heap[m]? := fun o o' => (Below.heap_alloc (w.alloc o).drew o' m (Nat.lt_of_lt_of_le hmlt (by show w.heap.size ≤ (w.alloc o).heap.size; simp))).trans (hm1 o)
  have hl1 := hidden (fun o => LEN.out _ (hm1 o))
  have hl2 := hidden (fun o o' => LEN.out _ (hm2 o o'))
  clear hm1 hm2 LEN
  go_enter Try.func14, Try.ntmps14
  go_wp2_with fail
  go_region_held3 (fun u => u.cell? ⟨c, 1, none⟩ = some (.int .i64 fr) ∧ u.cell? ⟨c, 2, none⟩ = some (.map (some m)) ∧ u.cell? ⟨c, 5, none⟩ = some (.int .i64 h) ∧ u.cell? ⟨c, 6, none⟩ = some (.int .i64 mi) ∧ u.cell? ⟨c, 7, none⟩ = some (.int .i64 ev) ∧ ∀ ty, (Builtin.len_ #[51] ty #[.map (some m)]).run Try.prog u = .ok (.int .i64 0) u)
    (first | (refine ⟨?_, ?_, ?_, ?_, ?_, ?_⟩; all_goals first | (exact hl1.out _) | (exact hl2.out _ _) | go_keep)) (fail)
  all_goals
    clear hl1 hl2
    go_wp2_with fail
    go_loopw [4] (fun i wr => i = .pointer none ∧ wr = ((w.alloc (.cells #[.int .i64 0, .int .i64 0, .int .i64 0, .int .i64 0, .int .i64 0, .int .i64 0, .int .i64 0] 43)).alloc (.cells #[.int .i64 fr, .int .i64 0, .int .i64 0, .int .i64 0, .int .i64 h, .int .i64 mi, .int .i64 ev] 43)).drew) (fun _ _ => 0)
    case atStart => exact ⟨rfl, rfl⟩
    case round =>
      obtain ⟨rfl, rfl⟩ := hrel
      go_wp2
      exact bodyPost_ret (v := stV fr 0 0 0 h mi ev) (by simp [results, Try.results14, go_sem, stV]) rfl ⟨rfl, (((Below.refl _ _).alloc (Nat.le_refl _) _).alloc (by simp) _).drew⟩
set_option maxRecDepth 100000 in
set_option maxHeartbeats 4000000 in
theorem State_one (w : World) (c a : Nat) (fr h mi ev : Int) (m : Nat) (n : Int) (L g p : Nat) (l : List Int) (hO : One w c a fr h mi ev m n L g p false 0 l) :
    Calls Try.prog 14 #[pt c] w fun e u => e = .returned (stV fr 1 0 0 h mi ev) ∧ Below w.heap.size w u := by
  have hc := hO.hc
  have hm := hO.hm
  have hl := hO.hl
  have c1 : w.cell? ⟨c, 1, none⟩ = some (.int .i64 fr) := hc.cell 1
  have c2 : w.cell? ⟨c, 2, none⟩ = some (.map (some m)) := hc.cell 2
  have c3 : w.cell? ⟨c, 3, none⟩ = some (pt L) := hc.cell 3
  have l2 : w.cell? ⟨L, 2, none⟩ = some (.bool false) := hl.cell 2
  have l3 : w.cell? ⟨L, 3, none⟩ = some (.int .i64 0) := hl.cell 3
  have l5 : w.cell? ⟨L, 5, none⟩ = some (.pointer none) := hl.cell 5
  have hllt := hl.lt
  have hlne : ¬ L = w.heap.size := by omega
  have hlne1 : ¬ L = w.heap.size + 1 := by omega
  have c5 : w.cell? ⟨c, 5, none⟩ = some (.int .i64 h) := hc.cell 5
  have c6 : w.cell? ⟨c, 6, none⟩ = some (.int .i64 mi) := hc.cell 6
  have c7 : w.cell? ⟨c, 7, none⟩ = some (.int .i64 ev) := hc.cell 7
  have hclt := hc.lt
  have hcne : ¬ c = w.heap.size := by omega
  have hcne1 : ¬ c = w.heap.size + 1 := by omega
  have hmlt := World.ownsMap.lt hm
  have LEN : Hid (∀ u : World, u.heap[m]? = w.heap[m]? → ∀ ty, (Builtin.len_ #[51] ty #[.map (some m)]).run Try.prog u = .ok (.int .i64 1) u) := by
    refine hidden fun u hu ty => ?_
    obtain ⟨es, clock, hb, F, hs, hD⟩ := hm
    have := len_is (w := u) (D := (DataW.map []).put (.int .i64 n) (.lit (.int .i64 (L : Int)))) ⟨es, clock, hu.trans hb, F, hs, hD⟩ ty
    exact this
  clear hc hm hl hO
  have hm1 : ∀ o, (w.alloc o).drew.heap[m]? = w.heap[m]? := fun o => Below.heap_alloc w o m hmlt
  have hm2 : ∀ o o', ((w.alloc o).drew.alloc o').heap[m]? = w.heap[m]? := fun o o' => (Below.heap_alloc (w.alloc o).drew o' m (Nat.lt_of_lt_of_le hmlt (by show w.heap.size ≤ (w.alloc o).heap.size; simp))).trans (hm1 o)
  have hl1 := hidden (fun o => LEN.out _ (hm1 o))
  have hl2 := hidden (fun o o' => LEN.out _ (hm2 o o'))
  clear hm1 hm2 LEN
  go_enter Try.func14, Try.ntmps14
  go_wp2_with fail
  go_region_held3 (fun u => u.cell? ⟨c, 1, none⟩ = some (.int .i64 fr) ∧ u.cell? ⟨c, 2, none⟩ = some (.map (some m)) ∧ u.cell? ⟨c, 5, none⟩ = some (.int .i64 h) ∧ u.cell? ⟨c, 6, none⟩ = some (.int .i64 mi) ∧ u.cell? ⟨c, 7, none⟩ = some (.int .i64 ev) ∧ ∀ ty, (Builtin.len_ #[51] ty #[.map (some m)]).run Try.prog u = .ok (.int .i64 1) u)
    (first | (refine ⟨?_, ?_, ?_, ?_, ?_, ?_⟩; all_goals first | (exact hl1.out _) | (exact hl2.out _ _) | go_keep)) (fail)
  all_goals
    clear hl1 hl2
    go_wp2_with fail
    go_loopw [4] (fun i wr => (i = pt L ∨ i = .pointer none) ∧ wr = ((w.alloc (.cells #[.int .i64 0, .int .i64 0, .int .i64 0, .int .i64 0, .int .i64 0, .int .i64 0, .int .i64 0] 43)).alloc (.cells #[.int .i64 fr, .int .i64 1, .int .i64 0, .int .i64 0, .int .i64 h, .int .i64 mi, .int .i64 ev] 43)).drew) (fun i _ => match i with | .pointer none => 0 | _ => 1)
    case atStart => exact ⟨.inl rfl, rfl⟩
    case round =>
      obtain ⟨h0 | h0, rfl⟩ := hrel
      · subst h0
        go_wp2
        go_roundw
        case rel => first | exact ⟨.inr rfl, rfl⟩ | exact ⟨.inr rfl, trivial⟩
        case measure => exact Nat.lt_succ_self 0
      · subst h0
        go_wp2
        exact bodyPost_ret (v := stV fr 1 0 0 h mi ev) (by simp [results, Try.results14, go_sem, stV]) rfl ⟨rfl, (((Below.refl _ _).alloc (Nat.le_refl _) _).alloc (by simp) _).drew⟩
end Go.Proofs.Ytmelhpghpcpoiab
