/- Lent lays bytes into memory of its own, three marks behind; AsLent sees that they stand, and writes them over. -/
import Derived.Test.YtfofkgdhepdjeabDoorOwn
namespace Go.Proofs.YtfofkgdhepdjeabDoor
open Go.RowKit

set_option maxHeartbeats 1000000 in
theorem lent_any (ao : Option Addr) (n cap : Nat) (l : List Int) (w : World) (hs : Sl w ao n cap l) :
    Calls Tryd.prog 9 #[.slice ao n cap] w fun e w' => e = .returned (.slice (some ⟨w.heap.size, 0, none⟩) n (n + 3)) ∧ OwnB w' w.heap.size (.slice (some ⟨w.heap.size, 0, none⟩) (n + 3) (n + 3)) (l ++ [71, 72, 73]) ∧ Below w.heap.size w w' := by
  obtain ⟨i0, hi, hz0, hz1, hz2⟩ := info_parts info5
  obtain ⟨hlen, hcap, hroom, hwf, hnil, hat⟩ := hs
  have hsz : (Tryd.prog.info? 5).map (·.size) = some 1 := by rw [hi]; simp [hz1]
  go_enter Tryd.func9, Tryd.ntmps9
  go_wp2_with (at_make; refine wpList_make_full _ rfl _ _ 23 rfl w.heap.size 5 i0 (.int .u8 0) 1 Tryd.underlying23 hi hz0 hz1 .i64 .i64 (n + 3) (n + 3) (n + 3) rfl rfl rfl rfl (by rw [hz2]; omega) (by unfold maxLen; omega) (Nat.le_refl _) ?_)
  intro w1 hown1 hg1
  have hb1 : Below w.heap.size w w1 := (Below.refl _ _).grown hg1 (Nat.le_refl _) (fun k hk => by cases hk)
  clear hg1
  have hcur : w1.heap[w.heap.size]? = some (.cells (List.replicate (n + 3) (Value.int .u8 0)).toArray 5 (0, 0)) := by
    rcases hown1.2 with ⟨h, _⟩ | ⟨g, c, cur, h, _, hh, _, _, hs, ht⟩
    · cases h
    · cases h
      rw [hh]
      congr 2
      apply Array.toList_inj.1
      rw [toList_madeCells_one] at ht
      simp only [Nat.mul_one] at hs ht
      rw [List.take_of_length_le (by simp [hs])] at ht
      simpa using ht
  clear hown1
  obtain ⟨cur, hce⟩ : ∃ cur, List.replicate (n + 3) (Value.int .u8 0) = cur := ⟨_, rfl⟩
  rw [hce] at hcur
  have hcl : cur.length = n + 3 := by rw [← hce]; simp
  have HCE := hidden hce
  have HC := hidden hcur
  clear hcur hce
  have hpos : 0 < (By l).length → some (⟨w.heap.size, 0, none⟩ : Addr) = some ⟨w.heap.size, 0, none⟩ ∧ ∃ ad, ao = some ad ∧ ∀ j v, (By l)[j]? = some v → w1.cell? (ad.add j) = some v := by
    intro h
    rw [By_length] at h
    rcases hat with h0 | ⟨b, off, rfl, hbb, hc⟩
    · omega
    · refine ⟨rfl, _, rfl, fun j v hv => ?_⟩
      obtain ⟨h1, rfl⟩ := getElem?_By l j v hv
      rw [Addr.add_lit]
      exact (hb1.cell (p := ⟨b, off + j, none⟩) hbb).trans (hc j (by omega))
  have HP := hidden hpos
  clear hpos
  go_wp2_with (refine wpList_copy_splice rfl _ _ 23 23 rfl 5 Tryd.underlying23 hsz _ _ (n + 3) (n + 3) n cap rfl rfl w.heap.size 0 cur 5 HC.out (By l) (by rw [By_length, hlen]; exact (Nat.min_eq_left (by omega)).symm) HP.out (by rw [By_length]; omega) (By_one l) w.heap.size w hb1 (Nat.le_refl _) ?_)
  intro w2 hh hb2
  have ho : OwnB w2 w.heap.size (.slice (some ⟨w.heap.size, 0, none⟩) (n + 3) (n + 3)) (l ++ [0, 0, 0]) := by
    have h' := hh.out
    rw [show splice cur 0 (By l) = By (l ++ [0, 0, 0]) from by
      rw [← HCE.out]
      simp only [splice, By_length, hlen, List.take_zero, List.nil_append, Nat.zero_add, By_append, List.drop_replicate, show n + 3 - n = 3 by omega]
      rfl] at h'
    have := own_of_heap (l := l ++ [0, 0, 0]) h' (Nat.le_refl _) (by unfold maxLen; simp; omega)
    simpa [hlen] using this
  have hl0 : (l ++ [0, 0, 0]).length = n + 3 := by simp [hlen]
  have hl1 : ((l ++ [0, 0, 0]).set n 71).length = n + 3 := by simp [hlen]
  have hl2 : (((l ++ [0, 0, 0]).set n 71).set (n + 1) 72).length = n + 3 := by simp [hlen]
  have f0 := own_free ho hl0 n
  have c0 := own_cell ho hl0 (show n < n + 3 by omega)
  have o1 := own_set (x := 71) ho hl0 (show n < n + 3 by omega)
  have f1 := own_free o1 hl1 (n + 1)
  have c1 := own_cell o1 hl1 (show n + 1 < n + 3 by omega)
  have o2 := own_set (x := 72) o1 hl1 (show n + 1 < n + 3 by omega)
  have f2 := own_free o2 hl2 (n + 2)
  have c2 := own_cell o2 hl2 (show n + 2 < n + 3 by omega)
  have o3 := own_set (x := 73) o2 hl2 (show n + 2 < n + 3 by omega)
  have e3 : (((l ++ [0, 0, 0]).set n 71).set (n + 1) 72).set (n + 2) 73 = l ++ [71, 72, 73] := by
    subst hlen
    simp [List.set_append_right]
  rw [e3] at o3
  have HO3 := hidden o3
  have HB3 := hidden (((hb2.setCell (p := ⟨w.heap.size, n, none⟩) (Nat.le_refl _) (.int .u8 71)).setCell (p := ⟨w.heap.size, n + 1, none⟩) (Nat.le_refl _) (.int .u8 72)).setCell (p := ⟨w.heap.size, n + 2, none⟩) (Nat.le_refl _) (.int .u8 73))
  obtain ⟨y0, c0⟩ : ∃ y, w2.cell? ⟨w.heap.size, n, none⟩ = some y := ⟨_, c0⟩
  obtain ⟨y1, c1⟩ : ∃ y, (w2.setCell ⟨w.heap.size, n, none⟩ (.int .u8 71)).cell? ⟨w.heap.size, n + 1, none⟩ = some y := ⟨_, c1⟩
  obtain ⟨y2, c2⟩ : ∃ y, ((w2.setCell ⟨w.heap.size, n, none⟩ (.int .u8 71)).setCell ⟨w.heap.size, n + 1, none⟩ (.int .u8 72)).cell? ⟨w.heap.size, n + 2, none⟩ = some y := ⟨_, c2⟩
  clear hh ho o1 o2 o3 e3 hl0 hl1 hl2 hb2 HP HC HCE
  go_wp2
  go_ret
  exact ⟨rfl, HO3.out, HB3.out⟩
end Go.Proofs.YtfofkgdhepdjeabDoor
