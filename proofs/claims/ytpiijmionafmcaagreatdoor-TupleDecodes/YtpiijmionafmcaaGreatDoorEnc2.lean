/- tuple.Encode: items as bytes. -/
import Derived.Test.YtpiijmionafmcaaGreatDoorEnc
import Derived.Lib.ConvBytes
import Derived.Lib.AtoiErrMem
import Derived.Handy
namespace Go.Proofs.YtpiijmionafmcaaGreatDoor
open Go.RowKit

set_option maxRecDepth 100000 in
theorem cut_any (t : ByteArray) (w : World) (h : t.size ≤ 140737488355328) : Calls Tryz.prog 49 #[.string t] w fun e w' => e = .returned (.string (t.extract 0 (min t.size 65536))) ∧ w' = w := by
  go_enter Tryz.func49, Tryz.ntmps49
  go_wp2
  go_ret
  exact ⟨by rw [show min t.size 65536 = (min (t.size : Int) 65536).toNat from by omega]; rfl, rfl⟩

/-- A text's bytes as numbers. -/
def bL (t : ByteArray) : List Int := t.data.toList.map fun b => (b.toNat : Int)
set_option maxRecDepth 100000 in
theorem bL_length (t : ByteArray) : (bL t).length = t.size := by unfold bL; rw [List.length_map, Array.length_toList]; rfl
set_option maxRecDepth 100000 in
theorem bL_wf (t : ByteArray) : Wf (bL t) := by
  intro x hx
  simp only [bL, List.mem_map] at hx
  obtain ⟨b, _, rfl⟩ := hx
  have := b.toNat_lt
  omega
set_option maxRecDepth 100000 in
theorem bL_getD (t : ByteArray) (j : Nat) : (bL t).getD j 0 = ((t.data.toList.getD j 0).toNat : Int) := by
  simp only [bL, List.getD, List.getElem?_map]
  cases t.data.toList[j]? <;> simp
set_option maxRecDepth 100000 in
/-- '[]byte(t)', in memory of its own. -/
theorem conv_sl (w : World) (t : ByteArray) (h : t.size ≤ 140737488355328) : Sl (Lib.bytesWorld w 5 t) (some ⟨w.heap.size, 0, none⟩) t.size (grownCap w t.size 0 5) (bL t) := by
  refine ⟨bL_length t, grownCap_ge _ _ _ _, h, bL_wf t, (by intro h; cases h), .inr ⟨w.heap.size, 0, rfl, by rw [Lib.bytesWorld_size]; omega, fun i hi => ?_⟩⟩
  rw [Nat.zero_add, Lib.bytesWorld_cell w 5 t i hi, bL_getD]
set_option maxRecDepth 100000 in
theorem conv_run (w : World) (t : ByteArray) : (convert 9 22 (.string t)).run Tryz.prog w = .ok (.slice (some ⟨w.heap.size, 0, none⟩) t.size (grownCap w t.size 0 5)) (Lib.bytesWorld w 5 t) :=
  Lib.run_convert_string_bytes w 9 22 5 t Tryz.underlying9 Tryz.underlying22 Tryz.underlying5

set_option maxRecDepth 100000 in
theorem conv_ex (w : World) (t : ByteArray) (h : t.size ≤ 140737488355328) : ∃ c W, (convert 9 22 (.string t)).run Tryz.prog w = .ok (.slice (some ⟨w.heap.size, 0, none⟩) t.size c) W ∧ Sl W (some ⟨w.heap.size, 0, none⟩) t.size c (bL t) ∧ Below w.heap.size w W :=
  ⟨_, _, conv_run w t, conv_sl w t h, Lib.bytesWorld_below w 5 t⟩

/-- No more of a text than shows that it is too long. -/
def cutT (t : ByteArray) : ByteArray := t.extract 0 (min t.size 65536)
set_option maxRecDepth 100000 in
theorem cutT_size (t : ByteArray) : (cutT t).size = min t.size 65536 := by simp [cutT]
/-- A Text's bytes behind its kind's. -/
def txB (t : ByteArray) : List Int := oB (bL (cutT t))
set_option maxRecDepth 100000 in
theorem txB_length (t : ByteArray) : (txB t).length ≤ 131074 := by
  have := (oB_length (bL (cutT t))).2
  rw [bL_length, cutT_size] at this
  unfold txB
  omega

/-- Items behind what stands there; they leave off where it is too long. -/
def eI : Its → List Int → List Int
  | .nil, b => b
  | .cons k n t sub r, b => if 65536 < b.length then b else
    eI r (if k = 3 then b ++ [16 + k] ++ intB n else if k = 4 then b ++ [16 + k] ++ fB 8 (frk n) else if k = 5 ∨ k = 6 then b ++ [16 + k] ++ txB t else if k = 7 then eI sub (b ++ [16 + k]) ++ [0] else b ++ [16 + k])
/-- One item behind its kind. -/
def e1 (k n : Int) (t : ByteArray) (sub : Its) (b : List Int) : List Int := if k = 3 then b ++ intB n else if k = 4 then b ++ fB 8 (frk n) else if k = 5 ∨ k = 6 then b ++ txB t else if k = 7 then eI sub b ++ [0] else b
set_option maxRecDepth 100000 in
theorem eI_cons (k n : Int) (t : ByteArray) (sub r : Its) (b : List Int) : eI (.cons k n t sub r) b = if 65536 < b.length then b else eI r (e1 k n t sub (b ++ [16 + k])) := by
  rw [eI]; rfl
set_option maxRecDepth 100000 in
theorem intB_length (n : Int) (h0 : -9223372036854775808 ≤ n) (h1 : n ≤ 9223372036854775807) : (intB n).length ≤ 9 := by
  unfold intB
  have a := wd_le n (by omega)
  have b := wd_le (-n - 1) (by omega)
  split <;> simp [fB_length] <;> omega
set_option maxRecDepth 100000 in
theorem eI_length : ∀ (l : Its) (b : List Int), l.Ok → (eI l b).length ≤ max b.length 196612 + l.sz
  | .nil, b, _ => by rw [eI]; omega
  | .cons k n t sub r, b, ho => by
    obtain ⟨_, h2, _, _, h5, h6⟩ := ho
    rw [eI_cons]
    have hi := intB_length n h2.1 h2.2
    have ht := txB_length t
    have hs := eI_length sub (b ++ [16 + k]) h5
    simp only [Its.sz]
    split
    · omega
    · have hr := eI_length r (e1 k n t sub (b ++ [16 + k])) h6
      have he : (e1 k n t sub (b ++ [16 + k])).length ≤ max b.length 196612 + sub.sz + 1 := by
        have hb1 : (b ++ [16 + k]).length = b.length + 1 := by simp
        have ha : (b ++ [16 + k] ++ intB n).length = b.length + 1 + (intB n).length := by simp; omega
        have hf : (b ++ [16 + k] ++ fB 8 (frk n)).length = b.length + 1 + 8 := by simp [fB_length]
        have hx : (b ++ [16 + k] ++ txB t).length = b.length + 1 + (txB t).length := by simp; omega
        have hz : (eI sub (b ++ [16 + k]) ++ [0]).length = (eI sub (b ++ [16 + k])).length + 1 := by simp
        unfold e1
        split
        · omega
        split
        · omega
        split
        · omega
        split
        · omega
        · omega
      omega
set_option maxRecDepth 100000 in
theorem e1_length (k n : Int) (t : ByteArray) (sub : Its) (b : List Int) (hn : -9223372036854775808 ≤ n ∧ n ≤ 9223372036854775807) (hs : sub.Ok) (hb : b.length ≤ 65537) : (e1 k n t sub b).length ≤ 196613 + sub.sz := by
  have hi := intB_length n hn.1 hn.2
  have ht := txB_length t
  have hz := eI_length sub b hs
  have h1 : (b ++ intB n).length = b.length + (intB n).length := by simp
  have h2 : (b ++ fB 8 (frk n)).length = b.length + 8 := by simp [fB_length]
  have h3 : (b ++ txB t).length = b.length + (txB t).length := by simp
  have h4 : (eI sub b ++ [0]).length = (eI sub b).length + 1 := by simp
  unfold e1
  split
  · omega
  split
  · omega
  split
  · omega
  split
  · omega
  · omega
/-- The kinds are kinds. -/
def Its.Kd : Its → Prop
  | .nil => True
  | .cons k _ _ sub r => (0 ≤ k ∧ k ≤ 7) ∧ (k = 7 → sub.Kd) ∧ r.Kd
set_option maxRecDepth 100000 in
theorem Its.Kd.drop : ∀ (l : Its) (i : Nat), l.Kd → (l.drop i).Kd
  | l, 0, h => by simpa [Its.drop] using h
  | .nil, _ + 1, _ => trivial
  | .cons _ _ _ _ r, i + 1, h => Its.Kd.drop r i h.2.2
end Go.Proofs.YtpiijmionafmcaaGreatDoor
