/- TupleSorts: ValidString at any text; the first items of a row; bytes as strings in their order. -/
import Derived.Test.YtpiijmionafmcaaGreatDoorSmB
import Derived.Test.YtpiijmionafmcaaGreatDoorShelfV
import Derived.Lib.BytesEntry
namespace Go.Proofs.YtpiijmionafmcaaGreatDoor
open Go.RowKit

/-- The tables of unicode/utf8 stand. -/
def Tb (w : World) : Prop := Lib.Utf8Tabs (Tryz.laysValid_ren.g 3) (Tryz.laysValid_ren.g 4) w
set_option maxRecDepth 100000 in
theorem Tb.on {w w' : World} (h : Tb w) (hb : Below w.heap.size w w') : Tb w' := Utf8Tabs_below h hb
def Vl (t : ByteArray) : Bool := Lib.validD t.data.toList
set_option maxRecDepth 100000 in
theorem valid_at (t : ByteArray) (h : t.size ≤ 140737488355328) : ValidAt Tb Vl t := fun w hw => Any.utf8_ValidString Tryz.laysValid t w (by omega) hw
set_option maxRecDepth 100000 in
theorem tx_all : ∀ l : Its, l.Ok → l.Tx (ValidAt Tb Vl)
  | .nil, _ => trivial
  | .cons _ _ t s r, h => ⟨fun _ => valid_at t h.2.2.1, tx_all s h.2.2.2.2.1, tx_all r h.2.2.2.2.2⟩
/- The first m items. -/
theorem Its.fst_len : ∀ (l : Its) (m : Nat), m ≤ l.len → (l.fst m).len = m
  | l, 0, _ => by cases l <;> rfl
  | .nil, m + 1, h => by simp [Its.len] at h
  | .cons _ _ _ _ r, m + 1, h => by
    rw [Its.fst, Its.len, Its.fst_len r m (by simp only [Its.len] at h; omega)]
set_option maxRecDepth 100000 in
theorem Its.fst_ok : ∀ (l : Its) (m : Nat), l.Ok → (l.fst m).Ok
  | l, 0, _ => by cases l <;> trivial
  | .nil, _ + 1, _ => trivial
  | .cons _ _ _ _ r, m + 1, h => ⟨h.1, h.2.1, h.2.2.1, h.2.2.2.1, h.2.2.2.2.1, Its.fst_ok r m h.2.2.2.2.2⟩
set_option maxRecDepth 100000 in
theorem Its.fst_kd : ∀ (l : Its) (m : Nat), l.Kd → (l.fst m).Kd
  | l, 0, _ => by cases l <;> trivial
  | .nil, _ + 1, _ => trivial
  | .cons _ _ _ _ r, m + 1, h => ⟨h.1, h.2.1, Its.fst_kd r m h.2.2⟩
set_option maxRecDepth 100000 in
theorem Its.fst_sz : ∀ (l : Its) (m : Nat), (l.fst m).sz ≤ l.sz
  | l, 0 => by cases l <;> simp [Its.fst, Its.sz]
  | .nil, _ + 1 => by simp [Its.fst, Its.sz]
  | .cons _ _ _ _ r, m + 1 => by
    have := Its.fst_sz r m
    simp only [Its.fst, Its.sz]
    omega
set_option maxRecDepth 100000 in
theorem Its.At.fst {w : World} {p : Nat → Prop} : ∀ (l : Its) (m b off : Nat), l.At w p b off → (l.fst m).At w p b off
  | l, 0, _, _, _ => by cases l <;> trivial
  | .nil, _ + 1, _, _, _ => trivial
  | .cons _ _ _ _ r, m + 1, b, off, h => ⟨h.1, Its.At.fst r m b (off + 4) h.2⟩
set_option maxRecDepth 100000 in
theorem SlI.take {w : World} {p : Nat → Prop} {ao : Option Addr} {n cap : Nat} {l : Its} (h : SlI w p ao n cap l) (m : Nat) (hm : m ≤ n) : SlI w p ao m cap (l.fst m) := by
  have h1 := h.hlen
  have h2 := h.hcap
  have h3 := h.hroom
  refine ⟨l.fst_len m (by omega), by omega, h.hnil, by omega, l.fst_ok m h.ok, ?_⟩
  rcases h.hat with h0 | ⟨b, off, e, hb, hp, ha⟩
  · exact .inl (by omega)
  · exact .inr ⟨b, off, e, hb, hp, Its.At.fst l m b off ha⟩
set_option maxRecDepth 100000 in
theorem chkL_take (V : ByteArray → Bool) : ∀ (l : Its) (m : Nat) (d : Int), chkL V l d = 0 → chkL V (l.fst m) d = 0
  | l, 0, _, _ => by cases l <;> simp [Its.fst, chkL]
  | .nil, _ + 1, _, _ => by simp [Its.fst, chkL]
  | .cons k n t s r, m + 1, d, h => by
    rw [chkL] at h
    rw [Its.fst, chkL]
    by_cases e : chk1 V k n t s d = 0
    · rw [if_neg (by simp [e])] at h ⊢
      exact chkL_take V r m d h
    · rw [if_pos e] at h
      exact absurd h e
set_option maxRecDepth 100000 in
theorem eI_take : ∀ (l : Its) (m : Nat) (b : List Int), (eI l b).length ≤ 65536 → (eI (l.fst m) b).length ≤ 65536
  | l, 0, b, h => by
    have := eI_ge l b
    cases l <;> simp only [Its.fst, eI] <;> omega
  | .nil, _ + 1, b, h => by simpa [Its.fst] using h
  | .cons k n t s r, m + 1, b, h => by
    rw [eI_cons] at h
    rw [Its.fst, eI_cons]
    by_cases e : 65536 < b.length
    · rw [if_pos e] at h
      omega
    · rw [if_neg e] at h ⊢
      exact eI_take r m _ h
set_option maxRecDepth 100000 in
/-- Where Encode answers no error. -/
theorem enc_yes (V : ByteArray → Bool) (l : Its) (h : (encR V l).2 = 0) : chk V l 0 = 0 ∧ (eI l []).length ≤ 65536 ∧ (encR V l).1 = EI l ∧ l.Kd := by
  unfold encR at h ⊢
  by_cases hc : chk V l 0 = 0
  · rw [if_neg (by simp [hc])] at h ⊢
    by_cases hl : 65536 < (eI l []).length
    · rw [if_pos hl] at h
      simp at h
    · rw [if_neg hl]
      refine ⟨hc, by omega, ?_, chk_kd V l hc⟩
      simp only
      rw [eI_is l [] (by omega)]
      rfl
  · rw [if_pos hc] at h
    exact absurd h hc
set_option maxRecDepth 100000 in
theorem enc_take (V : ByteArray → Bool) (l : Its) (m : Nat) (hm : m ≤ l.len) (h : (encR V l).2 = 0) : (encR V (l.fst m)).2 = 0 ∧ (encR V (l.fst m)).1 = EI (l.fst m) := by
  obtain ⟨h1, h2, _, _⟩ := enc_yes V l h
  have hc : chk V (l.fst m) 0 = 0 := by
    unfold chk at h1 ⊢
    by_cases e : 64 < l.len ∨ (16 : Int) < 0
    · rw [if_pos e] at h1
      omega
    · rw [if_neg e] at h1
      rw [if_neg (by rw [l.fst_len m hm]; omega)]
      exact chkL_take V l m 0 h1
  have h3 := eI_take l m [] h2
  have e2 : (encR V (l.fst m)).2 = 0 := by
    unfold encR
    rw [if_neg (by simp [hc]), if_neg (by omega)]
  exact ⟨e2, (enc_yes V _ e2).2.2.1⟩
set_option maxRecDepth 100000 in
theorem enc_wf (V : ByteArray → Bool) (l : Its) (ho : l.Ok) : Wf (encR V l).1 ∧ (encR V l).1.length ≤ 65536 := by
  unfold encR
  split
  · exact ⟨Wf.nil, by simp⟩
  · split
    · exact ⟨Wf.nil, by simp⟩
    · rename_i h1 h2
      exact ⟨eI_wf l [] (chk_kd V l (by simpa using h1)) ho Wf.nil, by simp only; omega⟩
set_option maxRecDepth 100000 in
theorem conv_st {w : World} {ao : Option Addr} {n cap : Nat} {l : List Int} (hs : Sl w ao n cap l) :
    (convert 22 9 (.slice ao n cap)).run Tryz.prog w = .ok (.string (strOfNums l)) w := by
  obtain ⟨hlen, hcap, hroom, hwf, hnil, hat⟩ := hs
  rcases hat with rfl | ⟨b, off, rfl, hb, hc⟩
  · obtain rfl : l = [] := List.eq_nil_of_length_eq_zero hlen
    rw [run_convert_bytes_string w 22 9 5 ao 0 cap Tryz.underlying22 Tryz.underlying5 Tryz.underlying9]
    cases ao with
    | none => simp [Conv.bytesToString, Sem.run_pure, strOfNums]; rfl
    | some a =>
      rw [run_bytesToString w a 0 cap [] (by simpa using run_loadCells_list (P := Tryz.prog) w a [] (fun j v h => by cases h))]
      rfl
  · exact run_convert_bytes_arg w 22 5 Tryz.underlying22 Tryz.underlying5 b off n cap l hlen hc 9 Tryz.underlying9
set_option maxRecDepth 100000 in
theorem back_map : ∀ (l : List Int), Wf l → (Lib.bytesOf l).map (fun x => (x.toNat : Int)) = l
  | [], _ => rfl
  | x :: r, h => by
    have hx := h x (by simp)
    have ih := back_map r (fun z hz => h z (by simp [hz]))
    unfold Lib.bytesOf at ih ⊢
    rw [List.map_cons, List.map_cons, ih]
    congr 1
    simp only [UInt8.toNat_ofNat']
    omega
set_option maxRecDepth 100000 in
/-- Strings stand as their bytes. -/
theorem str_ord {a b : List Int} (ha : Wf a) (hb : Wf b) : ordL a b = if Op.bytesLess (strOfNums a).toList (strOfNums b).toList = true then -1 else if (strOfNums a).toList = (strOfNums b).toList then 0 else 1 := by
  have := ord_map (Lib.bytesOf a) (Lib.bytesOf b)
  rw [back_map a ha, back_map b hb] at this
  rw [this, Lib.strOfNums_toList, Lib.strOfNums_toList]
set_option maxRecDepth 100000 in
theorem str_lt {a b : List Int} (ha : Wf a) (hb : Wf b) : Op.bytesLess (strOfNums a).toList (strOfNums b).toList = decide (ordL a b < 0) := by
  have h := str_ord ha hb
  cases e : Op.bytesLess (strOfNums a).toList (strOfNums b).toList with
  | true => rw [e, if_pos rfl] at h; rw [h]; rfl
  | false =>
    rw [e, if_neg (by simp)] at h
    rw [h]
    split <;> rfl
set_option maxRecDepth 100000 in
theorem str_eq {a b : List Int} (ha : Wf a) (hb : Wf b) : ((strOfNums a).toList == (strOfNums b).toList) = decide (ordL a b = 0) := by
  have h := str_ord ha hb
  by_cases e : (strOfNums a).toList = (strOfNums b).toList
  · have e2 : Op.bytesLess (strOfNums a).toList (strOfNums b).toList = false := by
      rcases bytesLess_total (strOfNums a).toList (strOfNums b).toList with ⟨_, _, h3⟩ | ⟨_, _, h3⟩ | ⟨h1, _, _⟩
      · exact absurd e h3
      · exact absurd e h3
      · exact h1
    rw [e2, if_neg (by simp), if_pos e] at h
    rw [h, e]
    simp
  · have : ordL a b ≠ 0 := by
      rw [h, if_neg e]
      split <;> omega
    rw [decide_eq_false this]
    simpa using e
end Go.Proofs.YtpiijmionafmcaaGreatDoor
