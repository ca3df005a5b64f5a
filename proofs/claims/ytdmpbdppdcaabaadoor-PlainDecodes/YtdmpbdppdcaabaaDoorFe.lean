/- How keys stand: bytes.Compare, plain.rise, and strings. -/
import Derived.Test.YtdmpbdppdcaabaaDoorFd
import Derived.Lib.BytesEntry
import Derived.Laws.Externs
namespace Go.Proofs.YtdmpbdppdcaabaaDoor
open Go.RowKit

set_option maxRecDepth 100000 in
theorem u8_lt (x y : Int) (hx : 0 ≤ x ∧ x ≤ 255) (hy : 0 ≤ y ∧ y ≤ 255) : UInt8.ofNat x.toNat < UInt8.ofNat y.toNat ↔ x < y := by
  rw [UInt8.lt_iff_toNat_lt, UInt8.toNat_ofNat', UInt8.toNat_ofNat']
  omega
set_option maxRecDepth 100000 in
theorem cmp_ord : ∀ (a b : List Int), Wf a → Wf b → Lib.compareBytes (Lib.bytesOf a) (Lib.bytesOf b) = ordL a b
  | [], [], _, _ => rfl
  | [], _ :: _, _, _ => rfl
  | _ :: _, [], _, _ => rfl
  | x :: a, y :: b, ha, hb => by
    have hx := ha x (by simp)
    have hy := hb y (by simp)
    have ih := cmp_ord a b (fun z hz => ha z (by simp [hz])) (fun z hz => hb z (by simp [hz]))
    unfold Lib.bytesOf at ih ⊢
    simp only [List.map_cons, Lib.compareBytes, ordL, u8_lt x y hx hy, u8_lt y x hy hx, ih]
set_option maxRecDepth 100000 in
theorem less_ord : ∀ (a b : List Int), Wf a → Wf b → Op.bytesLess (Lib.bytesOf a) (Lib.bytesOf b) = decide (kl a b)
  | [], [], _, _ => rfl
  | [], _ :: _, _, _ => rfl
  | _ :: _, [], _, _ => rfl
  | x :: a, y :: b, ha, hb => by
    have hx := ha x (by simp)
    have hy := hb y (by simp)
    have ih := less_ord a b (fun z hz => ha z (by simp [hz])) (fun z hz => hb z (by simp [hz]))
    unfold Lib.bytesOf at ih ⊢
    unfold kl at ih ⊢
    have heq : UInt8.ofNat x.toNat = UInt8.ofNat y.toNat ↔ x = y := ⟨byte_inj hx hy, fun e => by rw [e]⟩
    simp only [List.map_cons, Op.bytesLess, ordL, u8_lt x y hx hy, ih]
    by_cases h1 : x < y
    · simp [h1]
    · by_cases h2 : y < x
      · have : ¬ x = y := by omega
        simp [h1, h2, heq, this]
      · have : x = y := by omega
        simp [this]
set_option maxRecDepth 100000 in
theorem str_less {a b : List Int} (ha : Wf a) (hb : Wf b) : Op.bytesLess (strOfNums a).toList (strOfNums b).toList = decide (kl a b) := by
  rw [Lib.strOfNums_toList, Lib.strOfNums_toList, less_ord a b ha hb]

set_option maxRecDepth 100000 in
theorem run_bytes {w : World} {ao : Option Addr} {n cap : Nat} {l : List Int} (h : Sl w ao n cap l) : (Extern.Bytes.bytesOf (.slice ao n cap)).run Tryd.prog w = .ok ⟨(Lib.bytesOf l).toArray⟩ w := by
  obtain ⟨hlen, hcap, hroom, hwf, hnil, hat⟩ := h
  have he : (⟨ByteArray.empty.data ++ (Lib.bytesOf l).toArray⟩ : ByteArray) = ⟨(Lib.bytesOf l).toArray⟩ := by
    apply ByteArray.ext
    show (#[] : Array UInt8) ++ (Lib.bytesOf l).toArray = (Lib.bytesOf l).toArray
    simp
  cases ao with
  | none =>
    have : n = 0 := by have := hnil rfl; omega
    obtain rfl : l = [] := List.eq_nil_of_length_eq_zero (by omega)
    rfl
  | some a =>
    have hl := Lib.run_loadBytesX (P := Tryd.prog) w l a .empty (fun j x hj => by
      have hjl : j < l.length := (List.getElem?_eq_some_iff.1 hj).1
      rcases hat with h0 | ⟨b, off, e, hb, hc⟩
      · omega
      · injection e with e
        subst e
        rw [Addr.add_lit, hc j (by omega), List.getD_eq_getElem?_getD, hj]
        rfl)
    rw [hlen, he] at hl
    simpa [Extern.Bytes.bytesOf] using hl
set_option maxRecDepth 100000 in
theorem run_cmp {w : World} {ao bo : Option Addr} {n m c d : Nat} {la lb : List Int} (ha : Sl w ao n c la) (hb : Sl w bo m d lb) :
    (Extern.BytealgCompare.compare #[.slice ao n c, .slice bo m d]).run Tryd.prog w = .ok (.int .i64 (ordL la lb)) w := by
  change Sem.run Tryd.prog (do pure (goInt (Extern.BytealgCompare.cmp (← Extern.Bytes.bytesOf (.slice ao n c)) (← Extern.Bytes.bytesOf (.slice bo m d))))) w = _
  simp only [Sem.run_bind, run_bytes ha, run_bytes hb, Sem.run_pure, Result.andThen]
  rw [Lib.cmp_eq, show (⟨(Lib.bytesOf la).toArray⟩ : ByteArray).data.toList = Lib.bytesOf la from rfl, show (⟨(Lib.bytesOf lb).toArray⟩ : ByteArray).data.toList = Lib.bytesOf lb from rfl, cmp_ord la lb ha.wf hb.wf]
  rfl

set_option maxRecDepth 100000 in
theorem compare_any (ao bo : Option Addr) (n m c d : Nat) (la lb : List Int) (w : World) (ha : Sl w ao n c la) (hb : Sl w bo m d lb) :
    Calls Tryd.prog 41 #[.slice ao n c, .slice bo m d] w fun e w' => e = .returned (.int .i64 (ordL la lb)) ∧ w' = w := by
  have hr := run_cmp ha hb
  clear ha hb
  go_enter Tryd.func41, Tryd.ntmps41
  go_wp2
  rw [run_callFunc_extern Tryd.func65 (by kernel_rfl) (by kernel_rfl) (by kernel_rfl) (e := Extern.BytealgCompare.compare) (by kernel_rfl), hr]
  simp only [Result.andThen]
  rw [Oper.upon_value]
  go_wp2
  go_ret
  exact ⟨rfl, rfl⟩
set_option maxRecDepth 100000 in
theorem rise_any (ao bo : Option Addr) (n m c d : Nat) (la lb : List Int) (w : World) (ha : Sl w ao n c la) (hb : Sl w bo m d lb) :
    Calls Tryd.prog 32 #[.slice ao n c, .slice bo m d] w fun e w' => e = .returned (.bool (decide (kl la lb))) ∧ w' = w := by
  have hr := compare_any ao bo n m c d la lb w ha hb
  have hq : decide (kl la lb) = decide (ordL la lb < 0) := by
    have := ordL_three la lb
    refine decide_eq_decide.2 ?_
    unfold kl
    omega
  rw [hq]
  clear ha hb hq
  generalize ordL la lb = x at *
  go_enter Tryd.func32, Tryd.ntmps32
  go_wp2_with (go_at_call 41; refine same_call hr ?_)
  go_ret
  exact ⟨rfl, rfl⟩
end Go.Proofs.YtdmpbdppdcaabaaDoor
