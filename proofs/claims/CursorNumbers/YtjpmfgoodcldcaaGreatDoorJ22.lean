import Derived.Test.YtjpmfgoodcldcaaGreatDoorJ21
namespace Go.Proofs.YtjpmfgoodcldcaaGreatDoor
set_option maxRecDepth 100000
open Go.RowKit
structure Po (w : World) (B a : Nat) (k : Int) (n : Nat) (vb vs : Value) (cs : List Cl) : Prop where
 row : PR w a k n vb vs
 body : OwnB w B vb (bdy cs)
 starts : OwnN w B vs (sts 0 cs)
theorem OwnN.shape {w : World} {B : Nat} {v : Value} {l : List Nat} (h : OwnN w B v l) : ∃ ao cap, v = .slice ao l.length cap := by
 unfold OwnN at h
 rcases h.2 with ⟨rfl, h0⟩ | ⟨g, cap, cur, rfl, _⟩
 ·exact ⟨none, 0, by rw [h0]⟩
 ·exact ⟨_, cap, rfl⟩
theorem OwnN.sl2 {w : World} {B : Nat} {ao : Option Addr} {n c : Nat} {l : List Nat} (h : OwnN w B (.slice ao n c) l) (hn : l.length ≤ 140737488355328) : SlN w ao n c l ∧ l.length = n := by
 obtain ⟨x, y, hxy, hsl⟩ := h.sln hn
 injection hxy with e1 e2 e3
 subst e1
 subst e3
 rw [e2]
 exact ⟨hsl, rfl⟩
theorem Po.on {w w' : World} {B a : Nat} {k : Int} {n : Nat} {vb vs : Value} {cs : List Cl} (h : Po w B a k n vb vs cs) (hb : Below w.heap.size w w') : Po w' B a k n vb vs cs := ⟨box_on h.row hb, h.body.on (Nat.le_refl _) hb, h.starts.below hb⟩
theorem Po.pg {w : World} {B a : Nat} {k : Int} {n : Nat} {bo : Option Addr} {bn bc : Nat} {so : Option Addr} {sn sc : Nat} {cs : List Cl} (h : Po w B a k n (.slice bo bn bc) (.slice so sn sc) cs) (hw : ∀ c ∈ cs, c.Wf) (hl : szN cs ≤ 65536) : PgAt w a k n bo bn bc so sn sc cs := by
 have hz := szN_eq cs
 refine ⟨h.row, ?_, (h.starts.sl2 (by rw [sts_length]; omega)).1⟩
 obtain ⟨x, y, hxy, hsl, _⟩ := h.body.sl (bdy_wf hw) (by omega)
 injection hxy with e1 e2 e3
 subst e1
 subst e3
 rw [e2]
 exact hsl
def hasP (x : Int) (n : Nat) : Prop := 0 ≤ x ∧ x < (n : Int)
theorem has_any (w : World) (a : Nat) (k : Int) (n : Nat) (vb : Value) (so : Option Addr) (sn sc : Nat) (h : PR w a k n vb (.slice so sn sc)) (x : Int) (b : Bool) (hb : b = true ↔ hasP x sn) :
  Calls Tryz.prog 185 #[.pointer (some ⟨a, 0, none⟩), .int .i64 x] w fun e w' => e = .returned (.bool b) ∧ w' = w := by
 have HL := hidden (lenR_any w a k n vb so sn sc h)
 clear h
 by_cases h0 : 0 ≤ x
 ·by_cases h1 : x < (sn : Int)
  ·have hbt : b = true := hb.2 ⟨h0, h1⟩
   subst hbt
   clear hb
   go_enter Tryz.func185, Tryz.ntmps185
   go_wp2_with (first | (go_at_call 80; refine same_call HL.out ?_))
   go_ret
   exact ⟨ret_bool (by simp), rfl⟩
  ·have hbt : b = false := by
    cases b with
    | false => rfl
    | true => exact absurd (hb.1 rfl).2 h1
   subst hbt
   clear hb
   go_enter Tryz.func185, Tryz.ntmps185
   go_wp2_with (first | (go_at_call 80; refine same_call HL.out ?_))
   go_ret
   exact ⟨ret_bool (by simp; omega), rfl⟩
 ·have hbt : b = false := by
   cases b with
   | false => rfl
   | true => exact absurd (hb.1 rfl).1 h0
  subst hbt
  have h0' : x < 0 := by omega
  clear hb
  go_enter Tryz.func185, Tryz.ntmps185
  go_wp2_with (first | (go_at_call 80; refine same_call HL.out ?_))
  go_ret
  exact ⟨ret_bool (by simp), rfl⟩
def remE (cs : List Cl) (x : Int) : Int := if 0 ≤ x ∧ x < (cs.length : Int) then 0 else 64
end Go.Proofs.YtjpmfgoodcldcaaGreatDoor
