import Derived.Test.YtofafbmpbkjhnaaGreatDoorJ33
namespace Go.Proofs.YtofafbmpbkjhnaaGreatDoor
set_option maxRecDepth 100000
open Go.RowKit
theorem PO.pgq {w : World} {B a : Nat} {k : Int} {n : Nat} {po : Option Addr} {pn pc : Nat} {bo : Option Addr} {bn bc : Nat} {so : Option Addr} {sn sc : Nat} {ws : Int} {P body : List Int} {st : List Nat} (h : PO w B a k n po pn pc (.slice bo bn bc) (.slice so sn sc) ws P body st) (hw : Wf body) (hb : body.length ≤ 140737488355328) (hs : st.length ≤ 140737488355328) : PgQ w a k n po pn pc bo bn bc so sn sc ws P body st := by
 obtain ⟨bo', bc', so', sc', e1, e2, hp⟩ := h.pg hw hb hs
 injection e1 with i1 i2 i3
 injection e2 with i4 i5 i6
 subst i1 i3 i4 i6
 rw [← i2, ← i5] at hp
 exact hp
end Go.Proofs.YtofafbmpbkjhnaaGreatDoor
