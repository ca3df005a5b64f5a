import Derived.Test.YtofafbmpbkjhnaaGreatDoorJ28
import Derived.Test.YtofafbmpbkjhnaaGreatDoorJ29
namespace Go.Proofs.YtofafbmpbkjhnaaGreatDoor
set_option maxRecDepth 100000
open Go.RowKit
structure PO (w : World) (B a : Nat) (k : Int) (n : Nat) (po : Option Addr) (pn pc : Nat) (vb vs : Value) (ws : Int) (P body : List Int) (st : List Nat) : Prop where
 row : QR w a k n (.slice po pn pc) vb vs ws
 pre : Sl w po pn pc P
 ob : OwnB w B vb body
 on : OwnN w B vs st
 far : Far po pn vb
 ha : B ≤ a
theorem PO.go {w v : World} {B a : Nat} {k : Int} {n : Nat} {po : Option Addr} {pn pc : Nat} {vb vs : Value} {ws : Int} {P body : List Int} {st : List Nat} (h : PO w B a k n po pn pc vb vs ws P body st) (hb : Below w.heap.size w v) : PO v B a k n po pn pc vb vs ws P body st :=
 ⟨zaf h.row hb, h.pre.on Lr hb, h.ob.on Lr hb, h.on.below hb, h.far, h.ha⟩
theorem PO.pg {w : World} {B a : Nat} {k : Int} {n : Nat} {po : Option Addr} {pn pc : Nat} {vb vs : Value} {ws : Int} {P body : List Int} {st : List Nat} (h : PO w B a k n po pn pc vb vs ws P body st) (hw : Wf body) (hb : body.length ≤ 140737488355328) (hs : st.length ≤ 140737488355328) :
  ∃ bo bc so sc, vb = .slice bo body.length bc ∧ vs = .slice so st.length sc ∧ PgQ w a k n po pn pc bo body.length bc so st.length sc ws P body st := by
 obtain ⟨bo, bc, rfl, hbs, _⟩ := h.ob.sl hw hb
 obtain ⟨so, sc, rfl, hss⟩ := h.on.sln hs
 exact ⟨bo, bc, so, sc, rfl, rfl, ⟨h.row, h.pre, hbs, hss⟩⟩
theorem equal7 (ao bo : Option Addr) (n m c d : Nat) (la lb : List Int) (w : World) (ha : Sl w ao n c la) (hb : Sl w bo m d lb) :
  Calls Tryz.prog 151 #[.slice ao n c, .slice bo m d] w fun e w' => e = .returned (.bool (decide (la = lb))) ∧ w' = w := by
 have h1 := zbo ha
 have h2 := zbo hb
 have h3 := str_beq ha.wf hb.wf
 clear ha hb
 go_enter Tryz.func151, Tryz.ntmps151
 go_wp2
 go_ret
 exact ⟨rfl, rfl⟩
theorem chk_rs {k p : Int} : ∀ {pr : Option (List Int)} {cs : List Cl}, chk k p pr cs = 0 → Rs cs
 | _, [], _ => List.Pairwise.nil
 | pr, e :: r, h => by
  unfold chk at h
  split at h
  ·split at h
   ·exact List.Pairwise.cons (fun d hd => chk_first h d hd) (chk_rs h)
   ·simp at h
  ·simp at h
theorem chk_fit {k : Int} {n : Nat} {pr : Option (List Int)} {cs : List Cl} (h : chk k n pr cs = 0) (hn : pw n) : ∀ c ∈ cs, c.fit := fun c hc => (chk_may h c hc).fit (by have := zak hn; omega)
end Go.Proofs.YtofafbmpbkjhnaaGreatDoor
