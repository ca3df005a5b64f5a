/- The row by use, whole: a list of links, each with those beside it. -/
import Derived.Test.YtmelhpghpcpoiabCa
namespace Go.Proofs.Ytmelhpghpcpoiab
open Go.RowKit Go.Maps

/-- A link or none. -/
def op : Option Nat → Value
  | none => .pointer none
  | some b => pt b
/-- A page that is held: its number, its bytes' block, dirty, how often pinned, its link's block, its bytes. -/
structure Fr where
  n : Nat
  g : Nat
  dt : Bool
  pins : Nat
  b : Nat
  l : List Int
def hd (fs : List Fr) (y : Option Nat) : Option Nat := match fs with | [] => y | f :: _ => some f.b
def lst (o : Option Nat) : List Fr → Option Nat
  | [] => o
  | f :: r => lst (some f.b) r
/-- A link's cells. -/
def lc (p : Nat) (f : Fr) (o y : Option Nat) : List Value := cL (f.n : Int) (.slice (some ⟨f.g, 0, none⟩) p p) f.dt (f.pins : Int) (op o) (op y)
/-- A stretch of the row, o the link ahead of it and y the one behind. -/
def sg (w : World) (p : Nat) (o : Option Nat) : List Fr → Option Nat → Prop
  | [], _ => True
  | f :: r, y => Hs w f.b (lc p f o (hd r y)) tL ∧ sg w p (some f.b) r y

set_option maxRecDepth 100000 in
theorem hd_app (A B : List Fr) (y : Option Nat) : hd (A ++ B) y = hd A (hd B y) := by cases A <;> rfl
set_option maxRecDepth 100000 in
theorem lst_app (o : Option Nat) (A B : List Fr) : lst o (A ++ B) = lst (lst o A) B := by
  induction A generalizing o with
  | nil => rfl
  | cons f r ih => exact ih _
set_option maxRecDepth 100000 in
theorem sg_app {w : World} {p : Nat} {o : Option Nat} (A B : List Fr) {y : Option Nat} : sg w p o (A ++ B) y ↔ sg w p o A (hd B y) ∧ sg w p (lst o A) B y := by
  induction A generalizing o with
  | nil => exact ⟨fun h => ⟨trivial, h⟩, fun h => h.2⟩
  | cons f r ih =>
    show (Hs w f.b (lc p f o (hd (r ++ B) y)) tL ∧ sg w p (some f.b) (r ++ B) y) ↔ (Hs w f.b (lc p f o (hd r (hd B y))) tL ∧ sg w p (some f.b) r (hd B y)) ∧ sg w p (lst (some f.b) r) B y
    rw [hd_app, ih, and_assoc]
set_option maxRecDepth 100000 in
theorem sg_stay {w u : World} {p : Nat} {o : Option Nat} {A : List Fr} {y : Option Nat} (h : sg w p o A y) (hb : ∀ f ∈ A, u.heap[f.b]? = w.heap[f.b]?) : sg u p o A y := by
  induction A generalizing o with
  | nil => trivial
  | cons f r ih => exact ⟨(hb f (List.mem_cons_self ..)).trans h.1, ih h.2 fun x hx => hb x (List.mem_cons_of_mem _ hx)⟩
set_option maxRecDepth 100000 in
theorem sg_mem {w : World} {p : Nat} {o : Option Nat} {A : List Fr} {y : Option Nat} (h : sg w p o A y) {f : Fr} (hf : f ∈ A) : ∃ o' y', Hs w f.b (lc p f o' y') tL := by
  induction A generalizing o with
  | nil => cases hf
  | cons x r ih =>
    rcases List.mem_cons.1 hf with rfl | hf
    · exact ⟨_, _, h.1⟩
    · exact ih h.2 hf
set_option maxRecDepth 100000 in
theorem heap_ne {w : World} {k b i : Nat} (h : k ≠ b) (v : Value) : (w.setCell ⟨b, i, none⟩ v).heap[k]? = w.heap[k]? := Below.heap_setCell _ _ _ _ h
set_option maxRecDepth 100000 in
/-- What stands behind a stretch is told to its last link. -/
theorem sg_setY {w : World} {p : Nat} {o : Option Nat} {A : List Fr} {x : Fr} {y : Option Nat} (h : sg w p o (A ++ [x]) y) (hA : ∀ f ∈ A, f.b ≠ x.b) (y' : Option Nat) : sg (w.setCell ⟨x.b, 5, none⟩ (op y')) p o (A ++ [x]) y' := by
  rw [sg_app] at h ⊢
  exact ⟨sg_stay h.1 fun f hf => heap_ne (hA f hf) _, Hs.self h.2.1 _, trivial⟩
set_option maxRecDepth 100000 in
/-- What stands ahead of a stretch is told to its first link. -/
theorem sg_setO {w : World} {p : Nat} {o : Option Nat} {B : List Fr} {x : Fr} {y : Option Nat} (h : sg w p o (x :: B) y) (hB : ∀ f ∈ B, f.b ≠ x.b) (o' : Option Nat) : sg (w.setCell ⟨x.b, 4, none⟩ (op o')) p o' (x :: B) y :=
  ⟨Hs.self h.1 _, sg_stay h.2 fun f hf => heap_ne (hB f hf) _⟩

/-- The world behind add. -/
def addW (w : World) (c L : Nat) (oy : Option Nat) : World :=
  ((match oy with | none => (w.setCell ⟨L, 4, none⟩ (op oy)).setCell ⟨c, 3, none⟩ (pt L) | some x => (w.setCell ⟨L, 4, none⟩ (op oy)).setCell ⟨x, 5, none⟩ (pt L))).setCell ⟨c, 4, none⟩ (pt L)
set_option maxRecDepth 100000 in
theorem add_any (w : World) (c L a : Nat) (fr h mi ev : Int) (m : Nat) (o : Value) (oy : Option Nat) (n : Int) (b : Value) (dt : Bool) (pins : Int) (lo ly : Value) (hc : Hs w c (cC a fr m o (op oy) h mi ev) tC)
    (hl : Hs w L (cL n b dt pins lo ly) tL) (hne : c ≠ L) (hx : ∀ x, oy = some x → x ≠ L ∧ x ≠ c ∧ ∃ n' b' dt' pins' o' y', Hs w x (cL n' b' dt' pins' o' y') tL) :
    Calls Try.prog 33 #[.pointer (some ⟨c, 3, none⟩), pt L] w fun e u => e = .returned (.tuple #[]) ∧ u = addW w c L oy := by
  have c3 : w.cell? ⟨c, 3, none⟩ = some o := hc.cell 3
  have c4 : w.cell? ⟨c, 4, none⟩ = some (op oy) := hc.cell 4
  have l4 : w.cell? ⟨L, 4, none⟩ = some lo := hl.cell 4
  have f3 := hc.free 3
  have f4 := hc.free 4
  have g4 := hl.free 4
  have hne' : L ≠ c := fun e => hne e.symm
  cases oy with
  | none =>
    unfold op at c4
    clear hc hl hx
    go_enter Try.func33, Try.ntmps33
    go_wp2
    go_end0
    exact ⟨rfl, rfl⟩
  | some x =>
    obtain ⟨x1, x2, n', b', dt', pins', o', y', hx'⟩ := hx x rfl
    have z5 : w.cell? ⟨x, 5, none⟩ = some y' := hx'.cell 5
    have e5 := hx'.free 5
    have x1' : L ≠ x := fun e => x1 e.symm
    have x2' : c ≠ x := fun e => x2 e.symm
    unfold op at c4
    clear hc hl hx hx'
    go_enter Try.func33, Try.ntmps33
    go_wp2
    go_end0
    exact ⟨rfl, rfl⟩
/-- The world behind remove. -/
def remW (w : World) (c L : Nat) (oo oy : Option Nat) : World :=
  let w1 := match oo with | none => w.setCell ⟨c, 3, none⟩ (op oy) | some x => w.setCell ⟨x, 5, none⟩ (op oy)
  let w2 := match oy with | none => w1.setCell ⟨c, 4, none⟩ (op oo) | some x => w1.setCell ⟨x, 4, none⟩ (op oo)
  (w2.setCell ⟨L, 4, none⟩ (.pointer none)).setCell ⟨L, 5, none⟩ (.pointer none)
set_option maxRecDepth 100000 in
set_option maxHeartbeats 1000000 in
theorem remove_any (w : World) (c L a : Nat) (fr h mi ev : Int) (m : Nat) (o y : Value) (oo oy : Option Nat) (n : Int) (b : Value) (dt : Bool) (pins : Int) (hc : Hs w c (cC a fr m o y h mi ev) tC)
    (hl : Hs w L (cL n b dt pins (op oo) (op oy)) tL) (hne : c ≠ L) (hx : ∀ x, oo = some x → x ≠ L ∧ x ≠ c ∧ ∃ n' b' dt' pins' o' y', Hs w x (cL n' b' dt' pins' o' y') tL)
    (hy : ∀ x, oy = some x → x ≠ L ∧ x ≠ c ∧ ∃ n' b' dt' pins' o' y', Hs w x (cL n' b' dt' pins' o' y') tL) (hxy : ∀ x, oo = some x → oy ≠ some x) :
    Calls Try.prog 34 #[.pointer (some ⟨c, 3, none⟩), pt L] w fun e u => e = .returned (.tuple #[]) ∧ ∃ q, u = (remW w c L oo oy).drewN q := by
  have c3 : w.cell? ⟨c, 3, none⟩ = some o := hc.cell 3
  have c4 : w.cell? ⟨c, 4, none⟩ = some y := hc.cell 4
  have l4 : w.cell? ⟨L, 4, none⟩ = some (op oo) := hl.cell 4
  have l5 : w.cell? ⟨L, 5, none⟩ = some (op oy) := hl.cell 5
  have f3 := hc.free 3
  have f4 := hc.free 4
  have g4 := hl.free 4
  have g5 := hl.free 5
  have hne' : L ≠ c := fun e => hne e.symm
  have HX := hidden hx
  have HY := hidden hy
  have HXY := hidden hxy
  clear hc hl hx hy hxy
  cases oo with
  | none =>
    cases oy with
    | none =>
      unfold op at l4 l5
      go_enter Try.func34, Try.ntmps34
      go_wp2
      go_end0
      exact ⟨rfl, 0, rfl⟩
    | some x =>
      obtain ⟨x1, x2, n', b', dt', pins', o', y', hx'⟩ := HY.out x rfl
      have z4 : w.cell? ⟨x, 4, none⟩ = some o' := hx'.cell 4
      have e4 := hx'.free 4
      have x1' : L ≠ x := fun e => x1 e.symm
      have x2' : c ≠ x := fun e => x2 e.symm
      unfold op at l4 l5
      clear hx'
      go_enter Try.func34, Try.ntmps34
      go_wp2
      go_region
      go_wp2
      go_end0
      exact ⟨rfl, 1, rfl⟩
  | some v =>
    obtain ⟨v1, v2, n1, b1, dt1, pins1, o1, y1, hv⟩ := HX.out v rfl
    have t5 : w.cell? ⟨v, 5, none⟩ = some y1 := hv.cell 5
    have s5 := hv.free 5
    have v1' : L ≠ v := fun e => v1 e.symm
    have v2' : c ≠ v := fun e => v2 e.symm
    clear hv
    cases oy with
    | none =>
      unfold op at l4 l5
      go_enter Try.func34, Try.ntmps34
      go_wp2
      go_region
      go_wp2
      go_end0
      exact ⟨rfl, 1, rfl⟩
    | some x =>
      obtain ⟨x1, x2, n', b', dt', pins', o', y', hx'⟩ := HY.out x rfl
      have z4 : w.cell? ⟨x, 4, none⟩ = some o' := hx'.cell 4
      have e4 := hx'.free 4
      have x1' : L ≠ x := fun e => x1 e.symm
      have x2' : c ≠ x := fun e => x2 e.symm
      have hvx : ¬ v = x := fun e => HXY.out v rfl (by rw [e])
      have hxv : ¬ x = v := fun e => hvx e.symm
      unfold op at l4 l5
      clear hx'
      go_enter Try.func34, Try.ntmps34
      go_wp2
      go_region
      go_wp2
      go_region
      go_wp2
      go_end0
      exact ⟨rfl, 2, rfl⟩
end Go.Proofs.Ytmelhpghpcpoiab
