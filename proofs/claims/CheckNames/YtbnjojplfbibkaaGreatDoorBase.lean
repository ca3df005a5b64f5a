/- What the walks of this seat share: byte slices as lists of numbers, a few facts on types, and how a slice reads on behind calls that make memory. -/
import Derived.Test.YtbnjojplfbibkaaGreatDoorProg
import Derived.WalkKit
import Derived.OpenShut
import Derived.Laws.BytesArg
namespace Go.Proofs.YtbnjojplfbibkaaGreatDoor
open Go.RowKit

set_option maxRecDepth 100000 in
theorem info5 : (Tryz.prog.info? 5).map (fun i => (i.zero, i.size, i.bytes)) = some (some (.int .u8 0), 1, 1) := by kernel_rfl

set_option maxRecDepth 100000 in
/-- A contract that leaves the world, at a call. -/
theorem same_call {P : Program} {f : FuncId} {args : Array Value} {w : World} {v : Value} {Q : Ending → World → Prop} (h : Calls P f args w fun e w' => e = .returned v ∧ w' = w) (hQ : Q (.returned v) w) : Calls P f args w Q :=
  h.mono fun e w' ⟨he, hw⟩ => by subst he; rw [hw]; exact hQ

set_option maxRecDepth 100000 in
theorem ret_int {k : IntKind} {a b : Int} (h : a = b) : Ending.returned (.int k a) = .returned (.int k b) := by rw [h]
set_option maxRecDepth 100000 in
theorem hidden {p : Prop} (h : p) : Hid p := h

/-- Bytes as cells. -/
def By (l : List Int) : List Value := l.map (Value.int .u8)
/-- Each number is a byte. -/
def Wf (l : List Int) : Prop := ∀ x ∈ l, 0 ≤ x ∧ x ≤ 255

set_option maxRecDepth 100000 in
theorem By_append (a b : List Int) : By (a ++ b) = By a ++ By b := by simp [By]
set_option maxRecDepth 100000 in
theorem By_length (a : List Int) : (By a).length = a.length := by simp [By]
set_option maxRecDepth 100000 in
theorem By_one (b : List Int) : ∀ u ∈ By b, u.oneCell' = true := ints_oneCell .u8 b
set_option maxRecDepth 100000 in
theorem Wf.append {a b : List Int} (ha : Wf a) (hb : Wf b) : Wf (a ++ b) := by
  intro x hx
  rcases List.mem_append.1 hx with h | h
  · exact ha x h
  · exact hb x h
set_option maxRecDepth 100000 in
theorem Wf.getD {l : List Int} (h : Wf l) (k : Nat) : 0 ≤ l.getD k 0 ∧ l.getD k 0 ≤ 255 := by
  by_cases hk : k < l.length
  · have := h (l[k]) (List.getElem_mem hk)
    simpa [List.getD, List.getElem?_eq_getElem hk] using this
  · simp [List.getD, List.getElem?_eq_none (Nat.le_of_not_lt hk)]
set_option maxRecDepth 100000 in
theorem Wf.take {l : List Int} (h : Wf l) (k : Nat) : Wf (l.take k) := fun x hx => h x (List.mem_of_mem_take hx)
set_option maxRecDepth 100000 in
theorem Wf.drop {l : List Int} (h : Wf l) (k : Nat) : Wf (l.drop k) := fun x hx => h x (List.mem_of_mem_drop hx)
set_option maxRecDepth 100000 in
theorem Wf.nil : Wf [] := fun x hx => by cases hx
set_option maxRecDepth 100000 in
theorem Wf.cons {x : Int} {l : List Int} (hx : 0 ≤ x ∧ x ≤ 255) (h : Wf l) : Wf (x :: l) := by
  intro y hy
  rcases List.mem_cons.1 hy with e | e
  · subst e; exact hx
  · exact h y e

/-- THE SLICE VALUE '.slice ao n cap' READS AS THE BYTES l. -/
structure Sl (w : World) (ao : Option Addr) (n cap : Nat) (l : List Int) : Prop where
  hlen : l.length = n
  hcap : n ≤ cap
  hroom : n ≤ 140737488355328
  wf : Wf l
  hnil : ao = none → cap = 0
  hat : n = 0 ∨ ∃ b off, ao = some ⟨b, off, none⟩ ∧ b < w.heap.size ∧ ∀ i, i < n → w.cell? ⟨b, off + i, none⟩ = some (.int .u8 (l.getD i 0))

set_option maxRecDepth 100000 in
theorem Sl.on {w w' : World} {ao : Option Addr} {n cap : Nat} {l : List Int} (h : Sl w ao n cap l) {B : Nat} (hB : w.heap.size ≤ B) (hb : Below B w w') : Sl w' ao n cap l := by
  refine ⟨h.hlen, h.hcap, h.hroom, h.wf, h.hnil, ?_⟩
  rcases h.hat with h0 | ⟨b, off, e, hlt, hc⟩
  · exact .inl h0
  · exact .inr ⟨b, off, e, Nat.lt_of_lt_of_le hlt hb.size, fun i hi => (hb.cell (p := ⟨b, off + i, none⟩) (Nat.lt_of_lt_of_le hlt hB)).trans (hc i hi)⟩

/-- THE SLICE VALUE v OWNS THE BYTES l, in a block from B on. -/
def OwnB (w : World) (B : Nat) (v : Value) (l : List Int) : Prop := w.ownsRow B 5 1 v l.length (By l)
set_option maxRecDepth 100000 in
theorem OwnB.nil (w : World) (B : Nat) : OwnB w B (.slice none 0 0) [] := World.ownsRow_nil w B 5 1
set_option maxRecDepth 100000 in
theorem OwnB.alloc {w : World} {B : Nat} {v : Value} {l : List Int} (h : OwnB w B v l) (o : Obj) : OwnB (w.alloc o) B v l := World.ownsRow.alloc h o
set_option maxRecDepth 100000 in
theorem OwnB.on {w w' : World} {B C : Nat} {v : Value} {l : List Int} (h : OwnB w B v l) (hC : w.heap.size ≤ C) (hb : Below C w w') : OwnB w' B v l := by
  refine World.ownsRow.kept (row := none) h ⟨hb.os, hb.tape, hb.output, hb.size, fun k hk _ => hb.block k (by omega)⟩ ?_
  cases hv : v.ownBlock with
  | none => exact .inl rfl
  | some k => exact .inr (by simp)

set_option maxRecDepth 100000 in
/-- What is owned reads as its bytes. -/
theorem OwnB.sl {w : World} {B : Nat} {v : Value} {l : List Int} (h' : OwnB w B v l) (hw : Wf l) (hn : l.length ≤ 140737488355328) :
    ∃ ao cap, v = .slice ao l.length cap ∧ Sl w ao l.length cap l ∧ ∀ a, ao = some a → B ≤ a.block := by
  obtain ⟨n, hl⟩ : ∃ n, l.length = n := ⟨_, rfl⟩
  have h : w.ownsRow B 5 1 v n (By l) := by rw [← hl]; exact h'
  rw [hl] at hn ⊢
  rcases h.2 with ⟨rfl, rfl⟩ | ⟨g, cap, cur, rfl, hg, hh, hnc, hm, hs, ht⟩
  · exact ⟨none, 0, rfl, ⟨hl, Nat.le_refl _, by omega, hw, fun _ => rfl, .inl rfl⟩, fun a h => by cases h⟩
  · refine ⟨some ⟨g, 0, none⟩, cap, rfl, ⟨hl, hnc, hn, hw, (by intro h; cases h), .inr ⟨g, 0, rfl, ?_, ?_⟩⟩, fun a h => by cases h; exact hg⟩
    · rcases Nat.lt_or_ge g w.heap.size with hx | hx
      · exact hx
      · rw [Array.getElem?_eq_none hx] at hh; cases hh
    · intro i hi
      have := h.cellAt i (by omega)
      simp only [Nat.zero_add]
      rw [this]
      simp [By, List.getD, List.getElem?_eq_getElem (show i < l.length by omega)]

set_option maxRecDepth 100000 in
theorem getElem?_By (l : List Int) (j : Nat) (u : Value) (h : (By l)[j]? = some u) : j < l.length ∧ u = .int .u8 (l.getD j 0) := by
  have hj : j < l.length := by
    have := (List.getElem?_eq_some_iff.1 h).1
    simpa [By] using this
  refine ⟨hj, ?_⟩
  simp [By, List.getElem?_eq_getElem hj] at h
  simp [List.getD, List.getElem?_eq_getElem hj, ← h]

set_option maxRecDepth 100000 in
theorem own_below {w w' : World} {B e size n : Nat} {v : Value} {xs : List Value} (h : w.ownsRow B e size v n xs) (hB : B ≤ w.heap.size) (hg : w.grownBy w' v.ownBlock) : Below B w w' :=
  (Below.refl B w).grown hg hB fun k hk => (h.lt k hk).1

set_option maxRecDepth 100000 in
/-- 'append(out, bytes..)', out nil or the call's own. -/
theorem app_bytes {ops : Array Oper} {rest : List Oper} {o : Oper} {a : Act} {Q : Exit → Act → World → Prop} (w : World) (hgd : o.guard = none) (s x : Operand)
    (ho : o.op = .call { callee := .builtin .append, args := #[s, x], argTypes := #[28, 28] }) (B : Nat) (l : List Int) (v : Value) (hs : a.eval s = v)
    (hown : OwnB w B v l) (ad : Addr) (m c : Nat) (news : List Int) (hx : a.eval x = .slice (some ad) m c) (hl : news.length = m)
    (hnews : ∀ j, j < m → w.cell? (ad.add j) = some (.int .u8 (news.getD j 0))) (hb : l.length + m ≤ 140737488355328) (hbase : B ≤ w.heap.size)
    (h : ∀ v' w', OwnB w' B v' (l ++ news) → Below B w w' → wpList Tryz.prog ops Q rest (a.put o.dst v') w') : wpList Tryz.prog ops Q (o :: rest) a w := by
  obtain ⟨i0, hi, hz0, hz1, hz2⟩ := info_parts info5
  refine wpList_append_own w hgd s x 28 ho B 5 i0 (.int .u8 0) 1 1 Tryz.underlying28 hi hz0 hz1 hz2 rfl (by decide) v l.length (By l) hs hown ad m c (By news) hx (by simp [By, hl])
    (fun j u hu => by obtain ⟨h1, h2⟩ := getElem?_By news j u hu; rw [h2]; exact hnews j (by omega)) (By_one news) (by unfold maxLen; omega) (by omega) hbase ?_
  intro v' w' h1 h2 _
  refine h v' w' ?_ (own_below hown hbase h2)
  unfold OwnB
  rw [By_append, List.length_append, hl]
  exact h1

set_option maxRecDepth 100000 in
theorem own_set {w : World} {B g k n cap : Nat} {l : List Int} {x : Int} (h : OwnB w B (.slice (some ⟨g, 0, none⟩) n cap) l) (hn : l.length = n) (hk : k < n) :
    OwnB (w.setCell ⟨g, k, none⟩ (.int .u8 x)) B (.slice (some ⟨g, 0, none⟩) n cap) (l.set k x) := by
  subst hn
  unfold OwnB at *
  have := (World.ownsRow.stored h k (.int .u8 x)).1
  simp only [List.length_set]
  rw [show By (l.set k x) = (By l).set k (.int .u8 x) from by simp [By, List.map_set]]
  exact this

set_option maxRecDepth 100000 in
theorem own_cell {w : World} {B g k n cap : Nat} {l : List Int} (h : OwnB w B (.slice (some ⟨g, 0, none⟩) n cap) l) (hn : l.length = n) (hk : k < n) : w.cell? ⟨g, k, none⟩ = some (.int .u8 (l.getD k 0)) := by
  subst hn
  unfold OwnB at h
  rw [World.ownsRow.cellAt h k (by omega)]
  simp [By, List.getD, List.getElem?_eq_getElem hk]
set_option maxRecDepth 100000 in
theorem own_free {w : World} {B g n cap : Nat} {l : List Int} (h : OwnB w B (.slice (some ⟨g, 0, none⟩) n cap) l) (hn : l.length = n) (k : Nat) : w.frozen? ⟨g, k, none⟩ = false := by
  subst hn
  exact World.ownsRow.frozenAt h k

set_option maxRecDepth 100000 in
theorem one_cell (w : World) (x : Int) : ∀ j, j < 1 → (w.alloc (.cells #[.int .u8 x] 5)).cell? ((⟨w.heap.size, 0, none⟩ : Addr).add j) = some (.int .u8 ([x].getD j 0)) := by
  intro j hj
  obtain rfl : j = 0 := by omega
  simp [Addr.add]

end Go.Proofs.YtbnjojplfbibkaaGreatDoor
