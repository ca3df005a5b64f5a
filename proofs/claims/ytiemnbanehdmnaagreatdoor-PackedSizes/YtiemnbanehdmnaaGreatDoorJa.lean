/- What the walks of this seat share: byte slices as lists of numbers, a few facts on types, and how a slice reads on behind calls that make memory. -/
import Derived.Test.YtiemnbanehdmnaaGreatDoorProg
import Derived.WalkKit
import Derived.OpenShut
import Derived.Laws.BytesArg
import Derived.Laws.CopyOwn
import Derived.Deep.QuietTactic
import Derived.BigQuiet
import Derived.WalkSmall
namespace Go.Proofs.YtiemnbanehdmnaaGreatDoor
open Go.RowKit

set_option maxRecDepth 100000 in
theorem info5 : (Tryz.prog.info? 5).map (fun i => (i.zero, i.size, i.bytes)) = some (some (.int .u8 0), 1, 1) := by kernel_rfl

set_option maxRecDepth 100000 in
/-- A contract that leaves the world, at a call. -/
theorem same_call {P : Program} {f : FuncId} {args : Array Value} {w : World} {v : Value} {Q : Ending → World → Prop} (h : Calls P f args w fun e w' => e = .returned v ∧ w' = w) (hQ : Q (.returned v) w) : Calls P f args w Q :=
  h.mono fun e w' ⟨he, hw⟩ => by subst he; rw [hw]; exact hQ

set_option maxRecDepth 100000 in
theorem ret_int {k : IntKind} {a b : Int} (h : a = b) : Ending.returned (.int k a) = .returned (.int k b) := by rw [h]
set_option maxRecDepth 100000 in
theorem hidden {p : Prop} (h : p) : Hid p := h

/-- Bytes as cells. -/
def By (l : List Int) : List Value := l.map (Value.int .u8)
/-- Each number is a byte. -/
def Wf (l : List Int) : Prop := ∀ x ∈ l, 0 ≤ x ∧ x ≤ 255

set_option maxRecDepth 100000 in
theorem By_append (a b : List Int) : By (a ++ b) = By a ++ By b := by simp [By]
set_option maxRecDepth 100000 in
theorem By_length (a : List Int) : (By a).length = a.length := by simp [By]
set_option maxRecDepth 100000 in
theorem By_one (b : List Int) : ∀ u ∈ By b, u.oneCell' = true := ints_oneCell .u8 b
set_option maxRecDepth 100000 in
theorem Wf.append {a b : List Int} (ha : Wf a) (hb : Wf b) : Wf (a ++ b) := by
  intro x hx
  rcases List.mem_append.1 hx with h | h
  · exact ha x h
  · exact hb x h
set_option maxRecDepth 100000 in
theorem Wf.getD {l : List Int} (h : Wf l) (k : Nat) : 0 ≤ l.getD k 0 ∧ l.getD k 0 ≤ 255 := by
  by_cases hk : k < l.length
  · have := h (l[k]) (List.getElem_mem hk)
    simpa [List.getD, List.getElem?_eq_getElem hk] using this
  · simp [List.getD, List.getElem?_eq_none (Nat.le_of_not_lt hk)]
set_option maxRecDepth 100000 in
theorem Wf.take {l : List Int} (h : Wf l) (k : Nat) : Wf (l.take k) := fun x hx => h x (List.mem_of_mem_take hx)
set_option maxRecDepth 100000 in
theorem Wf.drop {l : List Int} (h : Wf l) (k : Nat) : Wf (l.drop k) := fun x hx => h x (List.mem_of_mem_drop hx)
set_option maxRecDepth 100000 in
theorem Wf.nil : Wf [] := fun x hx => by cases hx
set_option maxRecDepth 100000 in
theorem Wf.cons {x : Int} {l : List Int} (hx : 0 ≤ x ∧ x ≤ 255) (h : Wf l) : Wf (x :: l) := by
  intro y hy
  rcases List.mem_cons.1 hy with e | e
  · subst e; exact hx
  · exact h y e

/-- THE SLICE VALUE '.slice ao n cap' READS AS THE BYTES l. -/
structure Sl (w : World) (ao : Option Addr) (n cap : Nat) (l : List Int) : Prop where
  hlen : l.length = n
  hcap : n ≤ cap
  hroom : n ≤ 140737488355328
  wf : Wf l
  hnil : ao = none → cap = 0
  hat : n = 0 ∨ ∃ b off, ao = some ⟨b, off, none⟩ ∧ b < w.heap.size ∧ ∀ i, i < n → w.cell? ⟨b, off + i, none⟩ = some (.int .u8 (l.getD i 0))

set_option maxRecDepth 100000 in
theorem Sl.on {w w' : World} {ao : Option Addr} {n cap : Nat} {l : List Int} (h : Sl w ao n cap l) {B : Nat} (hB : w.heap.size ≤ B) (hb : Below B w w') : Sl w' ao n cap l := by
  refine ⟨h.hlen, h.hcap, h.hroom, h.wf, h.hnil, ?_⟩
  rcases h.hat with h0 | ⟨b, off, e, hlt, hc⟩
  · exact .inl h0
  · exact .inr ⟨b, off, e, Nat.lt_of_lt_of_le hlt hb.size, fun i hi => (hb.cell (p := ⟨b, off + i, none⟩) (Nat.lt_of_lt_of_le hlt hB)).trans (hc i hi)⟩

/-- THE SLICE VALUE v OWNS THE BYTES l, in a block from B on. -/
def OwnB (w : World) (B : Nat) (v : Value) (l : List Int) : Prop := w.ownsRow B 5 1 v l.length (By l)
set_option maxRecDepth 100000 in
theorem OwnB.nil (w : World) (B : Nat) : OwnB w B (.slice none 0 0) [] := World.ownsRow_nil w B 5 1
set_option maxRecDepth 100000 in
theorem OwnB.alloc {w : World} {B : Nat} {v : Value} {l : List Int} (h : OwnB w B v l) (o : Obj) : OwnB (w.alloc o) B v l := World.ownsRow.alloc h o
set_option maxRecDepth 100000 in
theorem OwnB.on {w w' : World} {B C : Nat} {v : Value} {l : List Int} (h : OwnB w B v l) (hC : w.heap.size ≤ C) (hb : Below C w w') : OwnB w' B v l := by
  refine World.ownsRow.kept (row := none) h ⟨hb.os, hb.tape, hb.output, hb.size, fun k hk _ => hb.block k (by omega)⟩ ?_
  cases hv : v.ownBlock with
  | none => exact .inl rfl
  | some k => exact .inr (by simp)

set_option maxRecDepth 100000 in
/-- What is owned reads as its bytes. -/
theorem OwnB.sl {w : World} {B : Nat} {v : Value} {l : List Int} (h' : OwnB w B v l) (hw : Wf l) (hn : l.length ≤ 140737488355328) :
    ∃ ao cap, v = .slice ao l.length cap ∧ Sl w ao l.length cap l ∧ ∀ a, ao = some a → B ≤ a.block := by
  obtain ⟨n, hl⟩ : ∃ n, l.length = n := ⟨_, rfl⟩
  have h : w.ownsRow B 5 1 v n (By l) := by rw [← hl]; exact h'
  rw [hl] at hn ⊢
  rcases h.2 with ⟨rfl, rfl⟩ | ⟨g, cap, cur, rfl, hg, hh, hnc, hm, hs, ht⟩
  · exact ⟨none, 0, rfl, ⟨hl, Nat.le_refl _, by omega, hw, fun _ => rfl, .inl rfl⟩, fun a h => by cases h⟩
  · refine ⟨some ⟨g, 0, none⟩, cap, rfl, ⟨hl, hnc, hn, hw, (by intro h; cases h), .inr ⟨g, 0, rfl, ?_, ?_⟩⟩, fun a h => by cases h; exact hg⟩
    · rcases Nat.lt_or_ge g w.heap.size with hx | hx
      · exact hx
      · rw [Array.getElem?_eq_none hx] at hh; cases hh
    · intro i hi
      have := h.cellAt i (by omega)
      simp only [Nat.zero_add]
      rw [this]
      simp [By, List.getD, List.getElem?_eq_getElem (show i < l.length by omega)]

set_option maxRecDepth 100000 in
theorem getElem?_By (l : List Int) (j : Nat) (u : Value) (h : (By l)[j]? = some u) : j < l.length ∧ u = .int .u8 (l.getD j 0) := by
  have hj : j < l.length := by
    have := (List.getElem?_eq_some_iff.1 h).1
    simpa [By] using this
  refine ⟨hj, ?_⟩
  simp [By, List.getElem?_eq_getElem hj] at h
  simp [List.getD, List.getElem?_eq_getElem hj, ← h]

set_option maxRecDepth 100000 in
theorem own_below {w w' : World} {B e size n : Nat} {v : Value} {xs : List Value} (h : w.ownsRow B e size v n xs) (hB : B ≤ w.heap.size) (hg : w.grownBy w' v.ownBlock) : Below B w w' :=
  (Below.refl B w).grown hg hB fun k hk => (h.lt k hk).1

set_option maxRecDepth 100000 in
/-- 'append(out, bytes..)', out nil or the call's own. -/
theorem app_bytes {ops : Array Oper} {rest : List Oper} {o : Oper} {a : Act} {Q : Exit → Act → World → Prop} (w : World) (hgd : o.guard = none) (s x : Operand)
    (ho : o.op = .call { callee := .builtin .append, args := #[s, x], argTypes := #[29, 29] }) (B : Nat) (l : List Int) (v : Value) (hs : a.eval s = v)
    (hown : OwnB w B v l) (ad : Addr) (m c : Nat) (news : List Int) (hx : a.eval x = .slice (some ad) m c) (hl : news.length = m)
    (hnews : ∀ j, j < m → w.cell? (ad.add j) = some (.int .u8 (news.getD j 0))) (hb : l.length + m ≤ 140737488355328) (hbase : B ≤ w.heap.size)
    (h : ∀ v' w', OwnB w' B v' (l ++ news) → Below B w w' → wpList Tryz.prog ops Q rest (a.put o.dst v') w') : wpList Tryz.prog ops Q (o :: rest) a w := by
  obtain ⟨i0, hi, hz0, hz1, hz2⟩ := info_parts info5
  refine wpList_append_own w hgd s x 29 ho B 5 i0 (.int .u8 0) 1 1 Tryz.underlying29 hi hz0 hz1 hz2 rfl (by decide) v l.length (By l) hs hown ad m c (By news) hx (by simp [By, hl])
    (fun j u hu => by obtain ⟨h1, h2⟩ := getElem?_By news j u hu; rw [h2]; exact hnews j (by omega)) (By_one news) (by unfold maxLen; omega) (by omega) hbase ?_
  intro v' w' h1 h2 _
  refine h v' w' ?_ (own_below hown hbase h2)
  unfold OwnB
  rw [By_append, List.length_append, hl]
  exact h1

set_option maxRecDepth 100000 in
theorem own_set {w : World} {B g k n cap : Nat} {l : List Int} {x : Int} (h : OwnB w B (.slice (some ⟨g, 0, none⟩) n cap) l) (hn : l.length = n) (hk : k < n) :
    OwnB (w.setCell ⟨g, k, none⟩ (.int .u8 x)) B (.slice (some ⟨g, 0, none⟩) n cap) (l.set k x) := by
  subst hn
  unfold OwnB at *
  have := (World.ownsRow.stored h k (.int .u8 x)).1
  simp only [List.length_set]
  rw [show By (l.set k x) = (By l).set k (.int .u8 x) from by simp [By, List.map_set]]
  exact this

set_option maxRecDepth 100000 in
theorem own_cell {w : World} {B g k n cap : Nat} {l : List Int} (h : OwnB w B (.slice (some ⟨g, 0, none⟩) n cap) l) (hn : l.length = n) (hk : k < n) : w.cell? ⟨g, k, none⟩ = some (.int .u8 (l.getD k 0)) := by
  subst hn
  unfold OwnB at h
  rw [World.ownsRow.cellAt h k (by omega)]
  simp [By, List.getD, List.getElem?_eq_getElem hk]
set_option maxRecDepth 100000 in
theorem own_free {w : World} {B g n cap : Nat} {l : List Int} (h : OwnB w B (.slice (some ⟨g, 0, none⟩) n cap) l) (hn : l.length = n) (k : Nat) : w.frozen? ⟨g, k, none⟩ = false := by
  subst hn
  exact World.ownsRow.frozenAt h k

set_option maxRecDepth 100000 in
theorem one_cell (w : World) (x : Int) : ∀ j, j < 1 → (w.alloc (.cells #[.int .u8 x] 5)).cell? ((⟨w.heap.size, 0, none⟩ : Addr).add j) = some (.int .u8 ([x].getD j 0)) := by
  intro j hj
  obtain rfl : j = 0 := by omega
  simp [Addr.add]

end Go.Proofs.YtiemnbanehdmnaaGreatDoor

/- isWidth and isPlace answer what their names say. -/

namespace Go.Proofs.YtiemnbanehdmnaaGreatDoor
open Go.RowKit

set_option maxRecDepth 100000 in
theorem isWidth_yes (x : Int) (w : World) (h1 : 1 ≤ x) (h2 : x ≤ 8) : Calls Tryz.prog 138 #[.int .i64 x] w fun e w' => e = .returned (.bool true) ∧ w' = w := by
  go_enter Tryz.func138, Tryz.ntmps138
  go_wp2
  go_ret
  exact ⟨rfl, rfl⟩
set_option maxRecDepth 100000 in
theorem isWidth_no (x : Int) (w : World) (h : x < 1 ∨ 8 < x) : Calls Tryz.prog 138 #[.int .i64 x] w fun e w' => e = .returned (.bool false) ∧ w' = w := by
  rcases h with h | h
  · go_enter Tryz.func138, Tryz.ntmps138
    go_wp2
    go_ret
    exact ⟨rfl, rfl⟩
  · have h' : 1 ≤ x := by omega
    have h8 : ¬ x ≤ 8 := by omega
    go_enter Tryz.func138, Tryz.ntmps138
    go_wp2
    go_ret
    exact ⟨rfl, rfl⟩
set_option maxRecDepth 100000 in
theorem isPlace_yes (ao : Option Addr) (n cap : Nat) (x : Int) (w : World) (h1 : 0 ≤ x) (h2 : x ≤ n) : Calls Tryz.prog 160 #[.slice ao n cap, .int .i64 x] w fun e w' => e = .returned (.bool true) ∧ w' = w := by
  go_enter Tryz.func160, Tryz.ntmps160
  go_wp2
  go_ret
  exact ⟨rfl, rfl⟩
set_option maxRecDepth 100000 in
theorem isPlace_no (ao : Option Addr) (n cap : Nat) (x : Int) (w : World) (h : x < 0 ∨ n < x) : Calls Tryz.prog 160 #[.slice ao n cap, .int .i64 x] w fun e w' => e = .returned (.bool false) ∧ w' = w := by
  rcases h with h | h
  · go_enter Tryz.func160, Tryz.ntmps160
    go_wp2
    go_ret
    exact ⟨rfl, rfl⟩
  · have h' : 0 ≤ x := by omega
    have hn : ¬ x ≤ (n : Int) := by omega
    go_enter Tryz.func160, Tryz.ntmps160
    go_wp2
    go_ret
    exact ⟨rfl, rfl⟩
end Go.Proofs.YtiemnbanehdmnaaGreatDoor

/- The plain mathematics: what the functions of package ink come to, on lists of numbers. -/

namespace Go.Proofs.YtiemnbanehdmnaaGreatDoor

def uBf : Nat → Int → List Int
  | 0, n => [n]
  | f + 1, n => if n < 128 then [n] else (n % 128 + 128) :: uBf f (n / 128)
/-- A number in groups of seven bits. -/
def uB (n : Int) : List Int := uBf 9 n
set_option maxRecDepth 100000 in
theorem uBf_length (f : Nat) : ∀ n, (uBf f n).length ≤ f + 1 ∧ 1 ≤ (uBf f n).length := by
  induction f with
  | zero => intro n; simp [uBf]
  | succ f ih =>
    intro n
    have := ih (n / 128)
    unfold uBf
    split <;> simp <;> omega
set_option maxRecDepth 100000 in
theorem uBf_more (f : Nat) : ∀ n, 0 ≤ n → n < 128 ^ (f + 1) → uBf (f + 1) n = uBf f n := by
  induction f with
  | zero => intro n h0 h; simp at h; simp [uBf, h]
  | succ f ih =>
    intro n h0 h
    have e := ih (n / 128) (by omega) (by rw [Int.pow_succ] at h; omega)
    rw [uBf]
    conv => rhs; rw [uBf]
    rw [e]
set_option maxRecDepth 100000 in
theorem uBf_wf (f : Nat) : ∀ n, 0 ≤ n → n < 128 ^ (f + 1) → Wf (uBf f n) := by
  induction f with
  | zero => intro n h0 h; simp at h; exact Wf.cons ⟨h0, by omega⟩ Wf.nil
  | succ f ih =>
    intro n h0 h
    have e := ih (n / 128) (by omega) (by rw [Int.pow_succ] at h; omega)
    unfold uBf
    split
    · exact Wf.cons (by omega) Wf.nil
    · exact Wf.cons (by omega) e
set_option maxRecDepth 100000 in
theorem uB_small {n : Int} (h : n < 128) : uB n = [n] := by simp [uB, uBf, h]
set_option maxRecDepth 100000 in
theorem uB_step {n : Int} (h : ¬ n < 128) (hn : n < 18446744073709551616) : uB n = (n % 128 + 128) :: uB (n / 128) := by
  unfold uB
  rw [uBf_more 8 (n / 128) (by omega) (by simp; omega)]
  rw [uBf, if_neg h]
set_option maxRecDepth 100000 in
theorem uB_wf {n : Int} (h0 : 0 ≤ n) (hn : n < 18446744073709551616) : Wf (uB n) := uBf_wf 9 n h0 (by simp; omega)
set_option maxRecDepth 100000 in
theorem uB_length (n : Int) : (uB n).length ≤ 10 ∧ 1 ≤ (uB n).length := uBf_length 9 n

set_option maxRecDepth 100000 in
theorem or128 (x : Int) : bits .or .u8 (x % 256) 128 = x % 128 + 128 := by
  rw [u8_or _ _ (by omega) (by omega) (by omega) (by omega)]
  have h : ∀ a : Fin 256, ((a.val ||| 128 : Nat)) = a.val % 128 + 128 := by decide +kernel
  have := h ⟨(x % 256).toNat, by omega⟩
  simp only at this
  rw [show (128 : Int).toNat = 128 from rfl, this]
  omega

/-- A number's lowest bytes, the highest first. -/
def fB : Nat → Int → List Int
  | 0, _ => []
  | j + 1, n => (n / 256 ^ j % 256) :: fB j n
set_option maxRecDepth 100000 in
theorem fB_length (j : Nat) (n : Int) : (fB j n).length = j := by
  induction j with
  | zero => rfl
  | succ j ih => simp [fB, ih]
set_option maxRecDepth 100000 in
theorem fB_wf (j : Nat) (n : Int) : Wf (fB j n) := by
  induction j with
  | zero => exact Wf.nil
  | succ j ih => exact Wf.cons (by omega) ih
set_option maxRecDepth 100000 in
theorem fB_set (width j : Nat) (n : Int) (h : j < width) :
    (List.replicate (width - j) (0 : Int) ++ fB j n).set (width - j - 1) (n / 256 ^ j % 256) = List.replicate (width - (j + 1)) 0 ++ fB (j + 1) n := by
  have e : width - j = (width - (j + 1)) + 1 := by omega
  rw [e]
  generalize width - (j + 1) = k
  rw [List.replicate_succ', List.append_assoc, List.set_append_right _ _ (by simp)]
  simp [fB]
set_option maxRecDepth 100000 in
theorem pow256 (n : Int) (j : Nat) : n / 256 ^ j / 256 = n / 256 ^ (j + 1) := by
  have h : (0 : Int) < 256 ^ j := Int.pow_pos (by omega)
  rw [Int.pow_succ, Int.ediv_ediv, if_neg (fun h' => by omega), Int.sub_zero]

/-- The number that bytes are, the highest first. -/
def rdB (l : List Int) : Int := l.foldl (fun n c => n * 256 + c) 0
set_option maxRecDepth 100000 in
theorem rdB_snoc (l : List Int) (c : Int) : rdB (l ++ [c]) = rdB l * 256 + c := by simp [rdB]
set_option maxRecDepth 100000 in
theorem rdB_from (l : List Int) (h : Wf l) : ∀ (acc : Int) (k : Nat), 0 ≤ acc → acc < 256 ^ k → 0 ≤ l.foldl (fun n c => n * 256 + c) acc ∧ l.foldl (fun n c => n * 256 + c) acc < 256 ^ (k + l.length) := by
  induction l with
  | nil => intro acc k h0 h1; exact ⟨h0, h1⟩
  | cons c l ih =>
    intro acc k h0 h1
    have hc := h c (by simp)
    have := ih (fun x hx => h x (by simp [hx])) (acc * 256 + c) (k + 1) (by omega) (by rw [Int.pow_succ]; omega)
    simp only [List.foldl_cons, List.length_cons]
    rw [show k + (l.length + 1) = k + 1 + l.length by omega]
    exact this
set_option maxRecDepth 100000 in
theorem rdB_bound (l : List Int) (h : Wf l) : 0 ≤ rdB l ∧ rdB l < 256 ^ l.length := by
  have := rdB_from l h 0 0 (by omega) (by simp)
  simpa [rdB] using this
set_option maxRecDepth 100000 in
theorem rdB_small (l : List Int) (h : Wf l) (k : Nat) (hk : k ≤ 7) (hl : l.length = k) : 0 ≤ rdB l ∧ rdB l ≤ 72057594037927935 := by
  have := rdB_bound l h
  rw [hl] at this
  have h2 : k = 0 ∨ k = 1 ∨ k = 2 ∨ k = 3 ∨ k = 4 ∨ k = 5 ∨ k = 6 ∨ k = 7 := by omega
  rcases h2 with rfl | rfl | rfl | rfl | rfl | rfl | rfl | rfl <;> simp at this <;> omega
set_option maxRecDepth 100000 in
theorem or_byte (x c : Int) (h0 : 0 ≤ x) (h1 : x ≤ 72057594037927935) (hc : 0 ≤ c ∧ c ≤ 255) : bits .or .u64 (x * 256) c = x * 256 + c := by
  rw [u64_or _ _ (by omega) (by omega) (by omega) (by omega)]
  have e1 : (x * 256).toNat = 2 ^ 8 * x.toNat := by omega
  have e2 : c.toNat < 2 ^ 8 := by omega
  rw [e1, ← Nat.two_pow_add_eq_or_of_lt e2]
  omega
set_option maxRecDepth 100000 in
theorem take_snoc (l : List Int) (k : Nat) (h : k < l.length) : l.take (k + 1) = l.take k ++ [l.getD k 0] := by
  rw [List.take_succ_eq_append_getElem h]
  simp [List.getD, List.getElem?_eq_getElem h]

/-- What ReadUint comes to, from the place p on: the number, the place, the error. -/
def rU (p : Int) : List Int → Nat → Int → Int × Int × Int
  | [], _, _ => (0, 0, 10)
  | c :: r, i, n => if i = 9 ∧ 1 < c then (0, 0, 12) else if 128 ≤ c then rU p r (i + 1) (n + (c - 128) * 128 ^ i) else if c = 0 ∧ 0 < i then (0, 0, 11) else (n + c * 128 ^ i, p + i + 1, 0)
set_option maxRecDepth 100000 in
theorem drop_cons (l : List Int) (k : Nat) (h : k < l.length) : l.drop k = l.getD k 0 :: l.drop (k + 1) := by
  rw [List.drop_eq_getElem_cons h]
  simp [List.getD, List.getElem?_eq_getElem h]
set_option maxRecDepth 100000 in
theorem andNot_lo (c : Int) (h0 : 0 ≤ c) (h : c < 128) : bits .andNot .u8 c 128 = c := by
  rw [u8_andNot _ _ (by omega) (by omega) (by omega) (by omega)]
  have h' : ∀ a : Fin 128, ((a.val &&& (255 - 128) : Nat)) = a.val := by decide +kernel
  have := h' ⟨c.toNat, by omega⟩
  simp only at this
  rw [show (128 : Int).toNat = 128 from rfl, this]
  omega
set_option maxRecDepth 100000 in
theorem andNot_hi (c : Int) (h0 : 128 ≤ c) (h : c ≤ 255) : bits .andNot .u8 c 128 = c - 128 := by
  rw [u8_andNot _ _ (by omega) (by omega) (by omega) (by omega)]
  have h' : ∀ a : Fin 128, (((a.val + 128) &&& (255 - 128) : Nat)) = a.val := by decide +kernel
  have := h' ⟨(c - 128).toNat, by omega⟩
  simp only at this
  rw [show (128 : Int).toNat = 128 from rfl, show c.toNat = (c - 128).toNat + 128 by omega, this]
  omega

set_option maxRecDepth 100000 in
theorem or_nat (m d j : Nat) (h : m < 2 ^ j) : m ||| d * 2 ^ j = m + d * 2 ^ j := by
  rw [Nat.or_comm, Nat.mul_comm, ← Nat.two_pow_add_eq_or_of_lt h]
  omega
set_option maxRecDepth 100000 in
theorem or_up (m d : Int) (k : Nat) (h0 : 0 ≤ m) (hm : m < 128 ^ k) (hd : 0 ≤ d) (hd1 : d < 128) (hk : k < 9 ∨ k = 9 ∧ d ≤ 1) :
    bits .or .u64 m (IntKind.u64.wrap (d * 2 ^ (7 * k))) = m + d * 128 ^ k ∧ m + d * 128 ^ k < 128 ^ (k + 1) ∧ (k < 9 ∨ m + d * 128 ^ k < 18446744073709551616) := by
  obtain ⟨M, rfl⟩ := Int.eq_ofNat_of_zero_le h0
  obtain ⟨D, rfl⟩ := Int.eq_ofNat_of_zero_le hd
  have hM : M < 128 ^ k := by exact_mod_cast hm
  have e : (128 : Nat) ^ k = 2 ^ (7 * k) := by rw [show (128 : Nat) = 2 ^ 7 from rfl, ← Nat.pow_mul]
  have hb : D * 128 ^ k + 128 ^ k ≤ 18446744073709551616 := by
    have h2 : k = 0 ∨ k = 1 ∨ k = 2 ∨ k = 3 ∨ k = 4 ∨ k = 5 ∨ k = 6 ∨ k = 7 ∨ k = 8 ∨ k = 9 := by omega
    rcases h2 with rfl | rfl | rfl | rfl | rfl | rfl | rfl | rfl | rfl | rfl <;> simp only [Nat.reducePow] <;> omega
  have hw : IntKind.u64.wrap ((D : Int) * 2 ^ (7 * k)) = ((D * 2 ^ (7 * k) : Nat) : Int) := by
    rw [IntKind.wrap_u64]
    have : ((D : Int) * 2 ^ (7 * k)) = ((D * 2 ^ (7 * k) : Nat) : Int) := by push_cast; rfl
    rw [this, ← e]
    omega
  refine ⟨?_, ?_, ?_⟩
  · rw [hw, u64_or_nat _ _ (by omega) (by rw [← e]; omega), or_nat _ _ _ (by rw [← e]; exact hM), ← e]
    push_cast
    rfl
  · have : M + D * 128 ^ k < 128 ^ (k + 1) := by
      rw [Nat.pow_succ]
      have : D * 128 ^ k ≤ 127 * 128 ^ k := Nat.mul_le_mul_right _ (by omega)
      omega
    exact_mod_cast this
  · right
    have : M + D * 128 ^ k < 18446744073709551616 := by omega
    have e2 : (D : Int) * 128 ^ k = ((D * 128 ^ k : Nat) : Int) := by push_cast; rfl
    rw [e2]
    omega

/-- Bytes in order. -/
def oC (c : Int) : List Int := if c = 0 then [0, 255] else [c]
def oM (l : List Int) : List Int := l.flatMap oC
def oB (l : List Int) : List Int := oM l ++ [0, 1]
set_option maxRecDepth 100000 in
theorem oM_snoc (l : List Int) (c : Int) : oM (l ++ [c]) = oM l ++ oC c := by simp [oM]
set_option maxRecDepth 100000 in
theorem oC_wf (c : Int) (h : 0 ≤ c ∧ c ≤ 255) : Wf (oC c) := by
  unfold oC
  split
  · exact Wf.cons (by omega) (Wf.cons (by omega) Wf.nil)
  · exact Wf.cons h Wf.nil
set_option maxRecDepth 100000 in
theorem oM_wf (l : List Int) (h : Wf l) : Wf (oM l) := by
  intro x hx
  obtain ⟨c, hc, hxc⟩ := List.mem_flatMap.1 hx
  exact oC_wf c (h c hc) x hxc
set_option maxRecDepth 100000 in
theorem oB_wf (l : List Int) (h : Wf l) : Wf (oB l) := (oM_wf l h).append (Wf.cons (by omega) (Wf.cons (by omega) Wf.nil))
set_option maxRecDepth 100000 in
theorem oM_length (l : List Int) : l.length ≤ (oM l).length ∧ (oM l).length ≤ 2 * l.length := by
  induction l with
  | nil => simp [oM]
  | cons c l ih =>
    have e : oM (c :: l) = oC c ++ oM l := by simp [oM]
    have h : 1 ≤ (oC c).length ∧ (oC c).length ≤ 2 := by unfold oC; split <;> simp
    rw [e]
    simp only [List.length_append, List.length_cons]
    omega
set_option maxRecDepth 100000 in
theorem oB_length (l : List Int) : l.length + 2 ≤ (oB l).length ∧ (oB l).length ≤ 2 * l.length + 2 := by
  have := oM_length l
  unfold oB
  simp only [List.length_append, List.length_cons, List.length_nil]
  omega

/-- How many bytes two texts begin with alike. -/
def lcp : List Int → List Int → Nat
  | x :: a, y :: b => if x = y then lcp a b + 1 else 0
  | _, _ => 0
set_option maxRecDepth 100000 in
theorem lcp_le (a b : List Int) : lcp a b ≤ a.length ∧ lcp a b ≤ b.length := by
  induction a generalizing b with
  | nil => simp [lcp]
  | cons x a ih =>
    cases b with
    | nil => simp [lcp]
    | cons y b =>
      have := ih b
      unfold lcp
      split <;> simp <;> omega
set_option maxRecDepth 100000 in
/-- k places alike, and then no more, or the end of one. -/
theorem lcp_eq (a b : List Int) (k : Nat) (ha : k ≤ a.length) (hb : k ≤ b.length) (h : ∀ i, i < k → a.getD i 0 = b.getD i 0) (hk : k = a.length ∨ k = b.length ∨ a.getD k 0 ≠ b.getD k 0) : lcp a b = k := by
  induction a generalizing b k with
  | nil => simp at ha; subst ha; simp [lcp]
  | cons x a ih =>
    cases b with
    | nil => simp at hb; subst hb; simp [lcp]
    | cons y b =>
      cases k with
      | zero =>
        have : x ≠ y := by simpa using hk
        simp [lcp, this]
      | succ k =>
        have h0 : x = y := by simpa using h 0 (by omega)
        simp only [List.length_cons, Nat.add_le_add_iff_right] at ha hb
        rw [lcp, if_pos h0, ih b k ha hb (fun i hi => by simpa using h (i + 1) (by omega)) (by simpa using hk)]
set_option maxRecDepth 100000 in
theorem lcp_alike (a b : List Int) : ∀ i, i < lcp a b → a.getD i 0 = b.getD i 0 := by
  induction a generalizing b with
  | nil => intro i hi; simp [lcp] at hi
  | cons x a ih =>
    cases b with
    | nil => intro i hi; simp [lcp] at hi
    | cons y b =>
      intro i hi
      unfold lcp at hi
      split at hi
      · rename_i h
        cases i with
        | zero => simpa using h
        | succ i => simpa using ih b i (by omega)
      · omega
set_option maxRecDepth 100000 in
theorem lcp_next (a b : List Int) (h1 : lcp a b < a.length) (h2 : lcp a b < b.length) : a.getD (lcp a b) 0 ≠ b.getD (lcp a b) 0 := by
  induction a generalizing b with
  | nil => simp at h1
  | cons x a ih =>
    cases b with
    | nil => simp at h2
    | cons y b =>
      by_cases h : x = y
      · simp only [lcp, if_pos h, List.length_cons, Nat.add_lt_add_iff_right] at h1 h2 ⊢
        simpa using ih b h1 h2
      · simp [lcp, h]

/-- What ReadOrdered comes to: the bytes from place i on, what has been read so far. -/
def rO : List Int → Int → List Int → List Int × Int × Int
  | [], _, _ => ([], 0, 10)
  | c :: r, i, acc => if c ≠ 0 then rO r (i + 1) (acc ++ [c]) else
    match r with
    | [] => ([], 0, 10)
    | d :: r' => if d = 255 then rO r' (i + 2) (acc ++ [0]) else if d = 1 then (acc, i + 2, 0) else ([], 0, 11)
set_option maxRecDepth 100000 in
theorem rO_plain (c : Int) (r : List Int) (i : Int) (acc : List Int) (h : c ≠ 0) : rO (c :: r) i acc = rO r (i + 1) (acc ++ [c]) := by
  cases r <;> simp [rO, h]
set_option maxRecDepth 100000 in
theorem rO_cut (i : Int) (acc : List Int) : rO [0] i acc = ([], 0, 10) := by simp [rO]
set_option maxRecDepth 100000 in
theorem rO_two (d : Int) (r : List Int) (i : Int) (acc : List Int) : rO (0 :: d :: r) i acc = if d = 255 then rO r (i + 2) (acc ++ [0]) else if d = 1 then (acc, i + 2, 0) else ([], 0, 11) := by
  simp [rO]

end Go.Proofs.YtiemnbanehdmnaaGreatDoor

/- What was written is read. -/

namespace Go.Proofs.YtiemnbanehdmnaaGreatDoor

set_option maxRecDepth 100000 in
theorem rdB_acc (l : List Int) : ∀ acc : Int, l.foldl (fun n c => n * 256 + c) acc = acc * 256 ^ l.length + rdB l := by
  induction l with
  | nil => intro acc; simp [rdB]
  | cons c l ih =>
    intro acc
    have h : rdB (c :: l) = c * 256 ^ l.length + rdB l := by
      show l.foldl _ (0 * 256 + c) = _
      rw [ih]
      simp
    rw [List.foldl_cons, ih, h, List.length_cons, Int.pow_succ, Int.add_mul, Int.mul_assoc, Int.mul_comm 256 (256 ^ l.length)]
    omega
set_option maxRecDepth 100000 in
theorem rdB_cons (c : Int) (l : List Int) : rdB (c :: l) = c * 256 ^ l.length + rdB l := by
  show l.foldl _ (0 * 256 + c) = _
  rw [rdB_acc]
  simp
set_option maxRecDepth 100000 in
theorem rdB_fB (w : Nat) (n : Int) (h : 0 ≤ n) : rdB (fB w n) = n % 256 ^ w := by
  induction w with
  | zero => simp [fB, rdB, Int.emod_one]
  | succ w ih =>
    rw [fB, rdB_cons, ih, fB_length]
    obtain ⟨N, rfl⟩ := Int.eq_ofNat_of_zero_le h
    have e : N % (256 ^ w * 256) = N % 256 ^ w + 256 ^ w * (N / 256 ^ w % 256) := Nat.mod_mul
    generalize hP : (256 : Nat) ^ w = P at *
    have hP2 : (256 : Int) ^ w = (P : Int) := by rw [← hP]; simp
    rw [Int.pow_succ, hP2]
    have e2 : (N : Int) % ((P : Int) * 256) = ((N % (P * 256) : Nat) : Int) := by simp
    rw [e2, e]
    rw [Int.natCast_add, Int.natCast_mul, Int.mul_comm]
    simp only [Int.natCast_emod, Int.natCast_ediv]
    rw [Int.add_comm]
    rfl

set_option maxRecDepth 100000 in
theorem rU_back (p : Int) (rest : List Int) : ∀ (k : Nat) (m : Int) (i : Nat) (acc : Int), m < 2 ^ k → 0 ≤ m → 0 ≤ acc → acc + m * 128 ^ i < 18446744073709551616 → (0 < i → 0 < m) → i ≤ 9 →
    rU p (uB m ++ rest) i acc = (acc + m * 128 ^ i, p + i + (uB m).length, 0) := by
  intro k
  induction k with
  | zero =>
    intro m i acc hk h0 ha hb hi hi9
    obtain rfl : m = 0 := by simp at hk; omega
    obtain rfl : i = 0 := by
      rcases Nat.eq_zero_or_pos i with h | h
      · exact h
      · have := hi h; omega
    rw [uB_small (by omega)]
    simp [rU]
  | succ k ih =>
    intro m i acc hk h0 ha hb hi hi9
    have hpos : (0 : Int) < 128 ^ i := Int.pow_pos (by omega)
    by_cases hm : m < 128
    · rw [uB_small hm, List.singleton_append, rU]
      have h9 : ¬ (i = 9 ∧ 1 < m) := by
        rintro ⟨rfl, h1⟩
        simp at hb
        omega
      rw [if_neg h9, if_neg (by omega), if_neg (by intro h; have := hi h.2; omega)]
      simp
    · have hmlt : m < 18446744073709551616 := by
        have h1 : m ≤ m * 128 ^ i := by
          have := Int.mul_le_mul_of_nonneg_left (show (1 : Int) ≤ 128 ^ i by omega) h0
          omega
        omega
      have h9 : i < 9 := by
        rcases Nat.lt_or_ge i 9 with h | h
        · exact h
        · obtain rfl : i = 9 := by omega
          simp at hb
          omega
      rw [uB_step hm hmlt, List.cons_append, rU, if_neg (by omega), if_pos (by omega)]
      have e : acc + (m % 128 + 128 - 128) * 128 ^ i + m / 128 * 128 ^ (i + 1) = acc + m * 128 ^ i := by
        rw [Int.pow_succ, Int.mul_comm (128 ^ i) 128, ← Int.mul_assoc]
        have : m * 128 ^ i = (m % 128 + m / 128 * 128) * 128 ^ i := by rw [show m % 128 + m / 128 * 128 = m by omega]
        rw [this, Int.add_mul]
        have e3 : m % 128 + 128 - 128 = m % 128 := by omega
        rw [e3]
        omega
      have hd : 0 ≤ (m % 128 + 128 - 128) * 128 ^ i := Int.mul_nonneg (by omega) (Int.le_of_lt hpos)
      rw [ih (m / 128) (i + 1) _ (by rw [Int.pow_succ] at hk; omega) (by omega) (by omega) (by rw [e]; exact hb) (fun _ => by omega) (by omega), e]
      simp only [List.length_cons]
      push_cast
      rw [show p + (i + 1) + ((uB (m / 128)).length : Int) = p + i + ((uB (m / 128)).length + 1) by omega]
set_option maxRecDepth 100000 in
theorem rU_uB (p n : Int) (rest : List Int) (h0 : 0 ≤ n) (h : n < 18446744073709551616) : rU p (uB n ++ rest) 0 0 = (n, p + (uB n).length, 0) := by
  have := rU_back p rest 64 n 0 0 (by simp; omega) h0 (by omega) (by simp; omega) (fun h => by omega) (by omega)
  simpa using this
set_option maxRecDepth 100000 in
theorem rU_open (p : Int) : ∀ (l : List Int) (i : Nat) (n : Int), (∀ x ∈ l, 128 ≤ x) → i + l.length ≤ 9 → rU p l i n = (0, 0, 10)
  | [], _, _, _, _ => rfl
  | c :: l, i, n, h, hl => by
    have hc := h c (by simp)
    simp only [List.length_cons] at hl
    rw [rU, if_neg (by omega), if_pos hc]
    exact rU_open p l (i + 1) _ (fun x hx => h x (by simp [hx])) (by omega)
set_option maxRecDepth 100000 in
theorem uBf_high (f : Nat) : ∀ n, 0 ≤ n → ∀ x ∈ (uBf f n).take ((uBf f n).length - 1), 128 ≤ x := by
  induction f with
  | zero => intro n _ x hx; simp [uBf] at hx
  | succ f ih =>
    intro n h0 x hx
    unfold uBf at hx
    split at hx
    · simp at hx
    · have hl := (uBf_length f (n / 128)).2
      rw [show ((n % 128 + 128) :: uBf f (n / 128)).length - 1 = (uBf f (n / 128)).length - 1 + 1 by simp; omega, List.take_succ_cons] at hx
      rcases List.mem_cons.1 hx with e | e
      · omega
      · exact ih (n / 128) (by omega) x e
set_option maxRecDepth 100000 in
theorem rU_cut (p n : Int) (h0 : 0 ≤ n) : rU p ((uB n).take ((uB n).length - 1)) 0 0 = (0, 0, 10) := by
  have h := (uB_length n)
  exact rU_open p _ 0 0 (uBf_high 9 n h0) (by simp; omega)

set_option maxRecDepth 100000 in
theorem rO_back (t rest : List Int) : ∀ (i : Int) (acc : List Int), rO (oB t ++ rest) i acc = (acc ++ t, i + (oB t).length, 0) := by
  induction t with
  | nil => intro i acc; simp [oB, oM, rO_two]
  | cons c t ih =>
    intro i acc
    have e : oB (c :: t) = oC c ++ oB t := by simp [oB, oM]
    rw [e]
    by_cases h : c = 0
    · subst h
      simp only [oC, if_pos, List.cons_append, List.nil_append, rO_two, ih, List.length_cons]
      simp
      omega
    · simp only [oC, if_neg h, List.cons_append, List.nil_append, rO_plain _ _ _ _ h, ih, List.length_cons]
      simp
      omega
set_option maxRecDepth 100000 in
theorem rO_open (t : List Int) : ∀ (i : Int) (acc : List Int), rO (oM t ++ [0]) i acc = ([], 0, 10) := by
  induction t with
  | nil => intro i acc; exact rO_cut i acc
  | cons c t ih =>
    intro i acc
    have e : oM (c :: t) = oC c ++ oM t := by simp [oM]
    rw [e]
    by_cases h : c = 0
    · subst h
      simp only [oC, if_pos, List.cons_append, List.nil_append, rO_two, ih]
    · simp only [oC, if_neg h, List.cons_append, List.nil_append, rO_plain _ _ _ _ h, ih]
set_option maxRecDepth 100000 in
theorem oB_cut (t : List Int) : (oB t).take ((oB t).length - 1) = oM t ++ [0] := by
  have h : oB t = (oM t ++ [0]) ++ [1] := by simp [oB]
  have hl : (oB t).length - 1 = (oM t ++ [0]).length := by simp [oB]
  rw [hl, h, List.take_left]
end Go.Proofs.YtiemnbanehdmnaaGreatDoor

/- What ReadUint reads is what Uint writes. -/

namespace Go.Proofs.YtiemnbanehdmnaaGreatDoor

set_option maxRecDepth 100000 in
theorem rU_spec (l : List Int) : ∀ (p : Int) (i : Nat) (n : Int), Wf l → 0 ≤ n → n < 128 ^ i → i ≤ 9 →
    ((rU p l i n).2.2 ≠ 0 ∧ (rU p l i n).1 = 0 ∧ (rU p l i n).2.1 = 0) ∨
    ((rU p l i n).2.2 = 0 ∧ ∃ (k : Nat) (M : Int), 1 ≤ k ∧ k ≤ l.length ∧ (rU p l i n).2.1 = p + i + k ∧ 0 ≤ M ∧ (rU p l i n).1 = n + M * 128 ^ i ∧ (rU p l i n).1 < 18446744073709551616 ∧ l.take k = uB M ∧ (0 < i → 0 < M)) := by
  induction l with
  | nil => intro p i n _ _ _ _; left; simp [rU]
  | cons c r ih =>
    intro p i n hw h0 hn hi
    have hc := hw c (by simp)
    have hr : Wf r := fun x hx => hw x (by simp [hx])
    have hpos : (0 : Int) < 128 ^ i := Int.pow_pos (by omega)
    rw [rU]
    by_cases h9 : i = 9 ∧ 1 < c
    · left; rw [if_pos h9]; simp
    · rw [if_neg h9]
      by_cases h128 : 128 ≤ c
      · rw [if_pos h128]
        have hi8 : i < 9 := by omega
        have hup := or_up n (c - 128) i h0 hn (by omega) (by omega) (.inl hi8)
        have hnn : 0 ≤ n + (c - 128) * 128 ^ i := by
          have : 0 ≤ (c - 128) * 128 ^ i := Int.mul_nonneg (by omega) (Int.le_of_lt hpos)
          omega
        rcases ih p (i + 1) (n + (c - 128) * 128 ^ i) hr hnn hup.2.1 (by omega) with h | ⟨he, k, M, hk1, hk2, ht, hM0, hN, hlt, htk, hMp⟩
        · exact .inl h
        · right
          have hMp' := hMp (by omega)
          refine ⟨he, k + 1, (c - 128) + 128 * M, by omega, by simp; omega, by rw [ht]; push_cast; omega, by omega, ?_, hlt, ?_, fun _ => by omega⟩
          · rw [hN, Int.pow_succ, Int.add_mul, Int.mul_comm (128 ^ i) 128, ← Int.mul_assoc, Int.mul_comm M 128]
            omega
          · have hMlt : (c - 128) + 128 * M < 18446744073709551616 := by
              have h1 : (c - 128) + 128 * M ≤ ((c - 128) + 128 * M) * 128 ^ i := by
                have := Int.mul_le_mul_of_nonneg_left (show (1 : Int) ≤ 128 ^ i by omega) (show 0 ≤ (c - 128) + 128 * M by omega)
                omega
              have h2 : (rU p r (i + 1) (n + (c - 128) * 128 ^ i)).1 = n + ((c - 128) + 128 * M) * 128 ^ i := by
                rw [hN, Int.pow_succ, Int.add_mul, Int.mul_comm (128 ^ i) 128, ← Int.mul_assoc, Int.mul_comm M 128]
                omega
              omega
            rw [uB_step (by omega) hMlt, List.take_succ_cons, htk]
            congr 1
            · omega
            · congr 1
              omega
      · rw [if_neg h128]
        by_cases hz : c = 0 ∧ 0 < i
        · left; rw [if_pos hz]; simp
        · right
          rw [if_neg hz]
          have hup := or_up n c i h0 hn (by omega) (by omega) (by omega)
          have hlt : n + c * 128 ^ i < 18446744073709551616 := by
            rcases hup.2.2 with h | h
            · have h2 : i = 0 ∨ i = 1 ∨ i = 2 ∨ i = 3 ∨ i = 4 ∨ i = 5 ∨ i = 6 ∨ i = 7 ∨ i = 8 := by omega
              have h3 := hup.2.1
              rcases h2 with rfl | rfl | rfl | rfl | rfl | rfl | rfl | rfl | rfl <;> simp at h3 ⊢ <;> omega
            · exact h
          exact ⟨rfl, 1, c, by omega, by simp, by simp, by omega, rfl, hlt, by rw [uB_small (by omega)]; rfl, fun h => by omega⟩
end Go.Proofs.YtiemnbanehdmnaaGreatDoor

/- ink.Fixed writes a number's lowest bytes into memory of its own; ReadFixed reads them. -/

namespace Go.Proofs.YtiemnbanehdmnaaGreatDoor
open Go.RowKit

set_option maxRecDepth 100000 in
theorem fixed_no (n x : Int) (w : World) (h : x < 1 ∨ 8 < x) :
    Calls Tryz.prog 90 #[.int .u64 n, .int .i64 x] w fun e w' => e = .returned (.slice none 0 0) ∧ w' = w := by
  go_enter Tryz.func90, Tryz.ntmps90
  go_wp2_with (go_at_call 138; refine same_call (isWidth_no _ _ h) ?_)
  go_ret
  exact ⟨rfl, rfl⟩

set_option maxHeartbeats 400000 in
set_option maxRecDepth 100000 in
theorem fixed_yes (n x : Int) (w : World) (h0 : 0 ≤ n) (h1 : 1 ≤ x) (h2 : x ≤ 8) :
    Calls Tryz.prog 90 #[.int .u64 n, .int .i64 x] w fun e w' => ∃ v, e = .returned v ∧ OwnB w' w.heap.size v (fB x.toNat n) ∧ Below w.heap.size w w' := by
  obtain ⟨width, rfl⟩ := Int.eq_ofNat_of_zero_le (show 0 ≤ x by omega)
  rw [Int.toNat_natCast]
  obtain ⟨i0, hi, hz0, hz1, hz2⟩ := info_parts info5
  go_enter Tryz.func90, Tryz.ntmps90
  go_wp2_with (first
    | (go_at_call 138; refine same_call (isWidth_yes _ _ h1 h2) ?_)
    | (at_make; refine wpList_make_full _ rfl _ _ 29 rfl w.heap.size 5 i0 (.int .u8 0) 1 Tryz.underlying29 hi hz0 hz1 .i64 .i64 width width width rfl rfl rfl rfl (by rw [hz2]; omega) (by unfold maxLen; omega) (Nat.le_refl _) ?_))
  intro w1 hown1 hg1
  have ho1 : OwnB w1 w.heap.size (.slice (some ⟨w.heap.size, 0, none⟩) width width) (List.replicate width 0) := by
    unfold OwnB
    rw [toList_madeCells_one] at hown1
    simpa [By] using hown1
  have hb1 : Below w.heap.size w w1 := (Below.refl _ _).grown hg1 (Nat.le_refl _) (fun k hk => by cases hk)
  clear hown1 hg1
  go_wp2_with fail
  go_loopw [0, 6] (fun y i wr => ∃ j : Nat, j ≤ width ∧ y = .int .u64 (n / 256 ^ j) ∧ i = .int .i64 ((width : Int) - 1 - j) ∧ OwnB wr w.heap.size (.slice (some ⟨w.heap.size, 0, none⟩) width width) (List.replicate (width - j) 0 ++ fB j n) ∧ Below w.heap.size w wr) (fun _ i _ => (intOf i + 1).toNat)
  case atStart => exact ⟨0, by omega, by simp, by simp, by simpa [fB] using ho1, hb1⟩
  case round =>
    obtain ⟨j, hj, rfl, rfl, hown, hb⟩ := hrel
    by_cases hlt : j < width
    · have hpos : 0 ≤ n / 256 ^ j := Int.ediv_nonneg h0 (Int.le_of_lt (Int.pow_pos (by omega)))
      have hle : n / 256 ^ j ≤ n := Int.ediv_le_self _ h0
      have hl : (List.replicate (width - j) (0 : Int) ++ fB j n).length = width := by simp [fB_length]; omega
      have hfr : wr.frozen? ⟨w.heap.size, width - 1 - j, none⟩ = false := by
        unfold OwnB at hown; rw [hl] at hown; exact World.ownsRow.frozenAt hown _
      have hce : ∃ u, wr.cell? ⟨w.heap.size, width - 1 - j, none⟩ = some u := by
        unfold OwnB at hown; rw [hl] at hown
        exact ⟨_, (World.ownsRow.cellAt hown (width - 1 - j) (by omega)).trans (List.getElem?_eq_getElem (by rw [By_length, hl]; omega))⟩
      obtain ⟨u, hce⟩ := hce
      have hp := pow256 n j
      generalize hy : n / 256 ^ j = y at *
      have HY := hidden hy
      clear hy
      have hs := own_set (x := y % 256) hown hl (show width - 1 - j < width by omega)
      go_wp2
      go_roundw
      case rel =>
        refine ⟨j + 1, by omega, rfl, by go_num, ?_, hb.setCell (Nat.le_refl _) _⟩
        rw [← fB_set width j n hlt, HY.out, show width - j - 1 = width - 1 - j by omega]
        exact hs
      case measure => simp [intOf]; omega
    · obtain rfl : j = width := by omega
      go_wp2
      go_ret
      exact ⟨_, rfl, by simpa using hown, hb⟩
set_option maxRecDepth 100000 in
theorem readFixed_arg (ao : Option Addr) (n cap : Nat) (p x : Int) (w : World) (h : (x < 1 ∨ 8 < x) ∨ (p < 0 ∨ n < p)) :
    Calls Tryz.prog 153 #[.slice ao n cap, .int .i64 p, .int .i64 x] w fun e w' => e = .returned (.tuple #[.int .u64 0, .int .i64 1]) ∧ w' = w := by
  by_cases hx : x < 1 ∨ 8 < x
  · go_enter Tryz.func153, Tryz.ntmps153
    go_wp2_with (go_at_call 138; refine same_call (isWidth_no _ _ hx) ?_)
    go_ret2
    exact ⟨rfl, rfl⟩
  · have hp : p < 0 ∨ n < p := by omega
    go_enter Tryz.func153, Tryz.ntmps153
    go_wp2_with (first | (go_at_call 138; refine same_call (isWidth_yes _ _ (by omega) (by omega)) ?_) | (go_at_call 160; refine same_call (isPlace_no _ _ _ _ _ hp) ?_))
    go_ret2
    exact ⟨rfl, rfl⟩
set_option maxRecDepth 100000 in
theorem readFixed_short (ao : Option Addr) (n cap : Nat) (p x : Int) (w : World) (h1 : 1 ≤ x) (h2 : x ≤ 8) (h3 : 0 ≤ p) (h4 : p ≤ n) (h5 : (n : Int) - p < x) :
    Calls Tryz.prog 153 #[.slice ao n cap, .int .i64 p, .int .i64 x] w fun e w' => e = .returned (.tuple #[.int .u64 0, .int .i64 10]) ∧ w' = w := by
  go_enter Tryz.func153, Tryz.ntmps153
  go_wp2_with (first | (go_at_call 138; refine same_call (isWidth_yes _ _ h1 h2) ?_) | (go_at_call 160; refine same_call (isPlace_yes _ _ _ _ _ h3 h4) ?_))
  go_ret2
  exact ⟨rfl, rfl⟩
set_option maxRecDepth 100000 in
set_option maxHeartbeats 400000 in
theorem readFixed_ok (ao : Option Addr) (n cap : Nat) (l : List Int) (p' x : Int) (w : World) (hs : Sl w ao n cap l) (h1 : 1 ≤ x) (h2 : x ≤ 8) (h3 : 0 ≤ p') (h5 : x ≤ (n : Int) - p') :
    Calls Tryz.prog 153 #[.slice ao n cap, .int .i64 p', .int .i64 x] w fun e w' => e = .returned (.tuple #[.int .u64 (rdB ((l.drop p'.toNat).take x.toNat)), .int .i64 0]) ∧ w' = w := by
  obtain ⟨width, rfl⟩ := Int.eq_ofNat_of_zero_le (show 0 ≤ x by omega)
  obtain ⟨p, rfl⟩ := Int.eq_ofNat_of_zero_le h3
  rw [Int.toNat_natCast, Int.toNat_natCast]
  obtain ⟨hlen, hcap, hroom, hwf, hnil, hat⟩ := hs
  rcases hat with h | ⟨b, off, rfl, hb, hc⟩
  · omega
  have hd : ((l.drop p).take width).length = width := by simp; omega
  have hwd : Wf ((l.drop p).take width) := (hwf.drop p).take width
  go_enter Tryz.func153, Tryz.ntmps153
  go_wp2_with (first | (go_at_call 138; refine same_call (isWidth_yes _ _ h1 h2) ?_) | (go_at_call 160; refine same_call (isPlace_yes _ _ _ _ _ h3 (by omega)) ?_))
  go_loop [8, 33] (fun v i => ∃ k : Nat, k ≤ width ∧ i = .int .i64 k ∧ v = .int .u64 (rdB (((l.drop p).take width).take k))) (fun _ i => width - (intOf i).toNat)
  case atStart => exact ⟨0, by omega, rfl, by simp [rdB]⟩
  case round =>
    obtain ⟨k, hk, rfl, rfl⟩ := hrel
    by_cases hlt : k < width
    · have hck : w.cell? ⟨b, off + p + k, none⟩ = some (.int .u8 (((l.drop p).take width).getD k 0)) := by
        rw [Nat.add_assoc, hc (p + k) (by omega)]
        simp [List.getD, hlt]
      have hby := hwd.getD k
      have hsm := rdB_small _ (hwd.take k) k (by omega) (by simp; omega)
      have hsn : rdB (((l.drop p).take width).take (k + 1)) = rdB (((l.drop p).take width).take k) * 256 + ((l.drop p).take width).getD k 0 := by
        rw [take_snoc _ k (by omega), rdB_snoc]
      generalize ((l.drop p).take width).getD k 0 = c at *
      generalize rdB (((l.drop p).take width).take k) = m at *
      have hor := or_byte m c (by omega) (by omega) hby
      have HS := hidden hsn
      clear hsn
      go_wp2
      go_round
      case rel => exact ⟨k + 1, by omega, by go_num, by rw [HS.out]⟩
      case measure => simp [intOf]; omega
    · obtain rfl : k = width := by omega
      have ht : ((l.drop p).take k).take k = (l.drop p).take k := List.take_of_length_le (by omega)
      go_wp2
      go_ret2
      exact ⟨rfl, rfl⟩

end Go.Proofs.YtiemnbanehdmnaaGreatDoor

/- Bytes as strings: Same answers whether two slices hold the same bytes. -/

namespace Go.Proofs.YtiemnbanehdmnaaGreatDoor
open Go.RowKit

set_option maxRecDepth 100000 in
theorem conv_sl {w : World} {ao : Option Addr} {n cap : Nat} {l : List Int} (hs : Sl w ao n cap l) :
    (convert 29 9 (.slice ao n cap)).run Tryz.prog w = .ok (.string (strOfNums l)) w := by
  obtain ⟨hlen, hcap, hroom, hwf, hnil, hat⟩ := hs
  rcases hat with rfl | ⟨b, off, rfl, hb, hc⟩
  · obtain rfl : l = [] := List.eq_nil_of_length_eq_zero hlen
    rw [run_convert_bytes_string w 29 9 5 ao 0 cap Tryz.underlying29 Tryz.underlying5 Tryz.underlying9]
    cases ao with
    | none => simp [Conv.bytesToString, Sem.run_pure, strOfNums]; rfl
    | some a =>
      rw [run_bytesToString w a 0 cap [] (by simpa using run_loadCells_list (P := Tryz.prog) w a [] (fun j v h => by cases h))]
      rfl
  · exact run_convert_bytes_arg w 29 5 Tryz.underlying29 Tryz.underlying5 b off n cap l hlen hc 9 Tryz.underlying9

set_option maxRecDepth 100000 in
theorem byte_inj {x y : Int} (hx : 0 ≤ x ∧ x ≤ 255) (hy : 0 ≤ y ∧ y ≤ 255) (h : UInt8.ofNat x.toNat = UInt8.ofNat y.toNat) : x = y := by
  have h1 := congrArg UInt8.toNat h
  simp only [UInt8.toNat_ofNat'] at h1
  omega
set_option maxRecDepth 100000 in
theorem bytes_inj : ∀ (a b : List Int), Wf a → Wf b → (a.map fun n => UInt8.ofNat n.toNat) = (b.map fun n => UInt8.ofNat n.toNat) → a = b
  | [], [], _, _, _ => rfl
  | [], _ :: _, _, _, h => by simp at h
  | _ :: _, [], _, _, h => by simp at h
  | x :: a, y :: b, ha, hb, h => by
    simp only [List.map_cons, List.cons.injEq] at h
    rw [byte_inj (ha x (by simp)) (hb y (by simp)) h.1, bytes_inj a b (fun z hz => ha z (by simp [hz])) (fun z hz => hb z (by simp [hz])) h.2]
set_option maxRecDepth 100000 in
theorem str_beq {a b : List Int} (ha : Wf a) (hb : Wf b) : ((strOfNums a).toList == (strOfNums b).toList) = decide (a = b) := by
  rw [Bool.eq_iff_iff, beq_iff_eq, decide_eq_true_iff, ByteArray.toList_eq, ByteArray.toList_eq, strOfNums_data, strOfNums_data]
  constructor
  · exact bytes_inj a b ha hb
  · rintro rfl; rfl

set_option maxRecDepth 100000 in
theorem same_any (ao bo : Option Addr) (n m c d : Nat) (la lb : List Int) (w : World) (ha : Sl w ao n c la) (hb : Sl w bo m d lb) :
    Calls Tryz.prog 15 #[.slice ao n c, .slice bo m d] w fun e w' => e = .returned (.bool (decide (la = lb))) ∧ w' = w := by
  have h1 := conv_sl ha
  have h2 := conv_sl hb
  have h3 := str_beq ha.wf hb.wf
  clear ha hb
  go_enter Tryz.func15, Tryz.ntmps15
  go_wp2
  go_ret
  exact ⟨rfl, rfl⟩
end Go.Proofs.YtiemnbanehdmnaaGreatDoor

/- ink.alike counts the bytes that two texts begin with alike; cloned copies bytes into memory of its own. -/

namespace Go.Proofs.YtiemnbanehdmnaaGreatDoor
open Go.RowKit

set_option maxRecDepth 100000 in
set_option maxHeartbeats 400000 in
theorem alike_any (ao bo : Option Addr) (n m c d : Nat) (la lb : List Int) (w : World) (ha : Sl w ao n c la) (hb : Sl w bo m d lb) :
    Calls Tryz.prog 130 #[.slice ao n c, .slice bo m d] w fun e w' => e = .returned (.int .i64 (lcp la lb)) ∧ ∃ q, w' = w.drewN q := by
  obtain ⟨hlen, hcap, hroom, hwf, hnil, hat⟩ := ha
  obtain ⟨hlen', hcap', hroom', hwf', hnil', hat'⟩ := hb
  by_cases hmn : n ≤ m
  all_goals
    go_enter Tryz.func130, Tryz.ntmps130
    go_wp2_with fail
    go_loopw [13] (fun i wr => ∃ k q : Nat, k ≤ n ∧ k ≤ m ∧ i = .int .i64 k ∧ wr = w.drewN q ∧ ∀ j, j < k → la.getD j 0 = lb.getD j 0) (fun i _ => n - (intOf i).toNat)
    case atStart => exact ⟨0, 0, by omega, by omega, rfl, rfl, fun j hj => by omega⟩
    case round =>
      obtain ⟨k, q, hk, hk', rfl, rfl, hal⟩ := hrel
      have HAL := hidden hal
      clear hal
      by_cases hlt : k < n ∧ k < m
      · obtain ⟨hkn, hkm⟩ := hlt
        rcases hat with h | ⟨b, off, rfl, hbb, hc⟩
        · omega
        rcases hat' with h | ⟨b', off', rfl, hbb', hc'⟩
        · omega
        have hck := hc k hkn
        have hck' := hc' k hkm
        have hx : ∃ x, la.getD k 0 = x := ⟨_, rfl⟩
        have hy : ∃ y, lb.getD k 0 = y := ⟨_, rfl⟩
        obtain ⟨x, hx⟩ := hx
        obtain ⟨y, hy⟩ := hy
        rw [hx] at hck
        rw [hy] at hck'
        have HX := hidden hx
        have HY := hidden hy
        clear hx hy hc hc' 
        by_cases hxy : x = y
        · have hb0 : (x != y) = false := by simp [hxy]
          have HXY := hidden hxy
          clear hxy
          go_wp2
          go_quiet (fail)
          go_wp2
          go_roundw
          case rel =>
            refine ⟨k + 1, _, by omega, by omega, by go_num, rfl, fun j hj => ?_⟩
            by_cases hjk : j < k
            · exact HAL.out j hjk
            · obtain rfl : j = k := by omega
              rw [HX.out, HY.out, HXY.out]
          case measure => simp [intOf]; omega
        · have hb0 : (x != y) = true := by simp [hxy]
          have e := lcp_eq la lb k (by omega) (by omega) HAL.out (.inr (.inr (by rw [HX.out, HY.out]; exact hxy)))
          have HE := hidden e
          clear hxy e
          go_wp2
          go_quiet (fail)
          go_wp2
          go_ret
          exact ⟨ret_int (by rw [HE.out]), _, World.drewN_drewN _ _ _⟩
      · have e := lcp_eq la lb k (by omega) (by omega) HAL.out (by omega)
        have HE := hidden e
        clear e
        go_wp2
        go_ret
        exact ⟨ret_int (by rw [HE.out]; omega), q, rfl⟩

set_option maxRecDepth 100000 in
theorem own_of_heap {w : World} {B g : Nat} {l : List Int} (h : w.heap[g]? = some (.cells (By l).toArray 5 (0, 0))) (hB : B ≤ g) (hl : l.length ≤ maxLen) : OwnB w B (.slice (some ⟨g, 0, none⟩) l.length l.length) l :=
  ⟨by simp [By], .inr ⟨g, l.length, (By l).toArray, rfl, hB, h, Nat.le_refl _, hl, by simp [By], List.take_of_length_le (by simp [By])⟩⟩

end Go.Proofs.YtiemnbanehdmnaaGreatDoor

/- ink.Between and ink.Behind. -/

namespace Go.Proofs.YtiemnbanehdmnaaGreatDoor
open Go.RowKit

set_option maxRecDepth 100000 in
theorem Sl.take {w : World} {ao : Option Addr} {n cap : Nat} {l : List Int} (h : Sl w ao n cap l) (k : Nat) (hk : k ≤ n) : Sl w ao k cap (l.take k) := by
  obtain ⟨hlen, hcap, hroom, hwf, hnil, hat⟩ := h
  refine ⟨by simp; omega, by omega, by omega, hwf.take k, hnil, ?_⟩
  rcases hat with h0 | ⟨b, off, e, hlt, hc⟩
  · exact .inl (by omega)
  · refine .inr ⟨b, off, e, hlt, fun i hi => ?_⟩
    rw [hc i (by omega)]
    simp [List.getD, hi]
set_option maxRecDepth 100000 in
theorem Sl.drewN {w : World} {ao : Option Addr} {n cap : Nat} {l : List Int} (h : Sl w ao n cap l) (q : Nat) : Sl (w.drewN q) ao n cap l := by
  refine ⟨h.hlen, h.hcap, h.hroom, h.wf, h.hnil, ?_⟩
  rcases h.hat with h0 | ⟨b, off, e, hlt, hc⟩
  · exact .inl h0
  · exact .inr ⟨b, off, e, by simpa using hlt, fun i hi => by simpa using hc i hi⟩
set_option maxRecDepth 100000 in
theorem quiet_call {P : Program} {f : FuncId} {args : Array Value} {w : World} {v : Value} {Q : Ending → World → Prop} (h : Calls P f args w fun e w' => e = .returned v ∧ ∃ q, w' = w.drewN q) (hQ : ∀ q, Q (.returned v) (w.drewN q)) : Calls P f args w Q :=
  h.mono fun e w' ⟨he, q, hw⟩ => by subst he; rw [hw]; exact hQ q

end Go.Proofs.YtiemnbanehdmnaaGreatDoor

/- Order tells how two texts stand; both lays bytes and more behind them into memory of its own. -/

namespace Go.Proofs.YtiemnbanehdmnaaGreatDoor
open Go.RowKit

/-- How two texts stand. -/
def ordL : List Int → List Int → Int
  | [], [] => 0
  | [], _ :: _ => -1
  | _ :: _, [] => 1
  | x :: a, y :: b => if x < y then -1 else if y < x then 1 else ordL a b
set_option maxRecDepth 100000 in
theorem ordL_self : ∀ (a : List Int), ordL a a = 0
  | [] => rfl
  | x :: a => by simp [ordL, ordL_self a]
set_option maxRecDepth 100000 in
theorem ordL_eq : ∀ (a b : List Int), ordL a b = 0 → a = b
  | [], [], _ => rfl
  | [], _ :: _, h => by simp [ordL] at h
  | _ :: _, [], h => by simp [ordL] at h
  | x :: a, y :: b, h => by
    simp only [ordL] at h
    split at h
    · simp at h
    · split at h
      · simp at h
      · rw [ordL_eq a b h, show x = y by omega]
set_option maxRecDepth 100000 in
theorem ordL_three (a b : List Int) : ordL a b = 0 ∨ ordL a b = -1 ∨ ordL a b = 1 := by
  induction a generalizing b with
  | nil => cases b <;> simp [ordL]
  | cons x a ih =>
    cases b with
    | nil => simp [ordL]
    | cons y b =>
      simp only [ordL]
      split
      · simp
      · split
        · simp
        · exact ih b
set_option maxRecDepth 100000 in
theorem ordL_pre (p u v : List Int) : ordL (p ++ u) (p ++ v) = ordL u v := by
  induction p with
  | nil => rfl
  | cons x p ih => simp [ordL, ih]

set_option maxRecDepth 100000 in
set_option maxHeartbeats 1000000 in
theorem order_any (ao bo : Option Addr) (n m c d : Nat) (la lb : List Int) (w : World) (ha : Sl w ao n c la) (hb : Sl w bo m d lb) :
    Calls Tryz.prog 92 #[.slice ao n c, .slice bo m d] w fun e w' => e = .returned (.int .i64 (ordL la lb)) ∧ ∃ q, w' = w.drewN q := by
  obtain ⟨hlen, hcap, hroom, hwf, hnil, hat⟩ := ha
  obtain ⟨hlen', hcap', hroom', hwf', hnil', hat'⟩ := hb
  generalize hF : ordL la lb = F
  have HF := hidden hF
  clear hF
  go_enter Tryz.func92, Tryz.ntmps92
  go_wp2_with fail
  go_loopw [5] (fun i wr => ∃ k q : Nat, k ≤ n ∧ k ≤ m ∧ i = .int .i64 k ∧ wr = w.drewN q ∧ Hid (ordL (la.drop k) (lb.drop k) = F)) (fun i _ => n - (intOf i).toNat)
  case atStart => exact ⟨0, 0, by omega, by omega, rfl, rfl, HF⟩
  case round =>
    obtain ⟨k, q, hk, hk', rfl, rfl, HK⟩ := hrel
    clear HF
    by_cases hkn : k < n
    · by_cases hkm : k < m
      · rcases hat with h | ⟨b, off, rfl, hbb, hc⟩
        · omega
        rcases hat' with h | ⟨b', off', rfl, hbb', hc'⟩
        · omega
        have hck := hc k hkn
        have hck' := hc' k hkm
        have e := HK.out
        rw [drop_cons la k (by omega), drop_cons lb k (by omega), ordL] at e
        clear hc hc' HK
        generalize la.getD k 0 = x at *
        generalize lb.getD k 0 = y at *
        by_cases hxy : x < y
        · rw [if_pos hxy] at e
          have HE := hidden e
          clear e
          go_wp2_with fail
          go_quiet (fail)
          go_wp2
          go_ret
          exact ⟨ret_int HE.out, _, World.drewN_drewN _ _ _⟩
        · rw [if_neg hxy] at e
          by_cases hyx : y < x
          · rw [if_pos hyx] at e
            have HE := hidden e
            clear e
            go_wp2_with fail
            go_quiet (fail)
            go_wp2_with fail
            go_quiet (fail)
            go_wp2
            go_ret
            exact ⟨ret_int HE.out, _, by simp only [World.drewN_drewN]; rfl⟩
          · rw [if_neg hyx] at e
            have HE := hidden e
            clear e
            go_wp2_with fail
            go_quiet (fail)
            go_wp2_with fail
            go_quiet (fail)
            go_wp2
            go_roundw
            case rel => exact ⟨k + 1, _, by omega, by omega, by go_num, rfl, HE⟩
            case measure => simp [intOf]; omega
      · have e := HK.out
        rw [List.drop_eq_nil_of_le (show lb.length ≤ k by omega), drop_cons la k (by omega), ordL] at e
        have HE := hidden e
        clear e HK
        have hmn : ¬ n < m := by omega
        have hmn' : m < n := by omega
        go_wp2
        go_ret
        exact ⟨ret_int HE.out, _, rfl⟩
    · have e := HK.out
      rw [List.drop_eq_nil_of_le (show la.length ≤ k by omega)] at e
      by_cases hkm : k < m
      · rw [drop_cons lb k (by omega), ordL] at e
        have HE := hidden e
        clear e HK
        have hmn' : n < m := by omega
        go_wp2
        go_ret
        exact ⟨ret_int HE.out, _, rfl⟩
      · rw [List.drop_eq_nil_of_le (show lb.length ≤ k by omega), ordL] at e
        have HE := hidden e
        clear e HK
        have hmn' : ¬ n < m := by omega
        have hmn : ¬ m < n := by omega
        go_wp2
        go_ret
        exact ⟨ret_int HE.out, _, rfl⟩

end Go.Proofs.YtiemnbanehdmnaaGreatDoor
