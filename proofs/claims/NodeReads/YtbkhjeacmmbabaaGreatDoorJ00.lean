import Derived.Test.YtbkhjeacmmbabaaGreatDoorProg
import Derived.WalkKit
import Derived.OpenShut
import Derived.Laws.BytesArg
import Derived.Deep.Draws
import Derived.Deep.QuietTactic
import Derived.BigQuiet
import Derived.WalkSmall
namespace Go.Proofs.YtbkhjeacmmbabaaGreatDoor
set_option maxRecDepth 100000
set_option maxHeartbeats 2000000
open Go.RowKit
theorem zq {p : Prop} (h : p := by omega) : p := h
theorem zv {p : Prop} (h : p := by simp) : p := h
theorem zd {p : Prop} (h : p := by decide) : p := h
theorem zr {p : Prop} (h : p := by rfl) : p := h
theorem zso {p : Prop} (h : p := by (simp; omega)) : p := h
theorem zst {p : Prop} (h : p := by (simp; try omega)) : p := h
theorem zsv {p : Prop} (h : p := by simp [Value.ownBlock]) : p := h
theorem zml {p : Prop} (h : p := by (unfold maxLen; omega)) : p := h
theorem Lr {n : Nat} : n ≤ n := Nat.le_refl n
theorem Br {B : Nat} {w : World} : Below B w w := Below.refl B w
theorem zA : type_of% @List.getElem_toArray.{0} := @List.getElem_toArray.{0}
theorem zB : type_of% @List.getElem_cons_succ.{0} := @List.getElem_cons_succ.{0}
theorem zC : type_of% @List.getElem_cons_zero.{0} := @List.getElem_cons_zero.{0}
theorem zD : type_of% @List.setIfInBounds_toArray.{0} := @List.setIfInBounds_toArray.{0}
theorem zE : type_of% @List.set_cons_zero.{0} := @List.set_cons_zero.{0}
theorem zF : type_of% @List.set_cons_succ.{0} := @List.set_cons_succ.{0}
theorem zG : type_of% @List.length_append.{0} := @List.length_append.{0}
theorem zH : type_of% @List.getElem?_eq_some_iff.{0} := @List.getElem?_eq_some_iff.{0}
theorem zI : type_of% @List.getElem?_eq_getElem.{0} := @List.getElem?_eq_getElem.{0}
theorem zJ : type_of% @List.length_take.{0} := @List.length_take.{0}
theorem zK : type_of% @List.length_drop.{0} := @List.length_drop.{0}
theorem zL : type_of% @List.getElem?_append_left.{0} := @List.getElem?_append_left.{0}
theorem zM : type_of% @List.append_assoc.{0} := @List.append_assoc.{0}
theorem zN : type_of% @Nat.le_trans := @Nat.le_trans
theorem zO : type_of% @Nat.lt_of_lt_of_le := @Nat.lt_of_lt_of_le
theorem zP : type_of% @decide_eq_false_iff_not := @decide_eq_false_iff_not
theorem zQ : type_of% @decide_eq_true_iff := @decide_eq_true_iff
theorem info5 : (Tryz.prog.info? 5).map (fun i => (i.zero, i.size, i.bytes)) = some (some (.int .u8 0), 1, 1) := by kernel_rfl
theorem zad {P : Program} {f : FuncId} {args : Array Value} {w : World} {v : Value} {Q : Ending → World → Prop} (h : Calls P f args w fun e w' => e = .returned v ∧ w' = w) (hQ : Q (.returned v) w) : Calls P f args w Q :=
 h.mono fun e w' ⟨he, hw⟩ => by subst he; rw [hw]; exact hQ
theorem zbf {k : IntKind} {a b : Int} (h : a = b) : Ending.returned (.int k a) = .returned (.int k b) := by rw [h]
theorem zaa {p : Prop} (h : p) : Hid p := h
def By (l : List Int) : List Value := l.map (Value.int .u8)
def Wf (l : List Int) : Prop := ∀ x ∈ l, 0 ≤ x ∧ x ≤ 255
theorem zdb (a b : List Int) : By (a ++ b) = By a ++ By b := by simp [By]
theorem zbd (a : List Int) : (By a).length = a.length := by simp [By]
theorem zbt (b : List Int) : ∀ u ∈ By b, u.oneCell' = true := ints_oneCell .u8 b
theorem Wf.append {a b : List Int} (ha : Wf a) (hb : Wf b) : Wf (a ++ b) := by
 intro x hx
 rcases List.mem_append.1 hx with h | h
 ·exact ha x h
 ·exact hb x h
theorem Wf.getD {l : List Int} (h : Wf l) (k : Nat) : 0 ≤ l.getD k 0 ∧ l.getD k 0 ≤ 255 := by
 by_cases hk : k < l.length
 ·have := h (l[k]) (List.getElem_mem hk)
  simpa [List.getD, zI hk] using this
 ·simp [List.getD, List.getElem?_eq_none (Nat.le_of_not_lt hk)]
theorem Wf.take {l : List Int} (h : Wf l) (k : Nat) : Wf (l.take k) := fun x hx => h x (List.mem_of_mem_take hx)
theorem Wf.drop {l : List Int} (h : Wf l) (k : Nat) : Wf (l.drop k) := fun x hx => h x (List.mem_of_mem_drop hx)
theorem Wf.nil : Wf [] := fun x hx => by cases hx
theorem Wf.cons {x : Int} {l : List Int} (hx : 0 ≤ x ∧ x ≤ 255) (h : Wf l) : Wf (x :: l) := by
 intro y hy
 rcases List.mem_cons.1 hy with e | e
 ·subst e; exact hx
 ·exact h y e
structure Sl (w : World) (ao : Option Addr) (n cap : Nat) (l : List Int) : Prop where
 hlen : l.length = n
 hcap : n ≤ cap
 hroom : n ≤ 140737488355328
 wf : Wf l
 hnil : ao = none → cap = 0
 hat : n = 0 ∨ ∃ b off, ao = some ⟨b, off, none⟩ ∧ b < w.heap.size ∧ ∀ i, i < n → w.cell? ⟨b, off + i, none⟩ = some (.int .u8 (l.getD i 0))
theorem Sl.on {w w' : World} {ao : Option Addr} {n cap : Nat} {l : List Int} (h : Sl w ao n cap l) {B : Nat} (hB : w.heap.size ≤ B) (hb : Below B w w') : Sl w' ao n cap l := by
 refine ⟨h.hlen, h.hcap, h.hroom, h.wf, h.hnil, ?_⟩
 rcases h.hat with h0 | ⟨b, off, e, A, hc⟩
 ·exact .inl h0
 ·exact .inr ⟨b, off, e, zO A hb.size, fun i hi => (hb.cell (p := ⟨b, off + i, none⟩) (zO A hB)).trans (hc i hi)⟩
def OwnB (w : World) (B : Nat) (v : Value) (l : List Int) : Prop := w.ownsRow B 5 1 v l.length (By l)
theorem OwnB.nil (w : World) (B : Nat) : OwnB w B (.slice none 0 0) [] := World.ownsRow_nil w B 5 1
theorem OwnB.alloc {w : World} {B : Nat} {v : Value} {l : List Int} (h : OwnB w B v l) (o : Obj) : OwnB (w.alloc o) B v l := World.ownsRow.alloc h o
theorem OwnB.on {w w' : World} {B C : Nat} {v : Value} {l : List Int} (h : OwnB w B v l) (hC : w.heap.size ≤ C) (hb : Below C w w') : OwnB w' B v l := by
 refine World.ownsRow.kept (row := none) h ⟨hb.os, hb.tape, hb.output, hb.size, fun k hk _ => hb.block k zq⟩ ?_
 cases hv : v.ownBlock with
 | none => exact .inl rfl
 | some k => exact .inr zv
theorem OwnB.sl {w : World} {B : Nat} {v : Value} {l : List Int} (h' : OwnB w B v l) (hw : Wf l) (hn : l.length ≤ 140737488355328) :
  ∃ ao cap, v = .slice ao l.length cap ∧ Sl w ao l.length cap l ∧ ∀ a, ao = some a → B ≤ a.block := by
 obtain ⟨n, hl⟩ : ∃ n, l.length = n := ⟨_, rfl⟩
 have h : w.ownsRow B 5 1 v n (By l) := by rw [← hl]; exact h'
 rw [hl] at hn ⊢
 rcases h.2 with ⟨rfl, rfl⟩ | ⟨g, cap, cur, rfl, hg, hh, A, hm, hs, ht⟩
 ·exact ⟨none, 0, rfl, ⟨hl, Lr, zq, hw, fun _ => rfl, .inl rfl⟩, fun a h => by cases h⟩
 ·refine ⟨some ⟨g, 0, none⟩, cap, rfl, ⟨hl, A, hn, hw, (by intro h; cases h), .inr ⟨g, 0, rfl, ?_, ?_⟩⟩, fun a h => by cases h; exact hg⟩
  ·rcases Nat.lt_or_ge g w.heap.size with hx | hx
   ·exact hx
   ·rw [Array.getElem?_eq_none hx] at hh; cases hh
  ·intro i hi
   have := h.cellAt i zq
   simp only [Nat.zero_add]
   rw [this]
   simp [By, List.getD, zI (show i < l.length by omega)]
theorem getElem?_By (l : List Int) (j : Nat) (u : Value) (h : (By l)[j]? = some u) : j < l.length ∧ u = .int .u8 (l.getD j 0) := by
 have hj : j < l.length := by
  have := (zH.1 h).1
  simpa [By] using this
 refine ⟨hj, ?_⟩
 simp [By, zI hj] at h
 simp [List.getD, zI hj, ← h]
theorem zcu {w w' : World} {B e size n : Nat} {v : Value} {xs : List Value} (h : w.ownsRow B e size v n xs) (hB : B ≤ w.heap.size) (hg : w.grownBy w' v.ownBlock) : Below B w w' :=
 (Below.refl B w).grown hg hB fun k hk => (h.lt k hk).1
theorem zdi {ops : Array Oper} {rest : List Oper} {o : Oper} {a : Act} {Q : Exit → Act → World → Prop} (w : World) (E : o.guard = none) (s x : Operand)
  (ho : o.op = .call { callee := .builtin .append, args := #[s, x], argTypes := #[22, 22] }) (B : Nat) (l : List Int) (v : Value) (hs : a.eval s = v)
  (C : OwnB w B v l) (ad : Addr) (m c : Nat) (news : List Int) (hx : a.eval x = .slice (some ad) m c) (hl : news.length = m)
  (D : ∀ j, j < m → w.cell? (ad.add j) = some (.int .u8 (news.getD j 0))) (hb : l.length + m ≤ 140737488355328) (A : B ≤ w.heap.size)
  (h : ∀ v' w', OwnB w' B v' (l ++ news) → Below B w w' → wpList Tryz.prog ops Q rest (a.put o.dst v') w') : wpList Tryz.prog ops Q (o :: rest) a w := by
 obtain ⟨i0, hi, F, G, H⟩ := info_parts info5
 refine wpList_append_own w E s x 22 ho B 5 i0 (.int .u8 0) 1 1 Tryz.underlying22 hi F G H rfl zd v l.length (By l) hs C ad m c (By news) hx (by simp [By, hl])
  (fun j u hu => by obtain ⟨h1, h2⟩ := getElem?_By news j u hu; rw [h2]; exact D j zq) (zbt news) zml zq A ?_
 intro v' w' h1 h2 _
 refine h v' w' ?_ (zcu C A h2)
 unfold OwnB
 rw [zdb, zG, hl]
 exact h1
theorem own_set {w : World} {B g k n cap : Nat} {l : List Int} {x : Int} (h : OwnB w B (.slice (some ⟨g, 0, none⟩) n cap) l) (hn : l.length = n) (hk : k < n) :
  OwnB (w.setCell ⟨g, k, none⟩ (.int .u8 x)) B (.slice (some ⟨g, 0, none⟩) n cap) (l.set k x) := by
 subst hn
 unfold OwnB at *
 have := (World.ownsRow.stored h k (.int .u8 x)).1
 simp only [List.length_set]
 rw [show By (l.set k x) = (By l).set k (.int .u8 x) from by simp [By, List.map_set]]
 exact this
theorem own_cell {w : World} {B g k n cap : Nat} {l : List Int} (h : OwnB w B (.slice (some ⟨g, 0, none⟩) n cap) l) (hn : l.length = n) (hk : k < n) : w.cell? ⟨g, k, none⟩ = some (.int .u8 (l.getD k 0)) := by
 subst hn
 unfold OwnB at h
 rw [World.ownsRow.cellAt h k zq]
 simp [By, List.getD, zI hk]
theorem own_free {w : World} {B g n cap : Nat} {l : List Int} (h : OwnB w B (.slice (some ⟨g, 0, none⟩) n cap) l) (hn : l.length = n) (k : Nat) : w.frozen? ⟨g, k, none⟩ = false := by
 subst hn
 exact World.ownsRow.frozenAt h k
theorem one_cell (w : World) (x : Int) : ∀ j, j < 1 → (w.alloc (.cells #[.int .u8 x] 5)).cell? ((⟨w.heap.size, 0, none⟩ : Addr).add j) = some (.int .u8 ([x].getD j 0)) := by
 intro j hj
 obtain rfl : j = 0 := zq
 simp [Addr.add]
def tabN : List Nat := [0, 274646895, 549293790, 820201905, 1098587580, 1361435347, 1640403810, 1905808397, 2197175160, 2460548119, 2722870694, 2987750089, 3280807620, 3553878443, 3811616794, 4084100981, 0, 4067132163, 3778769143, 324072436, 3348797215, 904991772, 648144872, 3570033899, 2329499855, 2024987596, 1809983544, 2575936315, 1296289744, 3207089363, 2893594407, 1578318884, 0, 1069937025, 2139874050, 1078858371, 4279748100, 3235002245, 2157716742, 3210335367, 4223924985, 3288730488, 2219317755, 3146639482, 81018109, 991022460, 2069880831, 1150955134, 0, 329422967, 658845934, 887597209, 1317691868, 1562966443, 1775194418, 2054015301, 2635383736, 2394315727, 3125932886, 2851302177, 3550388836, 3225172499, 4108030602, 3883469565, 0, 1889697162, 3779394324, 2447804062, 3345318105, 3083337043, 639728589, 1451427399, 2334619459, 4219800265, 1784908887, 448917981, 1279457178, 1021348368, 2902854798, 3718541572, 0, 2772537982, 1332695565, 3928932467, 2665391130, 1000289892, 3518101015, 1961911401, 944848581, 2635115707, 2000579784, 3531603638, 2794429151, 63834273, 3923822802, 1285642924, 0, 3915690301, 3609531531, 1044489654, 2879807463, 1120071386, 2088979308, 2515008081, 1386268991, 3150215170, 2240142772, 1826712713, 4177958616, 274868197, 774079059, 3343332206, 0, 3712330424, 3211207553, 1646430521, 2065838579, 2791807819, 3292861042, 419477706, 4131677158, 721537374, 1227047015, 2489772767, 2372293141, 1344534701, 838955412, 4014267180]
def tN (i : Nat) : Nat := tabN.getD i 0
theorem zai (i : Nat) : tN i < 4294967296 := by
 by_cases h : i < 128
 ·have h' : ∀ a : Fin 128, tN a.val < 4294967296 := by decide +kernel
  exact h' ⟨i, h⟩
 ·have : tN i = 0 := by
   unfold tN
   rw [List.getD_eq_getElem?_getD, List.getElem?_eq_none (by rw [show tabN.length = 128 from rfl]; omega)]
   rfl
  omega
def tb (R : Nat) : Nat := R / 256 ^^^ tN (16 + R % 16) ^^^ tN (R / 16 % 16)
def sh (R : Nat) : Nat := tN (112 + R % 16) ^^^ tN (96 + R / 16 % 16) ^^^ tN (80 + R / 256 % 16) ^^^ tN (64 + R / 4096 % 16) ^^^ tN (48 + R / 65536 % 16) ^^^ tN (32 + R / 1048576 % 16) ^^^ tN (16 + R / 16777216 % 16) ^^^ tN (R / 268435456)
theorem zam {a b : Nat} (ha : a < 4294967296) (hb : b < 4294967296) : a ^^^ b < 4294967296 := Nat.xor_lt_two_pow (n := 32) ha hb
theorem tb_lt {R : Nat} (h : R < 4294967296) : tb R < 4294967296 := zam (zam zq (zai _)) (zai _)
theorem sh_lt (R : Nat) : sh R < 4294967296 := zam (zam (zam (zam (zam (zam (zam (zai _) (zai _)) (zai _)) (zai _)) (zai _)) (zai _)) (zai _)) (zai _)
theorem and15 (a : Int) (h0 : 0 ≤ a) (h1 : a < 4294967296) : bits .and .u32 a 15 = a % 16 := by
 rw [u32_and _ _ zq zq zq zq, show (15 : Int).toNat = 2 ^ 4 - 1 from rfl, Nat.and_two_pow_sub_one_eq_mod]
 omega
def Tab (w : World) : Prop := ∀ i, i < 128 → w.cell? ⟨1, i, none⟩ = some (.int .u32 (tN i))
theorem Tab.on {w w' : World} (h : Tab w) {B : Nat} (hb : Below B w w') (hB : 1 < B) : Tab w' := fun i hi => (hb.cell (p := ⟨1, i, none⟩) hB).trans (h i hi)
theorem Tab.drewN {w : World} (h : Tab w) (q : Nat) : Tab (w.drewN q) := fun i hi => by simpa using h i hi
def tk1 (r : Nat) (l : List Nat) : Nat := l.foldl (fun r c => tb (r ^^^ c)) r
def tk : List Nat → Nat → Nat
 | a :: b :: c :: d :: l, r => tk l (sh (r ^^^ (a ||| b * 256 ||| c * 65536 ||| d * 16777216)))
 | l, r => tk1 r l
end Go.Proofs.YtbkhjeacmmbabaaGreatDoor
namespace Go.Proofs.YtbkhjeacmmbabaaGreatDoor
set_option maxRecDepth 100000
set_option maxHeartbeats 2000000
def uBf : Nat → Int → List Int
 | 0, n => [n]
 | f + 1, n => if n < 128 then [n] else (n % 128 + 128) :: uBf f (n / 128)
def uB (n : Int) : List Int := uBf 9 n
theorem uBf_length (f : Nat) : ∀ n, (uBf f n).length ≤ f + 1 ∧ 1 ≤ (uBf f n).length := by
 induction f with
 | zero => intro n; simp [uBf]
 | succ f ih =>
  intro n
  have := ih (n / 128)
  unfold uBf
  split <;> simp <;> omega
theorem uBf_more (f : Nat) : ∀ n, 0 ≤ n → n < 128 ^ (f + 1) → uBf (f + 1) n = uBf f n := by
 induction f with
 | zero => intro n h0 h; simp at h; simp [uBf, h]
 | succ f ih =>
  intro n h0 h
  have e := ih (n / 128) zq (by rw [Int.pow_succ] at h; omega)
  rw [uBf]
  conv => rhs; rw [uBf]
  rw [e]
theorem uBf_wf (f : Nat) : ∀ n, 0 ≤ n → n < 128 ^ (f + 1) → Wf (uBf f n) := by
 induction f with
 | zero => intro n h0 h; simp at h; exact Wf.cons ⟨h0, zq⟩ Wf.nil
 | succ f ih =>
  intro n h0 h
  have e := ih (n / 128) zq (by rw [Int.pow_succ] at h; omega)
  unfold uBf
  split
  ·exact Wf.cons zq Wf.nil
  ·exact Wf.cons zq e
theorem uB_small {n : Int} (h : n < 128) : uB n = [n] := by simp [uB, uBf, h]
theorem uB_step {n : Int} (h : ¬ n < 128) (hn : n < 18446744073709551616) : uB n = (n % 128 + 128) :: uB (n / 128) := by
 unfold uB
 rw [uBf_more 8 (n / 128) zq zso]
 rw [uBf, if_neg h]
theorem uB_wf {n : Int} (h0 : 0 ≤ n) (hn : n < 18446744073709551616) : Wf (uB n) := uBf_wf 9 n h0 zso
theorem zba (n : Int) : (uB n).length ≤ 10 ∧ 1 ≤ (uB n).length := uBf_length 9 n
theorem or128 (x : Int) : bits .or .u8 (x % 256) 128 = x % 128 + 128 := by
 rw [u8_or _ _ zq zq zq zq]
 have h : ∀ a : Fin 256, ((a.val ||| 128 : Nat)) = a.val % 128 + 128 := by decide +kernel
 have := h ⟨(x % 256).toNat, zq⟩
 simp only at this
 rw [show (128 : Int).toNat = 128 from rfl, this]
 omega
def fB : Nat → Int → List Int
 | 0, _ => []
 | j + 1, n => (n / 256 ^ j % 256) :: fB j n
theorem zah (j : Nat) (n : Int) : (fB j n).length = j := by
 induction j with
 | zero => rfl
 | succ j ih => simp [fB, ih]
theorem zbb (j : Nat) (n : Int) : Wf (fB j n) := by
 induction j with
 | zero => exact Wf.nil
 | succ j ih => exact Wf.cons zq ih
theorem fB_set (width j : Nat) (n : Int) (h : j < width) :
  (List.replicate (width - j) (0 : Int) ++ fB j n).set (width - j - 1) (n / 256 ^ j % 256) = List.replicate (width - (j + 1)) 0 ++ fB (j + 1) n := by
 have e : width - j = (width - (j + 1)) + 1 := zq
 rw [e]
 generalize width - (j + 1) = k
 rw [List.replicate_succ', zM, List.set_append_right _ _ zv]
 simp [fB]
theorem pow256 (n : Int) (j : Nat) : n / 256 ^ j / 256 = n / 256 ^ (j + 1) := by
 have h : (0 : Int) < 256 ^ j := Int.pow_pos zq
 rw [Int.pow_succ, Int.ediv_ediv, if_neg (fun h' => zq), Int.sub_zero]
def rdB (l : List Int) : Int := l.foldl (fun n c => n * 256 + c) 0
theorem rdB_snoc (l : List Int) (c : Int) : rdB (l ++ [c]) = rdB l * 256 + c := by simp [rdB]
theorem rdB_from (l : List Int) (h : Wf l) : ∀ (acc : Int) (k : Nat), 0 ≤ acc → acc < 256 ^ k → 0 ≤ l.foldl (fun n c => n * 256 + c) acc ∧ l.foldl (fun n c => n * 256 + c) acc < 256 ^ (k + l.length) := by
 induction l with
 | nil => intro acc k h0 h1; exact ⟨h0, h1⟩
 | cons c l ih =>
  intro acc k h0 h1
  have hc := h c zv
  have := ih (fun x hx => h x (by simp [hx])) (acc * 256 + c) (k + 1) zq (by rw [Int.pow_succ]; omega)
  simp only [List.foldl_cons, List.length_cons]
  rw [show k + (l.length + 1) = k + 1 + l.length by omega]
  exact this
theorem zdc (l : List Int) (h : Wf l) : 0 ≤ rdB l ∧ rdB l < 256 ^ l.length := by
 have := rdB_from l h 0 0 zq zv
 simpa [rdB] using this
theorem rdB_small (l : List Int) (h : Wf l) (k : Nat) (hk : k ≤ 7) (hl : l.length = k) : 0 ≤ rdB l ∧ rdB l ≤ 72057594037927935 := by
 have := zdc l h
 rw [hl] at this
 have h2 : k = 0 ∨ k = 1 ∨ k = 2 ∨ k = 3 ∨ k = 4 ∨ k = 5 ∨ k = 6 ∨ k = 7 := zq
 rcases h2 with rfl | rfl | rfl | rfl | rfl | rfl | rfl | rfl <;> simp at this <;> omega
theorem or_byte (x c : Int) (h0 : 0 ≤ x) (h1 : x ≤ 72057594037927935) (hc : 0 ≤ c ∧ c ≤ 255) : bits .or .u64 (x * 256) c = x * 256 + c := by
 rw [u64_or _ _ zq zq zq zq]
 have e1 : (x * 256).toNat = 2 ^ 8 * x.toNat := zq
 have e2 : c.toNat < 2 ^ 8 := zq
 rw [e1, ← Nat.two_pow_add_eq_or_of_lt e2]
 omega
theorem take_snoc (l : List Int) (k : Nat) (h : k < l.length) : l.take (k + 1) = l.take k ++ [l.getD k 0] := by
 rw [List.take_succ_eq_append_getElem h]
 simp [List.getD, zI h]
def rU (p : Int) : List Int → Nat → Int → Int × Int × Int
 | [], _, _ => (0, 0, 10)
 | c :: r, i, n => if i = 9 ∧ 1 < c then (0, 0, 12) else if 128 ≤ c then rU p r (i + 1) (n + (c - 128) * 128 ^ i) else if c = 0 ∧ 0 < i then (0, 0, 11) else (n + c * 128 ^ i, p + i + 1, 0)
theorem zbu (l : List Int) (k : Nat) (h : k < l.length) : l.drop k = l.getD k 0 :: l.drop (k + 1) := by
 rw [List.drop_eq_getElem_cons h]
 simp [List.getD, zI h]
theorem andNot_lo (c : Int) (h0 : 0 ≤ c) (h : c < 128) : bits .andNot .u8 c 128 = c := by
 rw [u8_andNot _ _ zq zq zq zq]
 have h' : ∀ a : Fin 128, ((a.val &&& (255 - 128) : Nat)) = a.val := by decide +kernel
 have := h' ⟨c.toNat, zq⟩
 simp only at this
 rw [show (128 : Int).toNat = 128 from rfl, this]
 omega
theorem andNot_hi (c : Int) (h0 : 128 ≤ c) (h : c ≤ 255) : bits .andNot .u8 c 128 = c - 128 := by
 rw [u8_andNot _ _ zq zq zq zq]
 have h' : ∀ a : Fin 128, (((a.val + 128) &&& (255 - 128) : Nat)) = a.val := by decide +kernel
 have := h' ⟨(c - 128).toNat, zq⟩
 simp only at this
 rw [show (128 : Int).toNat = 128 from rfl, show c.toNat = (c - 128).toNat + 128 by omega, this]
 omega
theorem or_nat (m d j : Nat) (h : m < 2 ^ j) : m ||| d * 2 ^ j = m + d * 2 ^ j := by
 rw [Nat.or_comm, Nat.mul_comm, ← Nat.two_pow_add_eq_or_of_lt h]
 omega
theorem or_up (m d : Int) (k : Nat) (h0 : 0 ≤ m) (hm : m < 128 ^ k) (hd : 0 ≤ d) (A : d < 128) (hk : k < 9 ∨ k = 9 ∧ d ≤ 1) :
  bits .or .u64 m (IntKind.u64.wrap (d * 2 ^ (7 * k))) = m + d * 128 ^ k ∧ m + d * 128 ^ k < 128 ^ (k + 1) ∧ (k < 9 ∨ m + d * 128 ^ k < 18446744073709551616) := by
 obtain ⟨M, rfl⟩ := Int.eq_ofNat_of_zero_le h0
 obtain ⟨D, rfl⟩ := Int.eq_ofNat_of_zero_le hd
 have hM : M < 128 ^ k := by exact_mod_cast hm
 have e : (128 : Nat) ^ k = 2 ^ (7 * k) := by rw [show (128 : Nat) = 2 ^ 7 from rfl, ← Nat.pow_mul]
 have hb : D * 128 ^ k + 128 ^ k ≤ 18446744073709551616 := by
  have h2 : k = 0 ∨ k = 1 ∨ k = 2 ∨ k = 3 ∨ k = 4 ∨ k = 5 ∨ k = 6 ∨ k = 7 ∨ k = 8 ∨ k = 9 := zq
  rcases h2 with rfl | rfl | rfl | rfl | rfl | rfl | rfl | rfl | rfl | rfl <;> simp only [Nat.reducePow] <;> omega
 have hw : IntKind.u64.wrap ((D : Int) * 2 ^ (7 * k)) = ((D * 2 ^ (7 * k) : Nat) : Int) := by
  rw [IntKind.wrap_u64]
  have : ((D : Int) * 2 ^ (7 * k)) = ((D * 2 ^ (7 * k) : Nat) : Int) := by push_cast; rfl
  rw [this, ← e]
  omega
 refine ⟨?_, ?_, ?_⟩
 ·rw [hw, u64_or_nat _ _ zq (by rw [← e]; omega), or_nat _ _ _ (by rw [← e]; exact hM), ← e]
  push_cast
  rfl
 ·have : M + D * 128 ^ k < 128 ^ (k + 1) := by
   rw [Nat.pow_succ]
   have : D * 128 ^ k ≤ 127 * 128 ^ k := Nat.mul_le_mul_right _ zq
   omega
  exact_mod_cast this
 ·right
  have : M + D * 128 ^ k < 18446744073709551616 := zq
  have e2 : (D : Int) * 128 ^ k = ((D * 128 ^ k : Nat) : Int) := by push_cast; rfl
  rw [e2]
  omega
def lcp : List Int → List Int → Nat
 | x :: a, y :: b => if x = y then lcp a b + 1 else 0
 | _, _ => 0
theorem lcp_le (a b : List Int) : lcp a b ≤ a.length ∧ lcp a b ≤ b.length := by
 induction a generalizing b with
 | nil => simp [lcp]
 | cons x a ih =>
  cases b with
  | nil => simp [lcp]
  | cons y b =>
   have := ih b
   unfold lcp
   split <;> simp <;> omega
theorem lcp_eq (a b : List Int) (k : Nat) (ha : k ≤ a.length) (hb : k ≤ b.length) (h : ∀ i, i < k → a.getD i 0 = b.getD i 0) (hk : k = a.length ∨ k = b.length ∨ a.getD k 0 ≠ b.getD k 0) : lcp a b = k := by
 induction a generalizing b k with
 | nil => simp at ha; subst ha; simp [lcp]
 | cons x a ih =>
  cases b with
  | nil => simp at hb; subst hb; simp [lcp]
  | cons y b =>
   cases k with
   | zero =>
    have : x ≠ y := by simpa using hk
    simp [lcp, this]
   | succ k =>
    have h0 : x = y := by simpa using h 0 zq
    simp only [List.length_cons, Nat.add_le_add_iff_right] at ha hb
    rw [lcp, if_pos h0, ih b k ha hb (fun i hi => by simpa using h (i + 1) zq) (by simpa using hk)]
theorem lcp_alike (a b : List Int) : ∀ i, i < lcp a b → a.getD i 0 = b.getD i 0 := by
 induction a generalizing b with
 | nil => intro i hi; simp [lcp] at hi
 | cons x a ih =>
  cases b with
  | nil => intro i hi; simp [lcp] at hi
  | cons y b =>
   intro i hi
   unfold lcp at hi
   split at hi
   ·rename_i h
    cases i with
    | zero => simpa using h
    | succ i => simpa using ih b i zq
   ·omega
theorem lcp_next (a b : List Int) (h1 : lcp a b < a.length) (h2 : lcp a b < b.length) : a.getD (lcp a b) 0 ≠ b.getD (lcp a b) 0 := by
 induction a generalizing b with
 | nil => simp at h1
 | cons x a ih =>
  cases b with
  | nil => simp at h2
  | cons y b =>
   by_cases h : x = y
   ·simp only [lcp, if_pos h, List.length_cons, Nat.add_lt_add_iff_right] at h1 h2 ⊢
    simpa using ih b h1 h2
   ·simp [lcp, h]
end Go.Proofs.YtbkhjeacmmbabaaGreatDoor
namespace Go.Proofs.YtbkhjeacmmbabaaGreatDoor
set_option maxRecDepth 100000
set_option maxHeartbeats 2000000
open Go.RowKit
theorem shifted_core (w : World) (R i0 i1 i2 i3 i4 i5 i6 i7 A0 A1 A2 A3 A4 A5 A6 A7 X1 X2 X3 X4 X5 X6 X7 : Nat)
  (h0 : bits .and .u32 (R : Int) 15 = (i0 : Int)) (h1 : bits .and .u32 ((R : Int) / 16) 15 = (i1 : Int)) (h2 : bits .and .u32 ((R : Int) / 256) 15 = (i2 : Int)) (h3 : bits .and .u32 ((R : Int) / 4096) 15 = (i3 : Int))
  (h4 : bits .and .u32 ((R : Int) / 65536) 15 = (i4 : Int)) (h5 : bits .and .u32 ((R : Int) / 1048576) 15 = (i5 : Int)) (h6 : bits .and .u32 ((R : Int) / 16777216) 15 = (i6 : Int)) (h7 : (R : Int) / 268435456 = (i7 : Int))
  (b0 : i0 < 16) (b1 : i1 < 16) (b2 : i2 < 16) (b3 : i3 < 16) (b4 : i4 < 16) (b5 : i5 < 16) (b6 : i6 < 16) (b7 : i7 < 16)
  (c0 : w.cell? ⟨1, 112 + i0, none⟩ = some (.int .u32 A0)) (c1 : w.cell? ⟨1, 96 + i1, none⟩ = some (.int .u32 A1)) (c2 : w.cell? ⟨1, 80 + i2, none⟩ = some (.int .u32 A2)) (c3 : w.cell? ⟨1, 64 + i3, none⟩ = some (.int .u32 A3))
  (c4 : w.cell? ⟨1, 48 + i4, none⟩ = some (.int .u32 A4)) (c5 : w.cell? ⟨1, 32 + i5, none⟩ = some (.int .u32 A5)) (c6 : w.cell? ⟨1, 16 + i6, none⟩ = some (.int .u32 A6)) (c7 : w.cell? ⟨1, i7, none⟩ = some (.int .u32 A7))
  (x1 : bits .xor .u32 (A0 : Int) (A1 : Int) = (X1 : Int)) (x2 : bits .xor .u32 (X1 : Int) (A2 : Int) = (X2 : Int)) (x3 : bits .xor .u32 (X2 : Int) (A3 : Int) = (X3 : Int)) (x4 : bits .xor .u32 (X3 : Int) (A4 : Int) = (X4 : Int))
  (x5 : bits .xor .u32 (X4 : Int) (A5 : Int) = (X5 : Int)) (x6 : bits .xor .u32 (X5 : Int) (A6 : Int) = (X6 : Int)) (x7 : bits .xor .u32 (X6 : Int) (A7 : Int) = (X7 : Int)) :
  Calls Tryz.prog 171 #[.int .u32 R] w fun e w' => e = .returned (.int .u32 X7) ∧ ∃ q, w' = w.drewN q := by
 go_enter Tryz.func171, Tryz.ntmps171
 go_wp2_with fail
 go_quiet (fail)
 go_wp2
 go_ret
 exact ⟨rfl, _, rfl⟩
theorem shifted_any (w : World) (R : Nat) (hR : R < 4294967296) (ht : Tab w) : Calls Tryz.prog 171 #[.int .u32 R] w fun e w' => e = .returned (.int .u32 (sh R)) ∧ ∃ q, w' = w.drewN q :=
 shifted_core w R (R % 16) (R / 16 % 16) (R / 256 % 16) (R / 4096 % 16) (R / 65536 % 16) (R / 1048576 % 16) (R / 16777216 % 16) (R / 268435456) _ _ _ _ _ _ _ _ _ _ _ _ _ _ _
  (by rw [and15 _ zq zq]; omega) (by rw [and15 _ zq zq]; omega) (by rw [and15 _ zq zq]; omega) (by rw [and15 _ zq zq]; omega)
  (by rw [and15 _ zq zq]; omega) (by rw [and15 _ zq zq]; omega) (by rw [and15 _ zq zq]; omega) zq
  zq zq zq zq zq zq zq zq
  (ht _ zq) (ht _ zq) (ht _ zq) (ht _ zq) (ht _ zq) (ht _ zq) (ht _ zq) (ht _ zq)
  (u32_xor_nat _ _ (zai _) (zai _)) (u32_xor_nat _ _ (zam (zai _) (zai _)) (zai _)) (u32_xor_nat _ _ (zam (zam (zai _) (zai _)) (zai _)) (zai _))
  (u32_xor_nat _ _ (zam (zam (zam (zai _) (zai _)) (zai _)) (zai _)) (zai _)) (u32_xor_nat _ _ (zam (zam (zam (zam (zai _) (zai _)) (zai _)) (zai _)) (zai _)) (zai _))
  (u32_xor_nat _ _ (zam (zam (zam (zam (zam (zai _) (zai _)) (zai _)) (zai _)) (zai _)) (zai _)) (zai _))
  (u32_xor_nat _ _ (zam (zam (zam (zam (zam (zam (zai _) (zai _)) (zai _)) (zai _)) (zai _)) (zai _)) (zai _)) (zai _))
theorem tb_pack (w : World) (r C : Nat) (ht : Tab w) (hr : r < 4294967296) (hC : C < 4294967296) : ∃ R i1 i2 D A B X1 X2 : Nat, bits .xor .u32 (r : Int) (C : Int) = (R : Int) ∧ bits .and .u32 (R : Int) 15 = (i1 : Int) ∧ bits .and .u32 ((R : Int) / 16) 15 = (i2 : Int) ∧
  i1 < 16 ∧ i2 < 16 ∧ (R : Int) / 256 = (D : Int) ∧ w.cell? ⟨1, 16 + i1, none⟩ = some (.int .u32 A) ∧ w.cell? ⟨1, i2, none⟩ = some (.int .u32 B) ∧ bits .xor .u32 (D : Int) (A : Int) = (X1 : Int) ∧ bits .xor .u32 (X1 : Int) (B : Int) = (X2 : Int) ∧
  Hid (X2 = tb (r ^^^ C)) ∧ X2 < 4294967296 := by
 have hR := zam hr hC
 refine ⟨r ^^^ C, (r ^^^ C) % 16, (r ^^^ C) / 16 % 16, (r ^^^ C) / 256, tN (16 + (r ^^^ C) % 16), tN ((r ^^^ C) / 16 % 16), _, _, u32_xor_nat _ _ hr hC, ?_, ?_, zq, zq, zq, ht _ zq, ht _ zq, u32_xor_nat _ _ zq (zai _), u32_xor_nat _ _ (zam zq (zai _)) (zai _), rfl, tb_lt hR⟩
 ·rw [and15 _ zq zq]; omega
 ·rw [and15 _ zq zq]; omega
theorem or_pack (r a b c d : Nat) (hr : r < 4294967296) (ha : a < 256) (hb : b < 256) (hc : c < 256) (hd : d < 256) : ∃ O1 O2 O3 X : Nat, bits .or .u32 (a : Int) ((b : Int) * 256) = (O1 : Int) ∧ bits .or .u32 (O1 : Int) ((c : Int) * 65536) = (O2 : Int) ∧
  bits .or .u32 (O2 : Int) ((d : Int) * 16777216) = (O3 : Int) ∧ bits .xor .u32 (r : Int) (O3 : Int) = (X : Int) ∧ Hid (X = r ^^^ (a ||| b * 256 ||| c * 65536 ||| d * 16777216)) ∧ X < 4294967296 := by
 have o1 : (a ||| b * 256) < 4294967296 := Nat.or_lt_two_pow (n := 32) zq zq
 have o2 : (a ||| b * 256 ||| c * 65536) < 4294967296 := Nat.or_lt_two_pow (n := 32) o1 zq
 have o3 : (a ||| b * 256 ||| c * 65536 ||| d * 16777216) < 4294967296 := Nat.or_lt_two_pow (n := 32) o2 zq
 exact ⟨_, _, _, _, by simpa using u32_or_nat a (b * 256) zq zq, by simpa using u32_or_nat _ (c * 65536) o1 zq, by simpa using u32_or_nat _ (d * 16777216) o2 zq, u32_xor_nat _ _ hr o3, rfl, zam hr o3⟩
theorem zcm {P : Program} {f : FuncId} {args : Array Value} {w : World} {v : Value} {Q : Ending → World → Prop} (h : Calls P f args w fun e w' => e = .returned v ∧ ∃ q, w' = w.drewN q) (hQ : ∀ q, Q (.returned v) (w.drewN q)) : Calls P f args w Q :=
 h.mono fun e w' ⟨he, q, hw⟩ => by subst he; rw [hw]; exact hQ q
theorem tk_four (l : List Int) (r : Nat) (h : 4 ≤ l.length) : tk (l.map Int.toNat) r = tk ((l.drop 4).map Int.toNat) (sh (r ^^^ ((l.getD 0 0).toNat ||| (l.getD 1 0).toNat * 256 ||| (l.getD 2 0).toNat * 65536 ||| (l.getD 3 0).toNat * 16777216))) := by
 match l, h with
 | a :: b :: c :: d :: l, _ => simp [tk]
theorem tk_less (l : List Int) (r : Nat) (h : l.length < 4) : tk (l.map Int.toNat) r = tk1 r (l.map Int.toNat) := by
 match l, h with
 | [], _ => rfl
 | [_], _ => rfl
 | [_, _], _ => rfl
 | [_, _, _], _ => rfl
theorem tk1_cons (l : List Int) (k r : Nat) (h : k < l.length) : tk1 r ((l.drop k).map Int.toNat) = tk1 (tb (r ^^^ (l.getD k 0).toNat)) ((l.drop (k + 1)).map Int.toNat) := by
 rw [zbu l k h]
 simp [tk1]
theorem Sl.four {w : World} {b off n cap : Nat} {l : List Int} (h : Sl w (some ⟨b, off, none⟩) n cap l) (h4 : 4 ≤ n) (ao : Option Addr) (A : ¬ cap = 4 → ao = some ⟨b, off + 4, none⟩) (hn : ao = none → False) : Sl w ao (n - 4) (cap - 4) (l.drop 4) := by
 obtain ⟨G, H, F, B, I, C⟩ := h
 refine ⟨by simp; omega, zq, zq, B.drop 4, fun e => (hn e).elim, ?_⟩
 rcases C with h0 | ⟨b', off', e, D, hc⟩
 ·omega
 ·cases e
  by_cases E : cap = 4
  ·exact .inl zq
  ·refine .inr ⟨b, off + 4, A E, D, fun i hi => ?_⟩
   rw [Nat.add_assoc, hc (4 + i) zq]
   simp [List.getD]
theorem taken_any (ao : Option Addr) (n cap : Nat) (l : List Int) (r : Nat) (w : World) (hs : Sl w ao n cap l) (ht : Tab w) (hr : r < 4294967296) :
  Calls Tryz.prog 157 #[.int .u32 r, .slice ao n cap] w fun e w' => e = .returned (.int .u32 (tk (l.map Int.toNat) r)) ∧ ∃ q, w' = w.drewN q := by
 have HT := zaa ht
 have HS := zaa hs
 clear ht hs
 generalize hF : tk (l.map Int.toNat) r = F
 have HF := zaa hF
 clear hF
 go_enter Tryz.func157, Tryz.ntmps157
 go_wp2_with fail
 go_loopw [0, 1] (fun v p wr => ∃ (ao' : Option Addr) (n' cap' : Nat) (l' : List Int) (q x : Nat), v = .int .u32 x ∧ x < 4294967296 ∧ p = .slice ao' n' cap' ∧ Hid (Sl w ao' n' cap' l') ∧ Hid (tk (l'.map Int.toNat) x = F) ∧ wr = w.drewN q) (fun _ p _ => match p with | .slice _ n _ => n | _ => 0)
 case atStart => exact ⟨ao, n, cap, l, 0, r, rfl, hr, rfl, HS, HF, rfl⟩
 case round =>
  obtain ⟨ao', n', cap', l', q, x, rfl, hx, rfl, HS', HF', rfl⟩ := hrel
  have hl' := HS'.out.hlen
  have J := HS'.out.hroom
  by_cases h4 : 4 ≤ n'
  ·rcases HS'.out.hat with h | ⟨b, off, rfl, H, hc⟩
   ·omega
   have c0 := hc 0 zq
   have c1 := hc 1 zq
   have c2 := hc 2 zq
   have c3 := hc 3 zq
   have w0 := HS'.out.wf.getD 0
   have w1 := HS'.out.wf.getD 1
   have w2 := HS'.out.wf.getD 2
   have w3 := HS'.out.wf.getD 3
   have K := HS'.out.hcap
   have e4 := tk_four l' x zq
   rw [HF'.out] at e4
   clear hc
   generalize l'.getD 0 0 = a0 at *
   generalize l'.getD 1 0 = a1 at *
   generalize l'.getD 2 0 = a2 at *
   generalize l'.getD 3 0 = a3 at *
   obtain ⟨B0, rfl⟩ := Int.eq_ofNat_of_zero_le w0.1
   obtain ⟨B1, rfl⟩ := Int.eq_ofNat_of_zero_le w1.1
   obtain ⟨B2, rfl⟩ := Int.eq_ofNat_of_zero_le w2.1
   obtain ⟨B3, rfl⟩ := Int.eq_ofNat_of_zero_le w3.1
   simp only [Int.toNat_natCast] at e4
   obtain ⟨O1, O2, O3, X, o1, o2, o3, ox, HX, hX⟩ := or_pack x B0 B1 B2 B3 hx zq zq zq zq
   rw [← HX.out] at e4
   have E4 := zaa e4
   clear e4 HX
   simp only [Nat.add_zero] at c0
   go_wp2_with fail
   go_quiet (fail)
   go_wp2_with fail
   have E := shifted_any (w.drewN (q + nq)) X hX (HT.out.drewN _)
   have hS := sh_lt X
   generalize sh X = S at *
   refine zcm E ?_
   clear E c0 c1 c2 c3 o1 o2 o3 ox w0 w1 w2 w3
   intro q2
   by_cases G : cap' = 4
   ·have HN := zaa (HS'.out.four h4 (some ⟨b, off, none⟩) (fun h => absurd G h) (fun h => by cases h))
    subst G
    go_wp2
    go_roundw
    case rel => exact ⟨_, _, _, l'.drop 4, _, S, rfl, hS, rfl, by have h := HN.out; rw [show n' - 4 = 0 by omega] at h; exact h, E4.out.symm, rfl⟩
    case measure => simp; omega
   ·have HN := zaa (HS'.out.four h4 (some ⟨b, off + 4, none⟩) (fun _ => rfl) (fun h => by cases h))
    go_wp2
    go_roundw
    case rel => exact ⟨_, _, _, l'.drop 4, _, S, rfl, hS, rfl, HN, E4.out.symm, rfl⟩
    case measure => simp; omega
  ·have e1 := tk_less l' x zq
   rw [HF'.out] at e1
   have E1 := zaa e1
   clear e1 HF' HF HS
   go_wp2_with fail
   go_loopw [0, 40] (fun v i wr => ∃ (k q y : Nat), k ≤ n' ∧ i = .int .i64 k ∧ v = .int .u32 y ∧ y < 4294967296 ∧ Hid (F = tk1 y ((l'.drop k).map Int.toNat)) ∧ wr = w.drewN q) (fun _ i _ => n' - (intOf i).toNat)
   case atStart => exact ⟨0, q, x, zq, rfl, rfl, hx, E1, rfl⟩
   case round =>
    obtain ⟨k, q', y, hk, rfl, rfl, hy, HK, rfl⟩ := hrel
    clear E1
    by_cases I : k < n'
    ·rcases HS'.out.hat with h | ⟨b, off, rfl, H, hc⟩
     ·omega
     have ck := hc k I
     have wk := HS'.out.wf.getD k
     have ek := tk1_cons l' k y zq
     rw [← HK.out] at ek
     clear hc
     generalize l'.getD k 0 = a0 at *
     obtain ⟨C, rfl⟩ := Int.eq_ofNat_of_zero_le wk.1
     simp only [Int.toNat_natCast] at ek
     obtain ⟨R, i1, i2, D, A, B, X1, X2, p1, p2, p3, p4, p5, p6, p7, p8, p9, p10, HX, hX⟩ := tb_pack w y C HT.out hy zq
     rw [← HX.out] at ek
     have EK := zaa ek
     clear ek HX HK
     go_wp2_with fail
     go_quiet (fail)
     go_wp2
     go_roundw
     case rel => exact ⟨k + 1, _, X2, zq, by go_num, rfl, hX, EK, rfl⟩
     case measure => simp [intOf]; omega
    ·have eK : F = y := by
      rw [HK.out, List.drop_eq_nil_of_le zq]
      rfl
     have EK := zaa eK
     clear eK HK
     go_wp2
     go_ret
     exact ⟨zbf (by rw [EK.out]), _, rfl⟩
end Go.Proofs.YtbkhjeacmmbabaaGreatDoor
