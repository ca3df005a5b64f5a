import Derived.Test.YtjpmfgoodcldcaaGreatDoorProg
import Derived.WalkKit
import Derived.OpenShut
import Derived.Laws.BytesArg
import Derived.Deep.Draws
namespace Go.Proofs.YtjpmfgoodcldcaaGreatDoor
set_option maxRecDepth 100000
open Go.RowKit
theorem info5 : (Tryz.prog.info? 5).map (fun i => (i.zero, i.size, i.bytes)) = some (some (.int .u8 0), 1, 1) := by kernel_rfl
theorem same_call {P : Program} {f : FuncId} {args : Array Value} {w : World} {v : Value} {Q : Ending → World → Prop} (h : Calls P f args w fun e w' => e = .returned v ∧ w' = w) (hQ : Q (.returned v) w) : Calls P f args w Q :=
 h.mono fun e w' ⟨he, hw⟩ => by subst he; rw [hw]; exact hQ
theorem ret_int {k : IntKind} {a b : Int} (h : a = b) : Ending.returned (.int k a) = .returned (.int k b) := by rw [h]
theorem hidden {p : Prop} (h : p) : Hid p := h
def By (l : List Int) : List Value := l.map (Value.int .u8)
def Wf (l : List Int) : Prop := ∀ x ∈ l, 0 ≤ x ∧ x ≤ 255
theorem By_append (a b : List Int) : By (a ++ b) = By a ++ By b := by simp [By]
theorem By_length (a : List Int) : (By a).length = a.length := by simp [By]
theorem By_one (b : List Int) : ∀ u ∈ By b, u.oneCell' = true := ints_oneCell .u8 b
theorem Wf.append {a b : List Int} (ha : Wf a) (hb : Wf b) : Wf (a ++ b) := by
 intro x hx
 rcases List.mem_append.1 hx with h | h
 ·exact ha x h
 ·exact hb x h
theorem Wf.getD {l : List Int} (h : Wf l) (k : Nat) : 0 ≤ l.getD k 0 ∧ l.getD k 0 ≤ 255 := by
 by_cases hk : k < l.length
 ·have := h (l[k]) (List.getElem_mem hk)
  simpa [List.getD, List.getElem?_eq_getElem hk] using this
 ·simp [List.getD, List.getElem?_eq_none (Nat.le_of_not_lt hk)]
theorem Wf.take {l : List Int} (h : Wf l) (k : Nat) : Wf (l.take k) := fun x hx => h x (List.mem_of_mem_take hx)
theorem Wf.drop {l : List Int} (h : Wf l) (k : Nat) : Wf (l.drop k) := fun x hx => h x (List.mem_of_mem_drop hx)
theorem Wf.nil : Wf [] := fun x hx => by cases hx
theorem Wf.cons {x : Int} {l : List Int} (hx : 0 ≤ x ∧ x ≤ 255) (h : Wf l) : Wf (x :: l) := by
 intro y hy
 rcases List.mem_cons.1 hy with e | e
 ·subst e; exact hx
 ·exact h y e
structure Sl (w : World) (ao : Option Addr) (n cap : Nat) (l : List Int) : Prop where
 hlen : l.length = n
 hcap : n ≤ cap
 hroom : n ≤ 140737488355328
 wf : Wf l
 hnil : ao = none → cap = 0
 hat : n = 0 ∨ ∃ b off, ao = some ⟨b, off, none⟩ ∧ b < w.heap.size ∧ ∀ i, i < n → w.cell? ⟨b, off + i, none⟩ = some (.int .u8 (l.getD i 0))
theorem Sl.on {w w' : World} {ao : Option Addr} {n cap : Nat} {l : List Int} (h : Sl w ao n cap l) {B : Nat} (hB : w.heap.size ≤ B) (hb : Below B w w') : Sl w' ao n cap l := by
 refine ⟨h.hlen, h.hcap, h.hroom, h.wf, h.hnil, ?_⟩
 rcases h.hat with h0 | ⟨b, off, e, hlt, hc⟩
 ·exact .inl h0
 ·exact .inr ⟨b, off, e, Nat.lt_of_lt_of_le hlt hb.size, fun i hi => (hb.cell (p := ⟨b, off + i, none⟩) (Nat.lt_of_lt_of_le hlt hB)).trans (hc i hi)⟩
def OwnB (w : World) (B : Nat) (v : Value) (l : List Int) : Prop := w.ownsRow B 5 1 v l.length (By l)
theorem OwnB.nil (w : World) (B : Nat) : OwnB w B (.slice none 0 0) [] := World.ownsRow_nil w B 5 1
theorem OwnB.alloc {w : World} {B : Nat} {v : Value} {l : List Int} (h : OwnB w B v l) (o : Obj) : OwnB (w.alloc o) B v l := World.ownsRow.alloc h o
theorem OwnB.on {w w' : World} {B C : Nat} {v : Value} {l : List Int} (h : OwnB w B v l) (hC : w.heap.size ≤ C) (hb : Below C w w') : OwnB w' B v l := by
 refine World.ownsRow.kept (row := none) h ⟨hb.os, hb.tape, hb.output, hb.size, fun k hk _ => hb.block k (by omega)⟩ ?_
 cases hv : v.ownBlock with
 | none => exact .inl rfl
 | some k => exact .inr (by simp)
theorem OwnB.sl {w : World} {B : Nat} {v : Value} {l : List Int} (h' : OwnB w B v l) (hw : Wf l) (hn : l.length ≤ 140737488355328) :
  ∃ ao cap, v = .slice ao l.length cap ∧ Sl w ao l.length cap l ∧ ∀ a, ao = some a → B ≤ a.block := by
 obtain ⟨n, hl⟩ : ∃ n, l.length = n := ⟨_, rfl⟩
 have h : w.ownsRow B 5 1 v n (By l) := by rw [← hl]; exact h'
 rw [hl] at hn ⊢
 rcases h.2 with ⟨rfl, rfl⟩ | ⟨g, cap, cur, rfl, hg, hh, hnc, hm, hs, ht⟩
 ·exact ⟨none, 0, rfl, ⟨hl, Nat.le_refl _, by omega, hw, fun _ => rfl, .inl rfl⟩, fun a h => by cases h⟩
 ·refine ⟨some ⟨g, 0, none⟩, cap, rfl, ⟨hl, hnc, hn, hw, (by intro h; cases h), .inr ⟨g, 0, rfl, ?_, ?_⟩⟩, fun a h => by cases h; exact hg⟩
  ·rcases Nat.lt_or_ge g w.heap.size with hx | hx
   ·exact hx
   ·rw [Array.getElem?_eq_none hx] at hh; cases hh
  ·intro i hi
   have := h.cellAt i (by omega)
   simp only [Nat.zero_add]
   rw [this]
   simp [By, List.getD, List.getElem?_eq_getElem (show i < l.length by omega)]
theorem getElem?_By (l : List Int) (j : Nat) (u : Value) (h : (By l)[j]? = some u) : j < l.length ∧ u = .int .u8 (l.getD j 0) := by
 have hj : j < l.length := by
  have := (List.getElem?_eq_some_iff.1 h).1
  simpa [By] using this
 refine ⟨hj, ?_⟩
 simp [By, List.getElem?_eq_getElem hj] at h
 simp [List.getD, List.getElem?_eq_getElem hj, ← h]
theorem own_below {w w' : World} {B e size n : Nat} {v : Value} {xs : List Value} (h : w.ownsRow B e size v n xs) (hB : B ≤ w.heap.size) (hg : w.grownBy w' v.ownBlock) : Below B w w' :=
 (Below.refl B w).grown hg hB fun k hk => (h.lt k hk).1
theorem app_bytes {ops : Array Oper} {rest : List Oper} {o : Oper} {a : Act} {Q : Exit → Act → World → Prop} (w : World) (hgd : o.guard = none) (s x : Operand)
  (ho : o.op = .call { callee := .builtin .append, args := #[s, x], argTypes := #[30, 30] }) (B : Nat) (l : List Int) (v : Value) (hs : a.eval s = v)
  (hown : OwnB w B v l) (ad : Addr) (m c : Nat) (news : List Int) (hx : a.eval x = .slice (some ad) m c) (hl : news.length = m)
  (hnews : ∀ j, j < m → w.cell? (ad.add j) = some (.int .u8 (news.getD j 0))) (hb : l.length + m ≤ 140737488355328) (hbase : B ≤ w.heap.size)
  (h : ∀ v' w', OwnB w' B v' (l ++ news) → Below B w w' → wpList Tryz.prog ops Q rest (a.put o.dst v') w') : wpList Tryz.prog ops Q (o :: rest) a w := by
 obtain ⟨i0, hi, hz0, hz1, hz2⟩ := info_parts info5
 refine wpList_append_own w hgd s x 30 ho B 5 i0 (.int .u8 0) 1 1 Tryz.underlying30 hi hz0 hz1 hz2 rfl (by decide) v l.length (By l) hs hown ad m c (By news) hx (by simp [By, hl])
  (fun j u hu => by obtain ⟨h1, h2⟩ := getElem?_By news j u hu; rw [h2]; exact hnews j (by omega)) (By_one news) (by unfold maxLen; omega) (by omega) hbase ?_
 intro v' w' h1 h2 _
 refine h v' w' ?_ (own_below hown hbase h2)
 unfold OwnB
 rw [By_append, List.length_append, hl]
 exact h1
theorem own_set {w : World} {B g k n cap : Nat} {l : List Int} {x : Int} (h : OwnB w B (.slice (some ⟨g, 0, none⟩) n cap) l) (hn : l.length = n) (hk : k < n) :
  OwnB (w.setCell ⟨g, k, none⟩ (.int .u8 x)) B (.slice (some ⟨g, 0, none⟩) n cap) (l.set k x) := by
 subst hn
 unfold OwnB at *
 have := (World.ownsRow.stored h k (.int .u8 x)).1
 simp only [List.length_set]
 rw [show By (l.set k x) = (By l).set k (.int .u8 x) from by simp [By, List.map_set]]
 exact this
theorem one_cell (w : World) (x : Int) : ∀ j, j < 1 → (w.alloc (.cells #[.int .u8 x] 5)).cell? ((⟨w.heap.size, 0, none⟩ : Addr).add j) = some (.int .u8 ([x].getD j 0)) := by
 intro j hj
 obtain rfl : j = 0 := by omega
 simp [Addr.add]
end Go.Proofs.YtjpmfgoodcldcaaGreatDoor

namespace Go.Proofs.YtjpmfgoodcldcaaGreatDoor
set_option maxRecDepth 100000
open Go.RowKit
def tabN : List Nat := [0, 274646895, 549293790, 820201905, 1098587580, 1361435347, 1640403810, 1905808397, 2197175160, 2460548119, 2722870694, 2987750089, 3280807620, 3553878443, 3811616794, 4084100981, 0, 4067132163, 3778769143, 324072436, 3348797215, 904991772, 648144872, 3570033899, 2329499855, 2024987596, 1809983544, 2575936315, 1296289744, 3207089363, 2893594407, 1578318884, 0, 1069937025, 2139874050, 1078858371, 4279748100, 3235002245, 2157716742, 3210335367, 4223924985, 3288730488, 2219317755, 3146639482, 81018109, 991022460, 2069880831, 1150955134, 0, 329422967, 658845934, 887597209, 1317691868, 1562966443, 1775194418, 2054015301, 2635383736, 2394315727, 3125932886, 2851302177, 3550388836, 3225172499, 4108030602, 3883469565, 0, 1889697162, 3779394324, 2447804062, 3345318105, 3083337043, 639728589, 1451427399, 2334619459, 4219800265, 1784908887, 448917981, 1279457178, 1021348368, 2902854798, 3718541572, 0, 2772537982, 1332695565, 3928932467, 2665391130, 1000289892, 3518101015, 1961911401, 944848581, 2635115707, 2000579784, 3531603638, 2794429151, 63834273, 3923822802, 1285642924, 0, 3915690301, 3609531531, 1044489654, 2879807463, 1120071386, 2088979308, 2515008081, 1386268991, 3150215170, 2240142772, 1826712713, 4177958616, 274868197, 774079059, 3343332206, 0, 3712330424, 3211207553, 1646430521, 2065838579, 2791807819, 3292861042, 419477706, 4131677158, 721537374, 1227047015, 2489772767, 2372293141, 1344534701, 838955412, 4014267180]
def tN (i : Nat) : Nat := tabN.getD i 0
theorem tN_lt (i : Nat) : tN i < 4294967296 := by
 by_cases h : i < 128
 ·have h' : ∀ a : Fin 128, tN a.val < 4294967296 := by decide +kernel
  exact h' ⟨i, h⟩
 ·have : tN i = 0 := by
   unfold tN
   rw [List.getD_eq_getElem?_getD, List.getElem?_eq_none (by rw [show tabN.length = 128 from rfl]; omega)]
   rfl
  omega
def tb (R : Nat) : Nat := R / 256 ^^^ tN (16 + R % 16) ^^^ tN (R / 16 % 16)
def sh (R : Nat) : Nat := tN (112 + R % 16) ^^^ tN (96 + R / 16 % 16) ^^^ tN (80 + R / 256 % 16) ^^^ tN (64 + R / 4096 % 16) ^^^ tN (48 + R / 65536 % 16) ^^^ tN (32 + R / 1048576 % 16) ^^^ tN (16 + R / 16777216 % 16) ^^^ tN (R / 268435456)
theorem xor32 {a b : Nat} (ha : a < 4294967296) (hb : b < 4294967296) : a ^^^ b < 4294967296 := Nat.xor_lt_two_pow (n := 32) ha hb
theorem tb_lt {R : Nat} (h : R < 4294967296) : tb R < 4294967296 := xor32 (xor32 (by omega) (tN_lt _)) (tN_lt _)
theorem sh_lt (R : Nat) : sh R < 4294967296 := xor32 (xor32 (xor32 (xor32 (xor32 (xor32 (xor32 (tN_lt _) (tN_lt _)) (tN_lt _)) (tN_lt _)) (tN_lt _)) (tN_lt _)) (tN_lt _)) (tN_lt _)
theorem and15 (a : Int) (h0 : 0 ≤ a) (h1 : a < 4294967296) : bits .and .u32 a 15 = a % 16 := by
 rw [u32_and _ _ (by omega) (by omega) (by omega) (by omega), show (15 : Int).toNat = 2 ^ 4 - 1 from rfl, Nat.and_two_pow_sub_one_eq_mod]
 omega
def Tab (w : World) : Prop := ∀ i, i < 128 → w.cell? ⟨1, i, none⟩ = some (.int .u32 (tN i))
theorem Tab.on {w w' : World} (h : Tab w) {B : Nat} (hb : Below B w w') (hB : 1 < B) : Tab w' := fun i hi => (hb.cell (p := ⟨1, i, none⟩) hB).trans (h i hi)
theorem Tab.drewN {w : World} (h : Tab w) (q : Nat) : Tab (w.drewN q) := fun i hi => by simpa using h i hi
def tk1 (r : Nat) (l : List Nat) : Nat := l.foldl (fun r c => tb (r ^^^ c)) r
def tk : List Nat → Nat → Nat
 | a :: b :: c :: d :: l, r => tk l (sh (r ^^^ (a ||| b * 256 ||| c * 65536 ||| d * 16777216)))
 | l, r => tk1 r l
end Go.Proofs.YtjpmfgoodcldcaaGreatDoor

namespace Go.Proofs.YtjpmfgoodcldcaaGreatDoor
set_option maxRecDepth 100000
def uBf : Nat → Int → List Int
 | 0, n => [n]
 | f + 1, n => if n < 128 then [n] else (n % 128 + 128) :: uBf f (n / 128)
def fB : Nat → Int → List Int
 | 0, _ => []
 | j + 1, n => (n / 256 ^ j % 256) :: fB j n
theorem fB_length (j : Nat) (n : Int) : (fB j n).length = j := by
 induction j with
 | zero => rfl
 | succ j ih => simp [fB, ih]
theorem fB_wf (j : Nat) (n : Int) : Wf (fB j n) := by
 induction j with
 | zero => exact Wf.nil
 | succ j ih => exact Wf.cons (by omega) ih
theorem fB_set (width j : Nat) (n : Int) (h : j < width) :
  (List.replicate (width - j) (0 : Int) ++ fB j n).set (width - j - 1) (n / 256 ^ j % 256) = List.replicate (width - (j + 1)) 0 ++ fB (j + 1) n := by
 have e : width - j = (width - (j + 1)) + 1 := by omega
 rw [e]
 generalize width - (j + 1) = k
 rw [List.replicate_succ', List.append_assoc, List.set_append_right _ _ (by simp)]
 simp [fB]
theorem pow256 (n : Int) (j : Nat) : n / 256 ^ j / 256 = n / 256 ^ (j + 1) := by
 have h : (0 : Int) < 256 ^ j := Int.pow_pos (by omega)
 rw [Int.pow_succ, Int.ediv_ediv, if_neg (fun h' => by omega), Int.sub_zero]
def rdB (l : List Int) : Int := l.foldl (fun n c => n * 256 + c) 0
theorem rdB_snoc (l : List Int) (c : Int) : rdB (l ++ [c]) = rdB l * 256 + c := by simp [rdB]
theorem rdB_from (l : List Int) (h : Wf l) : ∀ (acc : Int) (k : Nat), 0 ≤ acc → acc < 256 ^ k → 0 ≤ l.foldl (fun n c => n * 256 + c) acc ∧ l.foldl (fun n c => n * 256 + c) acc < 256 ^ (k + l.length) := by
 induction l with
 | nil => intro acc k h0 h1; exact ⟨h0, h1⟩
 | cons c l ih =>
  intro acc k h0 h1
  have hc := h c (by simp)
  have := ih (fun x hx => h x (by simp [hx])) (acc * 256 + c) (k + 1) (by omega) (by rw [Int.pow_succ]; omega)
  simp only [List.foldl_cons, List.length_cons]
  rw [show k + (l.length + 1) = k + 1 + l.length by omega]
  exact this
theorem rdB_bound (l : List Int) (h : Wf l) : 0 ≤ rdB l ∧ rdB l < 256 ^ l.length := by
 have := rdB_from l h 0 0 (by omega) (by simp)
 simpa [rdB] using this
theorem rdB_small (l : List Int) (h : Wf l) (k : Nat) (hk : k ≤ 7) (hl : l.length = k) : 0 ≤ rdB l ∧ rdB l ≤ 72057594037927935 := by
 have := rdB_bound l h
 rw [hl] at this
 have h2 : k = 0 ∨ k = 1 ∨ k = 2 ∨ k = 3 ∨ k = 4 ∨ k = 5 ∨ k = 6 ∨ k = 7 := by omega
 rcases h2 with rfl | rfl | rfl | rfl | rfl | rfl | rfl | rfl <;> simp at this <;> omega
theorem or_byte (x c : Int) (h0 : 0 ≤ x) (h1 : x ≤ 72057594037927935) (hc : 0 ≤ c ∧ c ≤ 255) : bits .or .u64 (x * 256) c = x * 256 + c := by
 rw [u64_or _ _ (by omega) (by omega) (by omega) (by omega)]
 have e1 : (x * 256).toNat = 2 ^ 8 * x.toNat := by omega
 have e2 : c.toNat < 2 ^ 8 := by omega
 rw [e1, ← Nat.two_pow_add_eq_or_of_lt e2]
 omega
theorem take_snoc (l : List Int) (k : Nat) (h : k < l.length) : l.take (k + 1) = l.take k ++ [l.getD k 0] := by
 rw [List.take_succ_eq_append_getElem h]
 simp [List.getD, List.getElem?_eq_getElem h]
theorem drop_cons (l : List Int) (k : Nat) (h : k < l.length) : l.drop k = l.getD k 0 :: l.drop (k + 1) := by
 rw [List.drop_eq_getElem_cons h]
 simp [List.getD, List.getElem?_eq_getElem h]
end Go.Proofs.YtjpmfgoodcldcaaGreatDoor
