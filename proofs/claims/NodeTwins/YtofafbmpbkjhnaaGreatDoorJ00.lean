import Derived.Test.YtofafbmpbkjhnaaGreatDoorProg
import Derived.WalkKit
import Derived.OpenShut
import Derived.Laws.BytesArg
namespace Go.Proofs.YtofafbmpbkjhnaaGreatDoor
set_option maxRecDepth 100000
open Go.RowKit
theorem Lr {n : Nat} : n ≤ n := Nat.le_refl n
theorem Br {B : Nat} {w : World} : Below B w w := Below.refl B w
theorem zA : type_of% @List.getElem_toArray.{0} := @List.getElem_toArray.{0}
theorem zB : type_of% @List.getElem_cons_succ.{0} := @List.getElem_cons_succ.{0}
theorem zC : type_of% @List.getElem_cons_zero.{0} := @List.getElem_cons_zero.{0}
theorem zD : type_of% @List.setIfInBounds_toArray.{0} := @List.setIfInBounds_toArray.{0}
theorem zE : type_of% @List.set_cons_zero.{0} := @List.set_cons_zero.{0}
theorem zF : type_of% @List.set_cons_succ.{0} := @List.set_cons_succ.{0}
theorem zG : type_of% @List.length_append.{0} := @List.length_append.{0}
theorem zH : type_of% @List.getElem?_eq_some_iff.{0} := @List.getElem?_eq_some_iff.{0}
theorem zI : type_of% @List.getElem?_eq_getElem.{0} := @List.getElem?_eq_getElem.{0}
theorem zJ : type_of% @List.length_take.{0} := @List.length_take.{0}
theorem zK : type_of% @List.length_drop.{0} := @List.length_drop.{0}
theorem zL : type_of% @List.getElem?_append_left.{0} := @List.getElem?_append_left.{0}
theorem zM : type_of% @List.append_assoc.{0} := @List.append_assoc.{0}
theorem zN : type_of% @Nat.le_trans := @Nat.le_trans
theorem zO : type_of% @Nat.lt_of_lt_of_le := @Nat.lt_of_lt_of_le
theorem zP : type_of% @decide_eq_false_iff_not := @decide_eq_false_iff_not
theorem zQ : type_of% @decide_eq_true_iff := @decide_eq_true_iff
theorem zaw : (Tryz.prog.info? 5).map (fun i => (i.zero, i.size, i.bytes)) = some (some (.int .u8 0), 1, 1) := by kernel_rfl
theorem zae {P : Program} {f : FuncId} {args : Array Value} {w : World} {v : Value} {Q : Ending → World → Prop} (h : Calls P f args w fun e w' => e = .returned v ∧ w' = w) (hQ : Q (.returned v) w) : Calls P f args w Q :=
 h.mono fun e w' ⟨he, hw⟩ => by subst he; rw [hw]; exact hQ
theorem zcc {k : IntKind} {a b : Int} (h : a = b) : Ending.returned (.int k a) = .returned (.int k b) := by rw [h]
theorem zaa {p : Prop} (h : p) : Hid p := h
def By (l : List Int) : List Value := l.map (Value.int .u8)
def Wf (l : List Int) : Prop := ∀ x ∈ l, 0 ≤ x ∧ x ≤ 255
theorem zda (a b : List Int) : By (a ++ b) = By a ++ By b := by simp [By]
theorem zax (a : List Int) : (By a).length = a.length := by simp [By]
theorem zbt (b : List Int) : ∀ u ∈ By b, u.oneCell' = true := ints_oneCell .u8 b
theorem Wf.append {a b : List Int} (ha : Wf a) (hb : Wf b) : Wf (a ++ b) := by
 intro x hx
 rcases List.mem_append.1 hx with h | h
 ·exact ha x h
 ·exact hb x h
theorem Wf.getD {l : List Int} (h : Wf l) (k : Nat) : 0 ≤ l.getD k 0 ∧ l.getD k 0 ≤ 255 := by
 by_cases hk : k < l.length
 ·have := h (l[k]) (List.getElem_mem hk)
  simpa [List.getD, zI hk] using this
 ·simp [List.getD, List.getElem?_eq_none (Nat.le_of_not_lt hk)]
theorem Wf.take {l : List Int} (h : Wf l) (k : Nat) : Wf (l.take k) := fun x hx => h x (List.mem_of_mem_take hx)
theorem Wf.drop {l : List Int} (h : Wf l) (k : Nat) : Wf (l.drop k) := fun x hx => h x (List.mem_of_mem_drop hx)
theorem Wf.nil : Wf [] := fun x hx => by cases hx
theorem Wf.cons {x : Int} {l : List Int} (hx : 0 ≤ x ∧ x ≤ 255) (h : Wf l) : Wf (x :: l) := by
 intro y hy
 rcases List.mem_cons.1 hy with e | e
 ·subst e; exact hx
 ·exact h y e
structure Sl (w : World) (ao : Option Addr) (n cap : Nat) (l : List Int) : Prop where
 hlen : l.length = n
 hcap : n ≤ cap
 hroom : n ≤ 140737488355328
 wf : Wf l
 hnil : ao = none → cap = 0
 hat : n = 0 ∨ ∃ b off, ao = some ⟨b, off, none⟩ ∧ b < w.heap.size ∧ ∀ i, i < n → w.cell? ⟨b, off + i, none⟩ = some (.int .u8 (l.getD i 0))
theorem Sl.on {w w' : World} {ao : Option Addr} {n cap : Nat} {l : List Int} (h : Sl w ao n cap l) {B : Nat} (hB : w.heap.size ≤ B) (hb : Below B w w') : Sl w' ao n cap l := by
 refine ⟨h.hlen, h.hcap, h.hroom, h.wf, h.hnil, ?_⟩
 rcases h.hat with h0 | ⟨b, off, e, hlt, hc⟩
 ·exact .inl h0
 ·exact .inr ⟨b, off, e, zO hlt hb.size, fun i hi => (hb.cell (p := ⟨b, off + i, none⟩) (zO hlt hB)).trans (hc i hi)⟩
def OwnB (w : World) (B : Nat) (v : Value) (l : List Int) : Prop := w.ownsRow B 5 1 v l.length (By l)
theorem OwnB.nil (w : World) (B : Nat) : OwnB w B (.slice none 0 0) [] := World.ownsRow_nil w B 5 1
theorem OwnB.alloc {w : World} {B : Nat} {v : Value} {l : List Int} (h : OwnB w B v l) (o : Obj) : OwnB (w.alloc o) B v l := World.ownsRow.alloc h o
theorem OwnB.on {w w' : World} {B C : Nat} {v : Value} {l : List Int} (h : OwnB w B v l) (hC : w.heap.size ≤ C) (hb : Below C w w') : OwnB w' B v l := by
 refine World.ownsRow.kept (row := none) h ⟨hb.os, hb.tape, hb.output, hb.size, fun k hk _ => hb.block k (by omega)⟩ ?_
 cases hv : v.ownBlock with
 | none => exact .inl rfl
 | some k => exact .inr (by simp)
theorem OwnB.sl {w : World} {B : Nat} {v : Value} {l : List Int} (h' : OwnB w B v l) (hw : Wf l) (hn : l.length ≤ 140737488355328) :
  ∃ ao cap, v = .slice ao l.length cap ∧ Sl w ao l.length cap l ∧ ∀ a, ao = some a → B ≤ a.block := by
 obtain ⟨n, hl⟩ : ∃ n, l.length = n := ⟨_, rfl⟩
 have h : w.ownsRow B 5 1 v n (By l) := by rw [← hl]; exact h'
 rw [hl] at hn ⊢
 rcases h.2 with ⟨rfl, rfl⟩ | ⟨g, cap, cur, rfl, hg, hh, hnc, hm, hs, ht⟩
 ·exact ⟨none, 0, rfl, ⟨hl, Lr, by omega, hw, fun _ => rfl, .inl rfl⟩, fun a h => by cases h⟩
 ·refine ⟨some ⟨g, 0, none⟩, cap, rfl, ⟨hl, hnc, hn, hw, (by intro h; cases h), .inr ⟨g, 0, rfl, ?_, ?_⟩⟩, fun a h => by cases h; exact hg⟩
  ·rcases Nat.lt_or_ge g w.heap.size with hx | hx
   ·exact hx
   ·rw [Array.getElem?_eq_none hx] at hh; cases hh
  ·intro i hi
   have := h.cellAt i (by omega)
   simp only [Nat.zero_add]
   rw [this]
   simp [By, List.getD, zI (show i < l.length by omega)]
theorem getElem?_By (l : List Int) (j : Nat) (u : Value) (h : (By l)[j]? = some u) : j < l.length ∧ u = .int .u8 (l.getD j 0) := by
 have hj : j < l.length := by
  have := (zH.1 h).1
  simpa [By] using this
 refine ⟨hj, ?_⟩
 simp [By, zI hj] at h
 simp [List.getD, zI hj, ← h]
theorem zcq {w w' : World} {B e size n : Nat} {v : Value} {xs : List Value} (h : w.ownsRow B e size v n xs) (hB : B ≤ w.heap.size) (hg : w.grownBy w' v.ownBlock) : Below B w w' :=
 (Below.refl B w).grown hg hB fun k hk => (h.lt k hk).1
theorem app_bytes {ops : Array Oper} {rest : List Oper} {o : Oper} {a : Act} {Q : Exit → Act → World → Prop} (w : World) (hgd : o.guard = none) (s x : Operand)
  (ho : o.op = .call { callee := .builtin .append, args := #[s, x], argTypes := #[41, 41] }) (B : Nat) (l : List Int) (v : Value) (hs : a.eval s = v)
  (hown : OwnB w B v l) (ad : Addr) (m c : Nat) (news : List Int) (hx : a.eval x = .slice (some ad) m c) (hl : news.length = m)
  (hnews : ∀ j, j < m → w.cell? (ad.add j) = some (.int .u8 (news.getD j 0))) (hb : l.length + m ≤ 140737488355328) (hbase : B ≤ w.heap.size)
  (h : ∀ v' w', OwnB w' B v' (l ++ news) → Below B w w' → wpList Tryz.prog ops Q rest (a.put o.dst v') w') : wpList Tryz.prog ops Q (o :: rest) a w := by
 obtain ⟨i0, hi, hz0, hz1, hz2⟩ := info_parts zaw
 refine wpList_append_own w hgd s x 41 ho B 5 i0 (.int .u8 0) 1 1 Tryz.underlying41 hi hz0 hz1 hz2 rfl (by decide) v l.length (By l) hs hown ad m c (By news) hx (by simp [By, hl])
  (fun j u hu => by obtain ⟨h1, h2⟩ := getElem?_By news j u hu; rw [h2]; exact hnews j (by omega)) (zbt news) (by unfold maxLen; omega) (by omega) hbase ?_
 intro v' w' h1 h2 _
 refine h v' w' ?_ (zcq hown hbase h2)
 unfold OwnB
 rw [zda, zG, hl]
 exact h1
theorem own_set {w : World} {B g k n cap : Nat} {l : List Int} {x : Int} (h : OwnB w B (.slice (some ⟨g, 0, none⟩) n cap) l) (hn : l.length = n) (hk : k < n) :
  OwnB (w.setCell ⟨g, k, none⟩ (.int .u8 x)) B (.slice (some ⟨g, 0, none⟩) n cap) (l.set k x) := by
 subst hn
 unfold OwnB at *
 have := (World.ownsRow.stored h k (.int .u8 x)).1
 simp only [List.length_set]
 rw [show By (l.set k x) = (By l).set k (.int .u8 x) from by simp [By, List.map_set]]
 exact this
theorem one_cell (w : World) (x : Int) : ∀ j, j < 1 → (w.alloc (.cells #[.int .u8 x] 5)).cell? ((⟨w.heap.size, 0, none⟩ : Addr).add j) = some (.int .u8 ([x].getD j 0)) := by
 intro j hj
 obtain rfl : j = 0 := by omega
 simp [Addr.add]
end Go.Proofs.YtofafbmpbkjhnaaGreatDoor
namespace Go.Proofs.YtofafbmpbkjhnaaGreatDoor
set_option maxRecDepth 100000
def uBf : Nat → Int → List Int
 | 0, n => [n]
 | f + 1, n => if n < 128 then [n] else (n % 128 + 128) :: uBf f (n / 128)
def uB (n : Int) : List Int := uBf 9 n
theorem uBf_length (f : Nat) : ∀ n, (uBf f n).length ≤ f + 1 ∧ 1 ≤ (uBf f n).length := by
 induction f with
 | zero => intro n; simp [uBf]
 | succ f ih =>
  intro n
  have := ih (n / 128)
  unfold uBf
  split <;> simp <;> omega
theorem uBf_more (f : Nat) : ∀ n, 0 ≤ n → n < 128 ^ (f + 1) → uBf (f + 1) n = uBf f n := by
 induction f with
 | zero => intro n h0 h; simp at h; simp [uBf, h]
 | succ f ih =>
  intro n h0 h
  have e := ih (n / 128) (by omega) (by rw [Int.pow_succ] at h; omega)
  rw [uBf]
  conv => rhs; rw [uBf]
  rw [e]
theorem uBf_wf (f : Nat) : ∀ n, 0 ≤ n → n < 128 ^ (f + 1) → Wf (uBf f n) := by
 induction f with
 | zero => intro n h0 h; simp at h; exact Wf.cons ⟨h0, by omega⟩ Wf.nil
 | succ f ih =>
  intro n h0 h
  have e := ih (n / 128) (by omega) (by rw [Int.pow_succ] at h; omega)
  unfold uBf
  split
  ·exact Wf.cons (by omega) Wf.nil
  ·exact Wf.cons (by omega) e
theorem zcr {n : Int} (h : n < 128) : uB n = [n] := by simp [uB, uBf, h]
theorem uB_step {n : Int} (h : ¬ n < 128) (hn : n < 18446744073709551616) : uB n = (n % 128 + 128) :: uB (n / 128) := by
 unfold uB
 rw [uBf_more 8 (n / 128) (by omega) (by simp; omega)]
 rw [uBf, if_neg h]
theorem uB_wf {n : Int} (h0 : 0 ≤ n) (hn : n < 18446744073709551616) : Wf (uB n) := uBf_wf 9 n h0 (by simp; omega)
theorem zas (n : Int) : (uB n).length ≤ 10 ∧ 1 ≤ (uB n).length := uBf_length 9 n
theorem or128 (x : Int) : bits .or .u8 (x % 256) 128 = x % 128 + 128 := by
 rw [u8_or _ _ (by omega) (by omega) (by omega) (by omega)]
 have h : ∀ a : Fin 256, ((a.val ||| 128 : Nat)) = a.val % 128 + 128 := by decide +kernel
 have := h ⟨(x % 256).toNat, by omega⟩
 simp only at this
 rw [show (128 : Int).toNat = 128 from rfl, this]
 omega
def fB : Nat → Int → List Int
 | 0, _ => []
 | j + 1, n => (n / 256 ^ j % 256) :: fB j n
theorem zal (j : Nat) (n : Int) : (fB j n).length = j := by
 induction j with
 | zero => rfl
 | succ j ih => simp [fB, ih]
theorem fB_wf (j : Nat) (n : Int) : Wf (fB j n) := by
 induction j with
 | zero => exact Wf.nil
 | succ j ih => exact Wf.cons (by omega) ih
theorem fB_set (width j : Nat) (n : Int) (h : j < width) :
  (List.replicate (width - j) (0 : Int) ++ fB j n).set (width - j - 1) (n / 256 ^ j % 256) = List.replicate (width - (j + 1)) 0 ++ fB (j + 1) n := by
 have e : width - j = (width - (j + 1)) + 1 := by omega
 rw [e]
 generalize width - (j + 1) = k
 rw [List.replicate_succ', zM, List.set_append_right _ _ (by simp)]
 simp [fB]
theorem pow256 (n : Int) (j : Nat) : n / 256 ^ j / 256 = n / 256 ^ (j + 1) := by
 have h : (0 : Int) < 256 ^ j := Int.pow_pos (by omega)
 rw [Int.pow_succ, Int.ediv_ediv, if_neg (fun h' => by omega), Int.sub_zero]
def rdB (l : List Int) : Int := l.foldl (fun n c => n * 256 + c) 0
theorem rdB_snoc (l : List Int) (c : Int) : rdB (l ++ [c]) = rdB l * 256 + c := by simp [rdB]
theorem rdB_from (l : List Int) (h : Wf l) : ∀ (acc : Int) (k : Nat), 0 ≤ acc → acc < 256 ^ k → 0 ≤ l.foldl (fun n c => n * 256 + c) acc ∧ l.foldl (fun n c => n * 256 + c) acc < 256 ^ (k + l.length) := by
 induction l with
 | nil => intro acc k h0 h1; exact ⟨h0, h1⟩
 | cons c l ih =>
  intro acc k h0 h1
  have hc := h c (by simp)
  have := ih (fun x hx => h x (by simp [hx])) (acc * 256 + c) (k + 1) (by omega) (by rw [Int.pow_succ]; omega)
  simp only [List.foldl_cons, List.length_cons]
  rw [show k + (l.length + 1) = k + 1 + l.length by omega]
  exact this
theorem zdb (l : List Int) (h : Wf l) : 0 ≤ rdB l ∧ rdB l < 256 ^ l.length := by
 have := rdB_from l h 0 0 (by omega) (by simp)
 simpa [rdB] using this
theorem rdB_small (l : List Int) (h : Wf l) (k : Nat) (hk : k ≤ 7) (hl : l.length = k) : 0 ≤ rdB l ∧ rdB l ≤ 72057594037927935 := by
 have := zdb l h
 rw [hl] at this
 have h2 : k = 0 ∨ k = 1 ∨ k = 2 ∨ k = 3 ∨ k = 4 ∨ k = 5 ∨ k = 6 ∨ k = 7 := by omega
 rcases h2 with rfl | rfl | rfl | rfl | rfl | rfl | rfl | rfl <;> simp at this <;> omega
theorem or_byte (x c : Int) (h0 : 0 ≤ x) (h1 : x ≤ 72057594037927935) (hc : 0 ≤ c ∧ c ≤ 255) : bits .or .u64 (x * 256) c = x * 256 + c := by
 rw [u64_or _ _ (by omega) (by omega) (by omega) (by omega)]
 have e1 : (x * 256).toNat = 2 ^ 8 * x.toNat := by omega
 have e2 : c.toNat < 2 ^ 8 := by omega
 rw [e1, ← Nat.two_pow_add_eq_or_of_lt e2]
 omega
theorem take_snoc (l : List Int) (k : Nat) (h : k < l.length) : l.take (k + 1) = l.take k ++ [l.getD k 0] := by
 rw [List.take_succ_eq_append_getElem h]
 simp [List.getD, zI h]
def rU (p : Int) : List Int → Nat → Int → Int × Int × Int
 | [], _, _ => (0, 0, 10)
 | c :: r, i, n => if i = 9 ∧ 1 < c then (0, 0, 12) else if 128 ≤ c then rU p r (i + 1) (n + (c - 128) * 128 ^ i) else if c = 0 ∧ 0 < i then (0, 0, 11) else (n + c * 128 ^ i, p + i + 1, 0)
theorem drop_cons (l : List Int) (k : Nat) (h : k < l.length) : l.drop k = l.getD k 0 :: l.drop (k + 1) := by
 rw [List.drop_eq_getElem_cons h]
 simp [List.getD, zI h]
theorem andNot_lo (c : Int) (h0 : 0 ≤ c) (h : c < 128) : bits .andNot .u8 c 128 = c := by
 rw [u8_andNot _ _ (by omega) (by omega) (by omega) (by omega)]
 have h' : ∀ a : Fin 128, ((a.val &&& (255 - 128) : Nat)) = a.val := by decide +kernel
 have := h' ⟨c.toNat, by omega⟩
 simp only at this
 rw [show (128 : Int).toNat = 128 from rfl, this]
 omega
theorem andNot_hi (c : Int) (h0 : 128 ≤ c) (h : c ≤ 255) : bits .andNot .u8 c 128 = c - 128 := by
 rw [u8_andNot _ _ (by omega) (by omega) (by omega) (by omega)]
 have h' : ∀ a : Fin 128, (((a.val + 128) &&& (255 - 128) : Nat)) = a.val := by decide +kernel
 have := h' ⟨(c - 128).toNat, by omega⟩
 simp only at this
 rw [show (128 : Int).toNat = 128 from rfl, show c.toNat = (c - 128).toNat + 128 by omega, this]
 omega
theorem or_nat (m d j : Nat) (h : m < 2 ^ j) : m ||| d * 2 ^ j = m + d * 2 ^ j := by
 rw [Nat.or_comm, Nat.mul_comm, ← Nat.two_pow_add_eq_or_of_lt h]
 omega
theorem or_up (m d : Int) (k : Nat) (h0 : 0 ≤ m) (hm : m < 128 ^ k) (hd : 0 ≤ d) (hd1 : d < 128) (hk : k < 9 ∨ k = 9 ∧ d ≤ 1) :
  bits .or .u64 m (IntKind.u64.wrap (d * 2 ^ (7 * k))) = m + d * 128 ^ k ∧ m + d * 128 ^ k < 128 ^ (k + 1) ∧ (k < 9 ∨ m + d * 128 ^ k < 18446744073709551616) := by
 obtain ⟨M, rfl⟩ := Int.eq_ofNat_of_zero_le h0
 obtain ⟨D, rfl⟩ := Int.eq_ofNat_of_zero_le hd
 have hM : M < 128 ^ k := by exact_mod_cast hm
 have e : (128 : Nat) ^ k = 2 ^ (7 * k) := by rw [show (128 : Nat) = 2 ^ 7 from rfl, ← Nat.pow_mul]
 have hb : D * 128 ^ k + 128 ^ k ≤ 18446744073709551616 := by
  have h2 : k = 0 ∨ k = 1 ∨ k = 2 ∨ k = 3 ∨ k = 4 ∨ k = 5 ∨ k = 6 ∨ k = 7 ∨ k = 8 ∨ k = 9 := by omega
  rcases h2 with rfl | rfl | rfl | rfl | rfl | rfl | rfl | rfl | rfl | rfl <;> simp only [Nat.reducePow] <;> omega
 have hw : IntKind.u64.wrap ((D : Int) * 2 ^ (7 * k)) = ((D * 2 ^ (7 * k) : Nat) : Int) := by
  rw [IntKind.wrap_u64]
  have : ((D : Int) * 2 ^ (7 * k)) = ((D * 2 ^ (7 * k) : Nat) : Int) := by push_cast; rfl
  rw [this, ← e]
  omega
 refine ⟨?_, ?_, ?_⟩
 ·rw [hw, u64_or_nat _ _ (by omega) (by rw [← e]; omega), or_nat _ _ _ (by rw [← e]; exact hM), ← e]
  push_cast
  rfl
 ·have : M + D * 128 ^ k < 128 ^ (k + 1) := by
   rw [Nat.pow_succ]
   have : D * 128 ^ k ≤ 127 * 128 ^ k := Nat.mul_le_mul_right _ (by omega)
   omega
  exact_mod_cast this
 ·right
  have : M + D * 128 ^ k < 18446744073709551616 := by omega
  have e2 : (D : Int) * 128 ^ k = ((D * 128 ^ k : Nat) : Int) := by push_cast; rfl
  rw [e2]
  omega
def lcp : List Int → List Int → Nat
 | x :: a, y :: b => if x = y then lcp a b + 1 else 0
 | _, _ => 0
theorem lcp_le (a b : List Int) : lcp a b ≤ a.length ∧ lcp a b ≤ b.length := by
 induction a generalizing b with
 | nil => simp [lcp]
 | cons x a ih =>
  cases b with
  | nil => simp [lcp]
  | cons y b =>
   have := ih b
   unfold lcp
   split <;> simp <;> omega
theorem lcp_eq (a b : List Int) (k : Nat) (ha : k ≤ a.length) (hb : k ≤ b.length) (h : ∀ i, i < k → a.getD i 0 = b.getD i 0) (hk : k = a.length ∨ k = b.length ∨ a.getD k 0 ≠ b.getD k 0) : lcp a b = k := by
 induction a generalizing b k with
 | nil => simp at ha; subst ha; simp [lcp]
 | cons x a ih =>
  cases b with
  | nil => simp at hb; subst hb; simp [lcp]
  | cons y b =>
   cases k with
   | zero =>
    have : x ≠ y := by simpa using hk
    simp [lcp, this]
   | succ k =>
    have h0 : x = y := by simpa using h 0 (by omega)
    simp only [List.length_cons, Nat.add_le_add_iff_right] at ha hb
    rw [lcp, if_pos h0, ih b k ha hb (fun i hi => by simpa using h (i + 1) (by omega)) (by simpa using hk)]
theorem lcp_next (a b : List Int) (h1 : lcp a b < a.length) (h2 : lcp a b < b.length) : a.getD (lcp a b) 0 ≠ b.getD (lcp a b) 0 := by
 induction a generalizing b with
 | nil => simp at h1
 | cons x a ih =>
  cases b with
  | nil => simp at h2
  | cons y b =>
   by_cases h : x = y
   ·simp only [lcp, if_pos h, List.length_cons, Nat.add_lt_add_iff_right] at h1 h2 ⊢
    simpa using ih b h1 h2
   ·simp [lcp, h]
end Go.Proofs.YtofafbmpbkjhnaaGreatDoor
