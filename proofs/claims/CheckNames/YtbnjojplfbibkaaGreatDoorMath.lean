/- The plain mathematics: what the functions of package ink come to, on lists of numbers. -/
import Derived.Test.YtbnjojplfbibkaaGreatDoorBase
namespace Go.Proofs.YtbnjojplfbibkaaGreatDoor

def uBf : Nat → Int → List Int
  | 0, n => [n]
  | f + 1, n => if n < 128 then [n] else (n % 128 + 128) :: uBf f (n / 128)
/-- A number in groups of seven bits. -/
def uB (n : Int) : List Int := uBf 9 n
set_option maxRecDepth 100000 in
theorem uBf_length (f : Nat) : ∀ n, (uBf f n).length ≤ f + 1 ∧ 1 ≤ (uBf f n).length := by
  induction f with
  | zero => intro n; simp [uBf]
  | succ f ih =>
    intro n
    have := ih (n / 128)
    unfold uBf
    split <;> simp <;> omega
set_option maxRecDepth 100000 in
theorem uBf_more (f : Nat) : ∀ n, 0 ≤ n → n < 128 ^ (f + 1) → uBf (f + 1) n = uBf f n := by
  induction f with
  | zero => intro n h0 h; simp at h; simp [uBf, h]
  | succ f ih =>
    intro n h0 h
    have e := ih (n / 128) (by omega) (by rw [Int.pow_succ] at h; omega)
    rw [uBf]
    conv => rhs; rw [uBf]
    rw [e]
set_option maxRecDepth 100000 in
theorem uBf_wf (f : Nat) : ∀ n, 0 ≤ n → n < 128 ^ (f + 1) → Wf (uBf f n) := by
  induction f with
  | zero => intro n h0 h; simp at h; exact Wf.cons ⟨h0, by omega⟩ Wf.nil
  | succ f ih =>
    intro n h0 h
    have e := ih (n / 128) (by omega) (by rw [Int.pow_succ] at h; omega)
    unfold uBf
    split
    · exact Wf.cons (by omega) Wf.nil
    · exact Wf.cons (by omega) e
set_option maxRecDepth 100000 in
theorem uB_small {n : Int} (h : n < 128) : uB n = [n] := by simp [uB, uBf, h]
set_option maxRecDepth 100000 in
theorem uB_step {n : Int} (h : ¬ n < 128) (hn : n < 18446744073709551616) : uB n = (n % 128 + 128) :: uB (n / 128) := by
  unfold uB
  rw [uBf_more 8 (n / 128) (by omega) (by simp; omega)]
  rw [uBf, if_neg h]
set_option maxRecDepth 100000 in
theorem uB_wf {n : Int} (h0 : 0 ≤ n) (hn : n < 18446744073709551616) : Wf (uB n) := uBf_wf 9 n h0 (by simp; omega)
set_option maxRecDepth 100000 in
theorem uB_length (n : Int) : (uB n).length ≤ 10 ∧ 1 ≤ (uB n).length := uBf_length 9 n

set_option maxRecDepth 100000 in
theorem or128 (x : Int) : bits .or .u8 (x % 256) 128 = x % 128 + 128 := by
  rw [u8_or _ _ (by omega) (by omega) (by omega) (by omega)]
  have h : ∀ a : Fin 256, ((a.val ||| 128 : Nat)) = a.val % 128 + 128 := by decide +kernel
  have := h ⟨(x % 256).toNat, by omega⟩
  simp only at this
  rw [show (128 : Int).toNat = 128 from rfl, this]
  omega

/-- A number's lowest bytes, the highest first. -/
def fB : Nat → Int → List Int
  | 0, _ => []
  | j + 1, n => (n / 256 ^ j % 256) :: fB j n
set_option maxRecDepth 100000 in
theorem fB_length (j : Nat) (n : Int) : (fB j n).length = j := by
  induction j with
  | zero => rfl
  | succ j ih => simp [fB, ih]
set_option maxRecDepth 100000 in
theorem fB_wf (j : Nat) (n : Int) : Wf (fB j n) := by
  induction j with
  | zero => exact Wf.nil
  | succ j ih => exact Wf.cons (by omega) ih
set_option maxRecDepth 100000 in
theorem fB_set (width j : Nat) (n : Int) (h : j < width) :
    (List.replicate (width - j) (0 : Int) ++ fB j n).set (width - j - 1) (n / 256 ^ j % 256) = List.replicate (width - (j + 1)) 0 ++ fB (j + 1) n := by
  have e : width - j = (width - (j + 1)) + 1 := by omega
  rw [e]
  generalize width - (j + 1) = k
  rw [List.replicate_succ', List.append_assoc, List.set_append_right _ _ (by simp)]
  simp [fB]
set_option maxRecDepth 100000 in
theorem pow256 (n : Int) (j : Nat) : n / 256 ^ j / 256 = n / 256 ^ (j + 1) := by
  have h : (0 : Int) < 256 ^ j := Int.pow_pos (by omega)
  rw [Int.pow_succ, Int.ediv_ediv, if_neg (fun h' => by omega), Int.sub_zero]

/-- The number that bytes are, the highest first. -/
def rdB (l : List Int) : Int := l.foldl (fun n c => n * 256 + c) 0
set_option maxRecDepth 100000 in
theorem rdB_snoc (l : List Int) (c : Int) : rdB (l ++ [c]) = rdB l * 256 + c := by simp [rdB]
set_option maxRecDepth 100000 in
theorem rdB_from (l : List Int) (h : Wf l) : ∀ (acc : Int) (k : Nat), 0 ≤ acc → acc < 256 ^ k → 0 ≤ l.foldl (fun n c => n * 256 + c) acc ∧ l.foldl (fun n c => n * 256 + c) acc < 256 ^ (k + l.length) := by
  induction l with
  | nil => intro acc k h0 h1; exact ⟨h0, h1⟩
  | cons c l ih =>
    intro acc k h0 h1
    have hc := h c (by simp)
    have := ih (fun x hx => h x (by simp [hx])) (acc * 256 + c) (k + 1) (by omega) (by rw [Int.pow_succ]; omega)
    simp only [List.foldl_cons, List.length_cons]
    rw [show k + (l.length + 1) = k + 1 + l.length by omega]
    exact this
set_option maxRecDepth 100000 in
theorem rdB_bound (l : List Int) (h : Wf l) : 0 ≤ rdB l ∧ rdB l < 256 ^ l.length := by
  have := rdB_from l h 0 0 (by omega) (by simp)
  simpa [rdB] using this
set_option maxRecDepth 100000 in
theorem rdB_small (l : List Int) (h : Wf l) (k : Nat) (hk : k ≤ 7) (hl : l.length = k) : 0 ≤ rdB l ∧ rdB l ≤ 72057594037927935 := by
  have := rdB_bound l h
  rw [hl] at this
  have h2 : k = 0 ∨ k = 1 ∨ k = 2 ∨ k = 3 ∨ k = 4 ∨ k = 5 ∨ k = 6 ∨ k = 7 := by omega
  rcases h2 with rfl | rfl | rfl | rfl | rfl | rfl | rfl | rfl <;> simp at this <;> omega
set_option maxRecDepth 100000 in
theorem or_byte (x c : Int) (h0 : 0 ≤ x) (h1 : x ≤ 72057594037927935) (hc : 0 ≤ c ∧ c ≤ 255) : bits .or .u64 (x * 256) c = x * 256 + c := by
  rw [u64_or _ _ (by omega) (by omega) (by omega) (by omega)]
  have e1 : (x * 256).toNat = 2 ^ 8 * x.toNat := by omega
  have e2 : c.toNat < 2 ^ 8 := by omega
  rw [e1, ← Nat.two_pow_add_eq_or_of_lt e2]
  omega
set_option maxRecDepth 100000 in
theorem take_snoc (l : List Int) (k : Nat) (h : k < l.length) : l.take (k + 1) = l.take k ++ [l.getD k 0] := by
  rw [List.take_succ_eq_append_getElem h]
  simp [List.getD, List.getElem?_eq_getElem h]

/-- What ReadUint comes to, from the place p on: the number, the place, the error. -/
def rU (p : Int) : List Int → Nat → Int → Int × Int × Int
  | [], _, _ => (0, 0, 10)
  | c :: r, i, n => if i = 9 ∧ 1 < c then (0, 0, 12) else if 128 ≤ c then rU p r (i + 1) (n + (c - 128) * 128 ^ i) else if c = 0 ∧ 0 < i then (0, 0, 11) else (n + c * 128 ^ i, p + i + 1, 0)
set_option maxRecDepth 100000 in
theorem drop_cons (l : List Int) (k : Nat) (h : k < l.length) : l.drop k = l.getD k 0 :: l.drop (k + 1) := by
  rw [List.drop_eq_getElem_cons h]
  simp [List.getD, List.getElem?_eq_getElem h]
set_option maxRecDepth 100000 in
theorem andNot_lo (c : Int) (h0 : 0 ≤ c) (h : c < 128) : bits .andNot .u8 c 128 = c := by
  rw [u8_andNot _ _ (by omega) (by omega) (by omega) (by omega)]
  have h' : ∀ a : Fin 128, ((a.val &&& (255 - 128) : Nat)) = a.val := by decide +kernel
  have := h' ⟨c.toNat, by omega⟩
  simp only at this
  rw [show (128 : Int).toNat = 128 from rfl, this]
  omega
set_option maxRecDepth 100000 in
theorem andNot_hi (c : Int) (h0 : 128 ≤ c) (h : c ≤ 255) : bits .andNot .u8 c 128 = c - 128 := by
  rw [u8_andNot _ _ (by omega) (by omega) (by omega) (by omega)]
  have h' : ∀ a : Fin 128, (((a.val + 128) &&& (255 - 128) : Nat)) = a.val := by decide +kernel
  have := h' ⟨(c - 128).toNat, by omega⟩
  simp only at this
  rw [show (128 : Int).toNat = 128 from rfl, show c.toNat = (c - 128).toNat + 128 by omega, this]
  omega

set_option maxRecDepth 100000 in
theorem or_nat (m d j : Nat) (h : m < 2 ^ j) : m ||| d * 2 ^ j = m + d * 2 ^ j := by
  rw [Nat.or_comm, Nat.mul_comm, ← Nat.two_pow_add_eq_or_of_lt h]
  omega
set_option maxRecDepth 100000 in
theorem or_up (m d : Int) (k : Nat) (h0 : 0 ≤ m) (hm : m < 128 ^ k) (hd : 0 ≤ d) (hd1 : d < 128) (hk : k < 9 ∨ k = 9 ∧ d ≤ 1) :
    bits .or .u64 m (IntKind.u64.wrap (d * 2 ^ (7 * k))) = m + d * 128 ^ k ∧ m + d * 128 ^ k < 128 ^ (k + 1) ∧ (k < 9 ∨ m + d * 128 ^ k < 18446744073709551616) := by
  obtain ⟨M, rfl⟩ := Int.eq_ofNat_of_zero_le h0
  obtain ⟨D, rfl⟩ := Int.eq_ofNat_of_zero_le hd
  have hM : M < 128 ^ k := by exact_mod_cast hm
  have e : (128 : Nat) ^ k = 2 ^ (7 * k) := by rw [show (128 : Nat) = 2 ^ 7 from rfl, ← Nat.pow_mul]
  have hb : D * 128 ^ k + 128 ^ k ≤ 18446744073709551616 := by
    have h2 : k = 0 ∨ k = 1 ∨ k = 2 ∨ k = 3 ∨ k = 4 ∨ k = 5 ∨ k = 6 ∨ k = 7 ∨ k = 8 ∨ k = 9 := by omega
    rcases h2 with rfl | rfl | rfl | rfl | rfl | rfl | rfl | rfl | rfl | rfl <;> simp only [Nat.reducePow] <;> omega
  have hw : IntKind.u64.wrap ((D : Int) * 2 ^ (7 * k)) = ((D * 2 ^ (7 * k) : Nat) : Int) := by
    rw [IntKind.wrap_u64]
    have : ((D : Int) * 2 ^ (7 * k)) = ((D * 2 ^ (7 * k) : Nat) : Int) := by push_cast; rfl
    rw [this, ← e]
    omega
  refine ⟨?_, ?_, ?_⟩
  · rw [hw, u64_or_nat _ _ (by omega) (by rw [← e]; omega), or_nat _ _ _ (by rw [← e]; exact hM), ← e]
    push_cast
    rfl
  · have : M + D * 128 ^ k < 128 ^ (k + 1) := by
      rw [Nat.pow_succ]
      have : D * 128 ^ k ≤ 127 * 128 ^ k := Nat.mul_le_mul_right _ (by omega)
      omega
    exact_mod_cast this
  · right
    have : M + D * 128 ^ k < 18446744073709551616 := by omega
    have e2 : (D : Int) * 128 ^ k = ((D * 128 ^ k : Nat) : Int) := by push_cast; rfl
    rw [e2]
    omega

/-- Bytes in order. -/
def oC (c : Int) : List Int := if c = 0 then [0, 255] else [c]
def oM (l : List Int) : List Int := l.flatMap oC
def oB (l : List Int) : List Int := oM l ++ [0, 1]
set_option maxRecDepth 100000 in
theorem oM_snoc (l : List Int) (c : Int) : oM (l ++ [c]) = oM l ++ oC c := by simp [oM]
set_option maxRecDepth 100000 in
theorem oC_wf (c : Int) (h : 0 ≤ c ∧ c ≤ 255) : Wf (oC c) := by
  unfold oC
  split
  · exact Wf.cons (by omega) (Wf.cons (by omega) Wf.nil)
  · exact Wf.cons h Wf.nil
set_option maxRecDepth 100000 in
theorem oM_wf (l : List Int) (h : Wf l) : Wf (oM l) := by
  intro x hx
  obtain ⟨c, hc, hxc⟩ := List.mem_flatMap.1 hx
  exact oC_wf c (h c hc) x hxc
set_option maxRecDepth 100000 in
theorem oB_wf (l : List Int) (h : Wf l) : Wf (oB l) := (oM_wf l h).append (Wf.cons (by omega) (Wf.cons (by omega) Wf.nil))
set_option maxRecDepth 100000 in
theorem oM_length (l : List Int) : l.length ≤ (oM l).length ∧ (oM l).length ≤ 2 * l.length := by
  induction l with
  | nil => simp [oM]
  | cons c l ih =>
    have e : oM (c :: l) = oC c ++ oM l := by simp [oM]
    have h : 1 ≤ (oC c).length ∧ (oC c).length ≤ 2 := by unfold oC; split <;> simp
    rw [e]
    simp only [List.length_append, List.length_cons]
    omega
set_option maxRecDepth 100000 in
theorem oB_length (l : List Int) : l.length + 2 ≤ (oB l).length ∧ (oB l).length ≤ 2 * l.length + 2 := by
  have := oM_length l
  unfold oB
  simp only [List.length_append, List.length_cons, List.length_nil]
  omega

/-- How many bytes two texts begin with alike. -/
def lcp : List Int → List Int → Nat
  | x :: a, y :: b => if x = y then lcp a b + 1 else 0
  | _, _ => 0
set_option maxRecDepth 100000 in
theorem lcp_le (a b : List Int) : lcp a b ≤ a.length ∧ lcp a b ≤ b.length := by
  induction a generalizing b with
  | nil => simp [lcp]
  | cons x a ih =>
    cases b with
    | nil => simp [lcp]
    | cons y b =>
      have := ih b
      unfold lcp
      split <;> simp <;> omega
set_option maxRecDepth 100000 in
/-- k places alike, and then no more, or the end of one. -/
theorem lcp_eq (a b : List Int) (k : Nat) (ha : k ≤ a.length) (hb : k ≤ b.length) (h : ∀ i, i < k → a.getD i 0 = b.getD i 0) (hk : k = a.length ∨ k = b.length ∨ a.getD k 0 ≠ b.getD k 0) : lcp a b = k := by
  induction a generalizing b k with
  | nil => simp at ha; subst ha; simp [lcp]
  | cons x a ih =>
    cases b with
    | nil => simp at hb; subst hb; simp [lcp]
    | cons y b =>
      cases k with
      | zero =>
        have : x ≠ y := by simpa using hk
        simp [lcp, this]
      | succ k =>
        have h0 : x = y := by simpa using h 0 (by omega)
        simp only [List.length_cons, Nat.add_le_add_iff_right] at ha hb
        rw [lcp, if_pos h0, ih b k ha hb (fun i hi => by simpa using h (i + 1) (by omega)) (by simpa using hk)]
set_option maxRecDepth 100000 in
theorem lcp_alike (a b : List Int) : ∀ i, i < lcp a b → a.getD i 0 = b.getD i 0 := by
  induction a generalizing b with
  | nil => intro i hi; simp [lcp] at hi
  | cons x a ih =>
    cases b with
    | nil => intro i hi; simp [lcp] at hi
    | cons y b =>
      intro i hi
      unfold lcp at hi
      split at hi
      · rename_i h
        cases i with
        | zero => simpa using h
        | succ i => simpa using ih b i (by omega)
      · omega
set_option maxRecDepth 100000 in
theorem lcp_next (a b : List Int) (h1 : lcp a b < a.length) (h2 : lcp a b < b.length) : a.getD (lcp a b) 0 ≠ b.getD (lcp a b) 0 := by
  induction a generalizing b with
  | nil => simp at h1
  | cons x a ih =>
    cases b with
    | nil => simp at h2
    | cons y b =>
      by_cases h : x = y
      · simp only [lcp, if_pos h, List.length_cons, Nat.add_lt_add_iff_right] at h1 h2 ⊢
        simpa using ih b h1 h2
      · simp [lcp, h]

/-- What ReadOrdered comes to: the bytes from place i on, what has been read so far. -/
def rO : List Int → Int → List Int → List Int × Int × Int
  | [], _, _ => ([], 0, 10)
  | c :: r, i, acc => if c ≠ 0 then rO r (i + 1) (acc ++ [c]) else
    match r with
    | [] => ([], 0, 10)
    | d :: r' => if d = 255 then rO r' (i + 2) (acc ++ [0]) else if d = 1 then (acc, i + 2, 0) else ([], 0, 11)
set_option maxRecDepth 100000 in
theorem rO_plain (c : Int) (r : List Int) (i : Int) (acc : List Int) (h : c ≠ 0) : rO (c :: r) i acc = rO r (i + 1) (acc ++ [c]) := by
  cases r <;> simp [rO, h]
set_option maxRecDepth 100000 in
theorem rO_cut (i : Int) (acc : List Int) : rO [0] i acc = ([], 0, 10) := by simp [rO]
set_option maxRecDepth 100000 in
theorem rO_two (d : Int) (r : List Int) (i : Int) (acc : List Int) : rO (0 :: d :: r) i acc = if d = 255 then rO r (i + 2) (acc ++ [0]) else if d = 1 then (acc, i + 2, 0) else ([], 0, 11) := by
  simp [rO]

end Go.Proofs.YtbnjojplfbibkaaGreatDoor
