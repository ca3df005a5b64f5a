/- A page with some bytes turned is none: plain mathematics. -/
import Derived.Test.YtoifjcliepongaaDoorMe
import Derived.Test.YtoifjcliepongaaDoorTurnMath
namespace Go.Proofs.YtoifjcliepongaaDoor

/-- A list of bytes as numbers. -/
def toI (l : List Nat) : List Int := l.map fun (x : Nat) => (x : Int)
set_option maxRecDepth 100000 in
theorem toI_toNat (l : List Nat) : (toI l).map Int.toNat = l := by
  unfold toI
  rw [List.map_map]
  conv => rhs; rw [← List.map_id l]
  congr 1
set_option maxRecDepth 100000 in
theorem toNat_toI (l : List Int) (h : Wf l) : toI (l.map Int.toNat) = l := by
  unfold toI
  rw [List.map_map]
  conv => rhs; rw [← List.map_id l]
  apply List.map_congr_left
  intro x hx
  have := h x hx
  simp
  omega
set_option maxRecDepth 100000 in
theorem toI_wf (l : List Nat) (h : ∀ x ∈ l, x < 256) : Wf (toI l) := by
  intro x hx
  obtain ⟨y, hy, rfl⟩ := List.mem_map.1 hx
  have := h y hy
  omega
set_option maxRecDepth 100000 in
theorem toI_length (l : List Nat) : (toI l).length = l.length := by simp [toI]
set_option maxRecDepth 100000 in
theorem toI_getD (l : List Nat) (k : Nat) : (toI l).getD k 0 = ((l.getD k 0 : Nat) : Int) := by
  unfold toI
  by_cases h : k < l.length
  · simp [List.getD, h]
  · simp [List.getD, List.getElem?_eq_none (Nat.le_of_not_lt h)]
set_option maxRecDepth 100000 in
theorem toI_set (l : List Nat) (k x : Nat) : (toI l).set k (x : Int) = toI (l.set k x) := by simp [toI, List.map_set]

set_option maxRecDepth 100000 in
theorem sum_one (l : List Int) (h : Wf l) : sumN [l] = 4294967295 ^^^ cr 4294967295 (l.map Int.toNat) := by
  show 4294967295 ^^^ tk (l.map Int.toNat) 4294967295 = _
  rw [tk_eq _ _ (by omega) (nat_lt l h)]
set_option maxRecDepth 100000 in
theorem sums_eq (a b : Nat) : ((4294967295 ^^^ a : Nat) = (4294967295 ^^^ b : Nat)) ↔ a = b := by
  constructor
  · intro h
    have h' := congrArg (4294967295 ^^^ ·) h
    simpa [← Nat.xor_assoc] using h'
  · rintro rfl; rfl


set_option maxRecDepth 100000 in
theorem xor_self_iff (x y : Nat) : x ^^^ y = x ↔ y = 0 := by
  constructor
  · intro h
    have h' := congrArg (x ^^^ ·) h
    simpa [← Nat.xor_assoc] using h'
  · rintro rfl; simp
set_option maxRecDepth 100000 in
theorem mod_step (V k : Nat) : V % 256 ^ (k + 1) = 0 ↔ V % 256 = 0 ∧ V / 256 % 256 ^ k = 0 := by
  rw [Nat.pow_succ, Nat.mul_comm, Nat.mod_mul]
  omega
set_option maxRecDepth 100000 in
theorem xorV_same : ∀ (l : List Nat) (V : Nat), xorV l V = l ↔ V % 256 ^ l.length = 0
  | [], V => by simp [xorV, Nat.mod_one]
  | x :: l, V => by
    rw [xorV, List.cons.injEq, xor_self_iff, xorV_same l, List.length_cons, mod_step]
set_option maxRecDepth 100000 in
theorem upd_same (l : List Nat) (a V m : Nat) (h : a + m ≤ l.length) : upd l a V m = l ↔ V % 256 ^ m = 0 := by
  have hL : ((l.drop a).take m).length = m := by simp; omega
  have e : l = l.take a ++ ((l.drop a).take m ++ l.drop (a + m)) := by
    rw [← List.drop_drop, List.take_append_drop, List.take_append_drop]
  rw [upd_eq l a V m h]
  have hx := xorV_same ((l.drop a).take m) V
  rw [hL] at hx
  rw [← hx]
  constructor
  · intro h1
    conv at h1 => rhs; rw [e]
    have h2 := List.append_cancel_left h1
    exact (List.append_inj h2 (by rw [xorV_length])).1
  · intro h1
    rw [h1]
    exact e.symm
set_option maxRecDepth 100000 in
theorem upd_take (l : List Nat) (a V : Nat) (b : Nat) : ∀ m, a + m ≤ b → b ≤ l.length → (upd l a V m).take b = upd (l.take b) a V m
  | 0, _, _ => rfl
  | m + 1, h, hb => by
    have ih := upd_take l a V b m (by omega) hb
    have hg : (upd (l.take b) a V m).getD (a + m) 0 = (upd l a V m).getD (a + m) 0 := by
      rw [← ih]
      simp only [List.getD, List.getElem?_take, if_pos (show a + m < b by omega)]
    rw [upd, List.take_set, ih, upd, hg]
set_option maxRecDepth 100000 in
theorem upd_take_ahead (l : List Nat) (a V : Nat) (b : Nat) (hb : b ≤ a) : ∀ m, (upd l a V m).take b = l.take b
  | 0 => rfl
  | m + 1 => by
    have ih := upd_take_ahead l a V b hb m
    rw [upd, List.take_set, ih, List.set_eq_of_length_le (by simp; omega)]
set_option maxRecDepth 100000 in
theorem upd_drop (l : List Nat) (a V : Nat) (b : Nat) : ∀ m, a + m ≤ b → (upd l a V m).drop b = l.drop b
  | 0, _ => rfl
  | m + 1, h => by
    have ih := upd_drop l a V b m (by omega)
    rw [upd, List.drop_set_of_lt (by omega), ih]
set_option maxRecDepth 100000 in
theorem toI_take (l : List Nat) (b : Nat) : (toI l).take b = toI (l.take b) := by simp [toI, List.map_take]
set_option maxRecDepth 100000 in
theorem toI_drop (l : List Nat) (b : Nat) : (toI l).drop b = toI (l.drop b) := by simp [toI, List.map_drop]
set_option maxRecDepth 100000 in
theorem toI_inj {a b : List Nat} (h : toI a = toI b) : a = b := by
  have := congrArg (List.map Int.toNat) h
  rwa [toI_toNat, toI_toNat] at this

set_option maxRecDepth 100000 in
/-- WHAT IS CHANGED WITHIN FOUR NEIGHBOURS, ALL AHEAD OF THE SUM OR ALL IN IT, MAKES NONE. -/
theorem turned_none (m : Mt) (h : m.ok) (A V k : Nat) (hk : k ≤ 4) (hV : V < 4294967296) (hV0 : V % 256 ^ k ≠ 0)
    (hA : A + k ≤ m.pg.toNat - 4 ∨ m.pg.toNat - 4 ≤ A ∧ A + k ≤ m.pg.toNat) : ¬ ∃ m', Says (toI (upd ((pageB m).map Int.toNat) A V k)) m' := by
  rintro ⟨m', h', e⟩
  have hp := pw_le h.pg
  have hp' := pw_le h'.pg
  have hlen := pageB_length m h
  have hlen' := pageB_length m' h'
  have hL : (toI (upd ((pageB m).map Int.toNat) A V k)).length = m.pg.toNat := by rw [toI_length, upd_length, List.length_map, hlen]
  have hpp : m'.pg.toNat = m.pg.toNat := by rw [← hlen', e, hL]
  have hb := bodyB_length m h
  have hb' := bodyB_length m' h'
  have hPN : (pageB m).map Int.toNat = (bodyB m).map Int.toNat ++ (fB 4 (sumN [bodyB m])).map Int.toNat := by rw [pageB, sealB, List.map_append]
  have ht : (pageB m').take (m.pg.toNat - 4) = bodyB m' := by rw [pageB, sealB, List.take_left' (by omega)]
  have hd : (pageB m').drop (m.pg.toNat - 4) = fB 4 (sumN [bodyB m']) := by rw [pageB, sealB, List.drop_left' (by omega)]
  have htm : ((pageB m).map Int.toNat).take (m.pg.toNat - 4) = (bodyB m).map Int.toNat := by rw [hPN, List.take_left' (by simp; omega)]
  have hdm : ((pageB m).map Int.toNat).drop (m.pg.toNat - 4) = (fB 4 (sumN [bodyB m])).map Int.toNat := by rw [hPN, List.drop_left' (by simp; omega)]
  rcases hA with hA | ⟨hA, hA2⟩
  · have e1 : bodyB m' = toI (upd ((bodyB m).map Int.toNat) A V k) := by
      rw [← ht, e, toI_take, upd_take _ _ _ _ _ hA (by rw [List.length_map, hlen]; omega), htm]
    have e2 : fB 4 (sumN [bodyB m'] : Nat) = fB 4 (sumN [bodyB m] : Nat) := by
      rw [← hd, e, toI_drop, upd_drop _ _ _ _ _ hA, hdm, toNat_toI _ (fB_wf _ _)]
    have e3 := fB4_inj (sumN_lt _ (bodyB_wf m')) (sumN_lt _ (bodyB_wf m)) e2
    rw [sum_one _ (bodyB_wf m'), sum_one _ (bodyB_wf m), sums_eq, e1, toI_toNat] at e3
    have h0 : 0 < V := by
      rcases Nat.eq_zero_or_pos V with h0 | h0
      · subst h0; simp at hV0
      · exact h0
    have := (turned_told ((bodyB m).map Int.toNat) A V 0 k 4294967295 (by rw [List.length_map, hb]; exact hA) (by omega) h0 hV (by omega))
    simp only [Nat.pow_zero, Nat.mul_one] at this
    exact hV0 (this.1 e3)
  · have e1 : bodyB m' = bodyB m := by
      rw [← ht, e, toI_take, upd_take_ahead _ _ _ _ hA, htm, toNat_toI _ (bodyB_wf m)]
    have e2 : toI (upd ((pageB m).map Int.toNat) A V k) = pageB m := by
      rw [← e]
      unfold pageB
      rw [e1]
    have e3 : upd ((pageB m).map Int.toNat) A V k = (pageB m).map Int.toNat := by
      rw [← toI_toNat (upd _ _ _ _), e2]
    exact hV0 ((upd_same _ _ _ _ (by rw [List.length_map, hlen]; exact hA2)).1 e3)
set_option maxRecDepth 100000 in
/-- Where nothing is changed, it is the page. -/
theorem turned_same (m : Mt) (h : m.ok) (A V k : Nat) (hA : A + k ≤ m.pg.toNat) (hV0 : V % 256 ^ k = 0) : toI (upd ((pageB m).map Int.toNat) A V k) = pageB m := by
  rw [(upd_same _ _ _ _ (by rw [List.length_map, pageB_length m h]; exact hA)).2 hV0, toNat_toI _ (pageB_wf m)]

/-- Bytes as a number, the lowest first. -/
def leN : List Int → Nat
  | [] => 0
  | c :: l => c.toNat + 256 * leN l
set_option maxRecDepth 100000 in
theorem leN_lt : ∀ (l : List Int), Wf l → leN l < 256 ^ l.length
  | [], _ => by simp [leN]
  | c :: l, h => by
    have ih := leN_lt l (fun x hx => h x (by simp [hx]))
    have hc := h c (by simp)
    rw [leN, List.length_cons, Nat.pow_succ]
    omega
set_option maxRecDepth 100000 in
theorem leN_digit : ∀ (l : List Int), Wf l → ∀ k, leN l / 256 ^ k % 256 = (l.getD k 0).toNat
  | [], _, k => by simp [leN]
  | c :: l, h, k => by
    have hc := h c (by simp)
    have ih := leN_digit l (fun x hx => h x (by simp [hx]))
    cases k with
    | zero => simp [leN]; omega
    | succ k =>
      rw [Nat.pow_succ, Nat.mul_comm (256 ^ k), ← Nat.div_div_eq_div_mul, leN, show (c.toNat + 256 * leN l) / 256 = leN l by omega, ih k]
      simp
/-- Was one of the first k bytes no zero? -/
def chB (l : List Int) : Nat → Bool
  | 0 => false
  | k + 1 => chB l k || (l.getD k 0 != 0)
set_option maxRecDepth 100000 in
theorem chB_iff (l : List Int) (hw : Wf l) : ∀ k, chB l k = true ↔ leN l % 256 ^ k ≠ 0
  | 0 => by simp [chB, Nat.mod_one]
  | k + 1 => by
    have ih := chB_iff l hw k
    have hd := leN_digit l hw k
    have hx := hw.getD k
    have e : leN l % 256 ^ (k + 1) = leN l % 256 ^ k + 256 ^ k * (leN l / 256 ^ k % 256) := by rw [Nat.pow_succ, Nat.mod_mul]
    rw [chB, Bool.or_eq_true, ih, e, hd]
    have hpos : 0 < 256 ^ k := Nat.pow_pos (by omega)
    constructor
    · rintro (h | h)
      · omega
      · have h1 : l.getD k 0 ≠ 0 := by simpa using h
        have h2 : 0 < (l.getD k 0).toNat := by omega
        have := Nat.mul_pos hpos h2
        omega
    · intro h
      by_cases h1 : leN l % 256 ^ k = 0
      · right
        have h2 : (l.getD k 0).toNat ≠ 0 := by
          intro h3
          rw [h1, h3] at h
          simp at h
        have h4 : l.getD k 0 ≠ 0 := by omega
        simpa using h4
      · exact .inl h1
end Go.Proofs.YtoifjcliepongaaDoor
