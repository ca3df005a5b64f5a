/- A meta's numbers, its page, and what a page says: plain mathematics. -/
import Derived.Test.YtbnjojplfbibkaaGreatDoorTurnMath
import Derived.Test.YtbnjojplfbibkaaGreatDoorBackMath
import Derived.Test.YtbnjojplfbibkaaGreatDoorSum
namespace Go.Proofs.YtbnjojplfbibkaaGreatDoor

/-- A meta's numbers. -/
structure Mt where
  en : Int
  pg : Int
  tx : Int
  ro : Int
  co : Int
  fr : Int
  li : Int
  hi : Int

/-- A power of two that a page's size may be. -/
def pw (n : Int) : Prop := n = 512 ∨ n = 1024 ∨ n = 2048 ∨ n = 4096 ∨ n = 8192 ∨ n = 16384 ∨ n = 32768 ∨ n = 65536
/-- The numbers are a meta's. -/
structure Mt.ok (m : Mt) : Prop where
  en : m.en = 1 ∨ m.en = 2
  pg : pw m.pg
  tx : 0 ≤ m.tx ∧ m.tx ≤ 1099511627776
  hi : 2 ≤ m.hi ∧ m.hi ≤ 65536
  ro : m.ro = 0 ∨ 2 ≤ m.ro ∧ m.ro < m.hi
  fr : m.fr = 0 ∨ 2 ≤ m.fr ∧ m.fr < m.hi
  co : 0 ≤ m.co ∧ m.co ≤ 256
  cr : m.co = 0 ↔ m.ro = 0
  li : 0 ≤ m.li ∧ m.li ≤ m.hi - 2
  lf : m.li = 0 ∨ m.fr ≠ 0
  rf : ¬ (m.ro = m.fr ∧ m.ro ≠ 0)
set_option maxRecDepth 100000 in
theorem pw_le {n : Int} (h : pw n) : 512 ≤ n ∧ n ≤ 65536 := by
  unfold pw at h
  omega

/-- k zeros. -/
def zs (k : Nat) : List Int := List.replicate k 0
set_option maxRecDepth 100000 in
theorem zs_length (k : Nat) : (zs k).length = k := by simp [zs]
set_option maxRecDepth 100000 in
theorem zs_wf (k : Nat) : Wf (zs k) := by
  intro x hx
  simp only [zs, List.mem_replicate] at hx
  omega
set_option maxRecDepth 100000 in
theorem zs_add (a b : Nat) : zs (a + b) = zs a ++ zs b := by
  unfold zs
  exact (List.replicate_append_replicate (n := a) (m := b)).symm

/-- The first 40 bytes of a meta page. -/
def hdB (m : Mt) : List Int := [1] ++ (fB 1 m.en ++ ([0, 0, 69, 83, 80, 76] ++ (fB 4 m.pg ++ (fB 8 m.tx ++ (fB 4 m.ro ++ (fB 4 m.co ++ (fB 4 m.fr ++ (fB 4 m.li ++ fB 4 m.hi))))))))
set_option maxRecDepth 100000 in
theorem hdB_length (m : Mt) : (hdB m).length = 40 := by simp [hdB, fB_length]
set_option maxRecDepth 100000 in
theorem hdB_wf (m : Mt) : Wf (hdB m) := by
  unfold hdB
  refine Wf.append (Wf.cons (by omega) Wf.nil) ((fB_wf _ _).append (Wf.append ?_ ((fB_wf _ _).append ((fB_wf _ _).append ((fB_wf _ _).append ((fB_wf _ _).append ((fB_wf _ _).append ((fB_wf _ _).append (fB_wf _ _)))))))))
  intro x hx
  simp only [List.mem_cons, List.not_mem_nil, or_false] at hx
  omega
/-- All ahead of the sum. -/
def bodyB (m : Mt) : List Int := hdB m ++ zs (m.pg.toNat - 44)
set_option maxRecDepth 100000 in
theorem bodyB_wf (m : Mt) : Wf (bodyB m) := (hdB_wf m).append (zs_wf _)
set_option maxRecDepth 100000 in
theorem bodyB_length (m : Mt) (h : m.ok) : (bodyB m).length = m.pg.toNat - 4 := by
  have := pw_le h.pg
  simp only [bodyB, List.length_append, hdB_length, zs_length]
  omega
/-- Bytes and their sum. -/
def sealB (l : List Int) : List Int := l ++ fB 4 (sumN [l])
set_option maxRecDepth 100000 in
theorem sealB_length (l : List Int) : (sealB l).length = l.length + 4 := by simp [sealB, fB_length]
set_option maxRecDepth 100000 in
theorem sealB_wf {l : List Int} (h : Wf l) : Wf (sealB l) := h.append (fB_wf _ _)
/-- THE META'S PAGE. -/
def pageB (m : Mt) : List Int := sealB (bodyB m)
set_option maxRecDepth 100000 in
theorem pageB_wf (m : Mt) : Wf (pageB m) := sealB_wf (bodyB_wf m)
set_option maxRecDepth 100000 in
theorem pageB_length (m : Mt) (h : m.ok) : (pageB m).length = m.pg.toNat := by
  have := pw_le h.pg
  rw [pageB, sealB_length, bodyB_length m h]
  omega

/-- The bytes l are just the page of m. -/
def Says (l : List Int) (m : Mt) : Prop := m.ok ∧ pageB m = l

/-- The number that stands at a place. -/
def rdN (l : List Int) (p w : Nat) : Int := rdB ((l.drop p).take w)
set_option maxRecDepth 100000 in
theorem rdN_mid (A F C : List Int) (p w : Nat) (hp : A.length = p) (hw : F.length = w) : rdN (A ++ (F ++ C)) p w = rdB F := by
  subst hp hw
  unfold rdN
  rw [List.drop_left, List.take_left]
set_option maxRecDepth 100000 in
theorem rdN_bound (l : List Int) (h : Wf l) (p w : Nat) : 0 ≤ rdN l p w ∧ rdN l p w < 256 ^ w := by
  have h1 := rdB_bound ((l.drop p).take w) ((h.drop p).take w)
  refine ⟨h1.1, Int.lt_of_lt_of_le h1.2 ?_⟩
  have h2 : ((l.drop p).take w).length ≤ w := by simp; omega
  have h3 : (256 : Nat) ^ ((l.drop p).take w).length ≤ 256 ^ w := Nat.pow_le_pow_right (by omega) h2
  exact_mod_cast h3
/-- What the bytes would say. -/
def rdM (l : List Int) : Mt := ⟨rdN l 1 1, rdN l 8 4, IntKind.i64.wrap (rdN l 12 8), rdN l 20 4, rdN l 24 4, rdN l 28 4, rdN l 32 4, rdN l 36 4⟩

set_option maxRecDepth 100000 in
theorem fB_read (w : Nat) (n : Int) (h0 : 0 ≤ n) (h : n < 256 ^ w) : rdB (fB w n) = n := by
  rw [rdB_fB w n h0]
  exact Int.emod_eq_of_lt h0 h
set_option maxRecDepth 100000 in
theorem wrap_small (n : Int) (h0 : 0 ≤ n) (h : n < 9223372036854775808) : IntKind.i64.wrap n = n := by
  rw [IntKind.wrap_i64]
  omega
set_option maxRecDepth 100000 in
theorem rdM_page (m : Mt) (h : m.ok) : rdM (pageB m) = m := by
  obtain ⟨en, pg, tx, hi, ro, fr, co, cr, li, lf, rf⟩ := h
  have hpg := pw_le pg
  obtain ⟨Z, hZ⟩ : ∃ Z, Z = zs (m.pg.toNat - 44) ++ fB 4 (sumN [bodyB m]) := ⟨_, rfl⟩
  have e : pageB m = [1] ++ (fB 1 m.en ++ ([0, 0, 69, 83, 80, 76] ++ (fB 4 m.pg ++ (fB 8 m.tx ++ (fB 4 m.ro ++ (fB 4 m.co ++ (fB 4 m.fr ++ (fB 4 m.li ++ (fB 4 m.hi ++ Z))))))))) := by
    rw [hZ]
    simp only [pageB, sealB, bodyB, hdB, List.append_assoc]
  have e1 : rdN (pageB m) 1 1 = m.en := by
    rw [e, rdN_mid [1] (fB 1 m.en) _ 1 1 rfl (fB_length _ _), fB_read 1 _ (by omega) (by simp; omega)]
  have e2 : rdN (pageB m) 8 4 = m.pg := by
    rw [e, show [1] ++ (fB 1 m.en ++ ([0, 0, 69, 83, 80, 76] ++ (fB 4 m.pg ++ (fB 8 m.tx ++ (fB 4 m.ro ++ (fB 4 m.co ++ (fB 4 m.fr ++ (fB 4 m.li ++ (fB 4 m.hi ++ Z))))))))) = ([1] ++ fB 1 m.en ++ [0, 0, 69, 83, 80, 76]) ++ (fB 4 m.pg ++ (fB 8 m.tx ++ (fB 4 m.ro ++ (fB 4 m.co ++ (fB 4 m.fr ++ (fB 4 m.li ++ (fB 4 m.hi ++ Z))))))) from by simp only [List.append_assoc],
      rdN_mid _ (fB 4 m.pg) _ 8 4 (by simp [fB_length]) (fB_length _ _), fB_read 4 _ (by omega) (by simp; omega)]
  have e3 : rdN (pageB m) 12 8 = m.tx := by
    rw [e, show [1] ++ (fB 1 m.en ++ ([0, 0, 69, 83, 80, 76] ++ (fB 4 m.pg ++ (fB 8 m.tx ++ (fB 4 m.ro ++ (fB 4 m.co ++ (fB 4 m.fr ++ (fB 4 m.li ++ (fB 4 m.hi ++ Z))))))))) = ([1] ++ fB 1 m.en ++ [0, 0, 69, 83, 80, 76] ++ fB 4 m.pg) ++ (fB 8 m.tx ++ (fB 4 m.ro ++ (fB 4 m.co ++ (fB 4 m.fr ++ (fB 4 m.li ++ (fB 4 m.hi ++ Z)))))) from by simp only [List.append_assoc],
      rdN_mid _ (fB 8 m.tx) _ 12 8 (by simp [fB_length]) (fB_length _ _), fB_read 8 _ (by omega) (by simp; omega)]
  have e4 : rdN (pageB m) 20 4 = m.ro := by
    rw [e, show [1] ++ (fB 1 m.en ++ ([0, 0, 69, 83, 80, 76] ++ (fB 4 m.pg ++ (fB 8 m.tx ++ (fB 4 m.ro ++ (fB 4 m.co ++ (fB 4 m.fr ++ (fB 4 m.li ++ (fB 4 m.hi ++ Z))))))))) = ([1] ++ fB 1 m.en ++ [0, 0, 69, 83, 80, 76] ++ fB 4 m.pg ++ fB 8 m.tx) ++ (fB 4 m.ro ++ (fB 4 m.co ++ (fB 4 m.fr ++ (fB 4 m.li ++ (fB 4 m.hi ++ Z))))) from by simp only [List.append_assoc],
      rdN_mid _ (fB 4 m.ro) _ 20 4 (by simp [fB_length]) (fB_length _ _), fB_read 4 _ (by omega) (by simp; omega)]
  have e5 : rdN (pageB m) 24 4 = m.co := by
    rw [e, show [1] ++ (fB 1 m.en ++ ([0, 0, 69, 83, 80, 76] ++ (fB 4 m.pg ++ (fB 8 m.tx ++ (fB 4 m.ro ++ (fB 4 m.co ++ (fB 4 m.fr ++ (fB 4 m.li ++ (fB 4 m.hi ++ Z))))))))) = ([1] ++ fB 1 m.en ++ [0, 0, 69, 83, 80, 76] ++ fB 4 m.pg ++ fB 8 m.tx ++ fB 4 m.ro) ++ (fB 4 m.co ++ (fB 4 m.fr ++ (fB 4 m.li ++ (fB 4 m.hi ++ Z)))) from by simp only [List.append_assoc],
      rdN_mid _ (fB 4 m.co) _ 24 4 (by simp [fB_length]) (fB_length _ _), fB_read 4 _ (by omega) (by simp; omega)]
  have e6 : rdN (pageB m) 28 4 = m.fr := by
    rw [e, show [1] ++ (fB 1 m.en ++ ([0, 0, 69, 83, 80, 76] ++ (fB 4 m.pg ++ (fB 8 m.tx ++ (fB 4 m.ro ++ (fB 4 m.co ++ (fB 4 m.fr ++ (fB 4 m.li ++ (fB 4 m.hi ++ Z))))))))) = ([1] ++ fB 1 m.en ++ [0, 0, 69, 83, 80, 76] ++ fB 4 m.pg ++ fB 8 m.tx ++ fB 4 m.ro ++ fB 4 m.co) ++ (fB 4 m.fr ++ (fB 4 m.li ++ (fB 4 m.hi ++ Z))) from by simp only [List.append_assoc],
      rdN_mid _ (fB 4 m.fr) _ 28 4 (by simp [fB_length]) (fB_length _ _), fB_read 4 _ (by omega) (by simp; omega)]
  have e7 : rdN (pageB m) 32 4 = m.li := by
    rw [e, show [1] ++ (fB 1 m.en ++ ([0, 0, 69, 83, 80, 76] ++ (fB 4 m.pg ++ (fB 8 m.tx ++ (fB 4 m.ro ++ (fB 4 m.co ++ (fB 4 m.fr ++ (fB 4 m.li ++ (fB 4 m.hi ++ Z))))))))) = ([1] ++ fB 1 m.en ++ [0, 0, 69, 83, 80, 76] ++ fB 4 m.pg ++ fB 8 m.tx ++ fB 4 m.ro ++ fB 4 m.co ++ fB 4 m.fr) ++ (fB 4 m.li ++ (fB 4 m.hi ++ Z)) from by simp only [List.append_assoc],
      rdN_mid _ (fB 4 m.li) _ 32 4 (by simp [fB_length]) (fB_length _ _), fB_read 4 _ (by omega) (by simp; omega)]
  have e8 : rdN (pageB m) 36 4 = m.hi := by
    rw [e, show [1] ++ (fB 1 m.en ++ ([0, 0, 69, 83, 80, 76] ++ (fB 4 m.pg ++ (fB 8 m.tx ++ (fB 4 m.ro ++ (fB 4 m.co ++ (fB 4 m.fr ++ (fB 4 m.li ++ (fB 4 m.hi ++ Z))))))))) = ([1] ++ fB 1 m.en ++ [0, 0, 69, 83, 80, 76] ++ fB 4 m.pg ++ fB 8 m.tx ++ fB 4 m.ro ++ fB 4 m.co ++ fB 4 m.fr ++ fB 4 m.li) ++ (fB 4 m.hi ++ Z) from by simp only [List.append_assoc],
      rdN_mid _ (fB 4 m.hi) _ 36 4 (by simp [fB_length]) (fB_length _ _), fB_read 4 _ (by omega) (by simp; omega)]
  unfold rdM
  rw [e1, e2, e3, e4, e5, e6, e7, e8, wrap_small m.tx (by omega) (by omega)]

set_option maxRecDepth 100000 in
/-- A page says one meta at most, the one that stands in it. -/
theorem Says.eq {l : List Int} {m : Mt} (h : Says l m) : m = rdM l := by
  obtain ⟨h1, rfl⟩ := h
  exact (rdM_page m h1).symm
set_option maxRecDepth 100000 in
theorem Says.one {l : List Int} {m n : Mt} (h : Says l m) (k : Says l n) : m = n := h.eq.trans k.eq.symm
set_option maxRecDepth 100000 in
theorem Says.length {l : List Int} {m : Mt} (h : Says l m) : (l.length : Int) = m.pg ∧ 512 ≤ l.length := by
  obtain ⟨h1, rfl⟩ := h
  have := pw_le h1.pg
  rw [pageB_length m h1]
  omega
set_option maxRecDepth 100000 in
theorem says_iff (l : List Int) : (∃ m, Says l m) ↔ (rdM l).ok ∧ pageB (rdM l) = l := by
  constructor
  · rintro ⟨m, h⟩
    have e := h.eq
    subst e
    exact h
  · intro h
    exact ⟨_, h⟩

set_option maxRecDepth 100000 in
/-- What is changed is told: the page's length, the same last four, another sum. -/
theorem seal_end {a b : List Int} (h : a.length = b.length) (e : sealB a = sealB b) : a = b := (List.append_inj e h).1
set_option maxRecDepth 100000 in
theorem sumN_lt (l : List Int) (h : Wf l) : sumN [l] < 4294967296 := by
  have := tk_lt (l.map Int.toNat) 4294967295 (by omega) (nat_lt l h)
  exact xor32 (by omega) this
set_option maxRecDepth 100000 in
theorem fB4_inj {a b : Nat} (ha : a < 4294967296) (hb : b < 4294967296) (e : fB 4 (a : Int) = fB 4 (b : Int)) : a = b := by
  have h1 := fB_read 4 (a : Int) (by omega) (by simp; omega)
  have h2 := fB_read 4 (b : Int) (by omega) (by simp; omega)
  rw [e] at h1
  have : (a : Int) = b := h1.symm.trans h2
  omega
end Go.Proofs.YtbnjojplfbibkaaGreatDoor
