import Derived.Test.YtjpmfgoodcldcaaGreatDoorJ03
import Derived.Test.YtjpmfgoodcldcaaGreatDoorJ00
namespace Go.Proofs.YtjpmfgoodcldcaaGreatDoor
set_option maxRecDepth 100000
def kl (a b : List Int) : Prop := ordL a b = -1
instance (a b : List Int) : Decidable (kl a b) := by unfold kl; infer_instance
def ahead : Option (List Int) → List Int → Prop
 | none, _ => True
 | some p, k => kl p k
instance (p : Option (List Int)) (k : List Int) : Decidable (ahead p k) := by cases p <;> (unfold ahead; infer_instance)
def chk (k p : Int) : Option (List Int) → List Cl → Int
 | _, [] => 0
 | pr, c :: r => if mayP k p c then (if ahead pr c.key then chk k p (some c.key) r else 63) else 62
theorem chk_may {k p : Int} : ∀ {pr : Option (List Int)} {cs : List Cl}, chk k p pr cs = 0 → ∀ c ∈ cs, mayP k p c
 | _, [], _, c, hc => by cases hc
 | pr, d :: r, h, c, hc => by
  unfold chk at h
  split at h
  ·next h1 =>
   split at h
   ·rcases List.mem_cons.1 hc with e | e
    ·rw [e]; exact h1
    ·exact chk_may h c e
   ·simp at h
  ·simp at h
def bdy (cs : List Cl) : List Int := cs.flatMap cB
def sts : Nat → List Cl → List Nat
 | _, [] => []
 | b, c :: r => b :: sts (b + (cB c).length) r
theorem bdy_cons (c : Cl) (cs : List Cl) : bdy (c :: cs) = cB c ++ bdy cs := by simp [bdy]
theorem bdy_append (a b : List Cl) : bdy (a ++ b) = bdy a ++ bdy b := by simp [bdy]
theorem sts_length : ∀ (b : Nat) (cs : List Cl), (sts b cs).length = cs.length
 | _, [] => rfl
 | b, c :: r => by simp [sts, sts_length _ r]
theorem sts_shift : ∀ (a b : Nat) (cs : List Cl), sts (a + b) cs = (sts b cs).map (a + ·)
 | _, _, [] => rfl
 | a, b, c :: r => by
  simp only [sts, List.map_cons, List.cons.injEq, true_and]
  rw [Nat.add_assoc]
  exact sts_shift a _ r
theorem sts_append : ∀ (b : Nat) (x y : List Cl), sts b (x ++ y) = sts b x ++ sts (b + (bdy x).length) y
 | _, [], _ => rfl
 | b, c :: r, y => by
  simp only [List.cons_append, sts, bdy_cons, List.length_append, List.cons.injEq, true_and]
  rw [sts_append, Nat.add_assoc]
theorem sts_get : ∀ (b i : Nat) (cs : List Cl), i < cs.length → (sts b cs).getD i 0 = b + (bdy (cs.take i)).length
 | _, _, [], h => by simp at h
 | b, 0, c :: r, _ => by simp [sts, bdy]
 | b, i + 1, c :: r, h => by
  have := sts_get (b + (cB c).length) i r (by simpa using h)
  simp only [sts, List.getD_cons_succ, List.take_succ_cons, bdy_cons, List.length_append]
  rw [this]
  omega
theorem bdy_wf : ∀ {cs : List Cl}, (∀ c ∈ cs, c.Wf) → Wf (bdy cs)
 | [], _ => Wf.nil
 | c :: r, h => by
  rw [bdy_cons]
  exact (cB_wf (h c (by simp))).append (bdy_wf fun d hd => h d (by simp [hd]))
def szN (cs : List Cl) : Nat := 8 + (cs.map ctk).sum
theorem szN_eq (cs : List Cl) : szN cs = 8 + 2 * cs.length + (bdy cs).length := by
 unfold szN
 induction cs with
 | nil => rfl
 | cons c r ih =>
  have := cB_length c
  simp only [List.map_cons, List.sum_cons, List.length_cons, bdy_cons, List.length_append]
  omega
def sloB (l : List Nat) : List Int := l.flatMap fun (s : Nat) => fB 2 (s : Int)
theorem sloB_length (l : List Nat) : (sloB l).length = 2 * l.length := by
 induction l with
 | nil => rfl
 | cons x r ih => simp only [sloB, List.flatMap_cons, List.length_append, fB_length, List.length_cons] at ih ⊢; omega
theorem sloB_wf (l : List Nat) : Wf (sloB l) := by
 induction l with
 | nil => exact Wf.nil
 | cons x r ih => simp only [sloB, List.flatMap_cons]; exact (fB_wf _ _).append ih
def layP (k : Int) (n : Nat) (cs : List Cl) (i : Nat) : List Int := [k, 1] ++ (fB 2 cs.length ++ (sloB ((sts (n - 4 - (bdy cs).length) cs).take i) ++ zs (n - 4 - 2 * i)))
def pgH (k : Int) (n : Nat) (cs : List Cl) : List Int := [k, 1] ++ (fB 2 cs.length ++ (sloB (sts (n - 4 - (bdy cs).length) cs) ++ (zs (n - szN cs) ++ bdy cs)))
def pgB (k : Int) (n : Nat) (cs : List Cl) : List Int := sealB (pgH k n cs)
theorem pgH_length (k : Int) (n : Nat) (cs : List Cl) (h : szN cs ≤ n) : (pgH k n cs).length = n - 4 := by
 have := szN_eq cs
 simp only [pgH, List.length_append, List.length_cons, List.length_nil, fB_length, sloB_length, sts_length, zs_length]
 omega
theorem pgB_length (k : Int) (n : Nat) (cs : List Cl) (h : szN cs ≤ n) : (pgB k n cs).length = n := by
 have := szN_eq cs
 rw [pgB, sealB_length, pgH_length k n cs h]
 omega
theorem pgH_wf {k : Int} {n : Nat} {cs : List Cl} (hk : 0 ≤ k ∧ k ≤ 255) (h : ∀ c ∈ cs, c.Wf) : Wf (pgH k n cs) :=
 Wf.append (Wf.cons hk (Wf.cons (by omega) Wf.nil)) (Wf.append (fB_wf _ _) (Wf.append (sloB_wf _) (Wf.append (zs_wf _) (bdy_wf h))))
theorem pgB_wf {k : Int} {n : Nat} {cs : List Cl} (hk : 0 ≤ k ∧ k ≤ 255) (h : ∀ c ∈ cs, c.Wf) : Wf (pgB k n cs) := sealB_wf (pgH_wf hk h)
def part (k p : Int) : Nat → Option (List Int) → List Int → Option (List Cl)
 | 0, _, l => if l = [] then some [] else none
 | n + 1, pr, l =>
  match pCell l with
  | none => none
  | some (c, r) => if mayP k p c ∧ ahead pr c.key then (part k p n (some c.key) r).map (c :: ·) else none
theorem part_of {k p : Int} (hp : p ≤ 65536) : ∀ (cs : List Cl) (pr : Option (List Int)), chk k p pr cs = 0 → part k p cs.length pr (bdy cs) = some cs
 | [], _, _ => rfl
 | c :: r, pr, h => by
  unfold chk at h
  split at h
  ·next h1 =>
   split at h
   ·next h2 =>
    simp only [List.length_cons, part, bdy_cons]
    rw [pCell_mid c _ (h1.fit hp)]
    simp only [h1, h2, and_self, if_true]
    rw [part_of hp r _ h]
    rfl
   ·simp at h
  ·simp at h
theorem part_inv {k p : Int} : ∀ (n : Nat) (pr : Option (List Int)) (l : List Int) (cs : List Cl), Wf l → part k p n pr l = some cs → cs.length = n ∧ l = bdy cs ∧ chk k p pr cs = 0 ∧ ∀ c ∈ cs, c.Wf
 | 0, pr, l, cs, hw, h => by
  unfold part at h
  split at h
  ·next e =>
   cases h
   exact ⟨rfl, e, rfl, fun c hc => by cases hc⟩
  ·cases h
 | n + 1, pr, l, cs, hw, h => by
  unfold part at h
  split at h
  ·cases h
  ·next c r e =>
   split at h
   ·next hm =>
    obtain ⟨e1, _, e3, e4⟩ := pCell_inv hw e
    cases hq : part k p n (some c.key) r with
    | none => rw [hq] at h; cases h
    | some ds =>
     rw [hq] at h
     simp only [Option.map_some, Option.some.injEq] at h
     subst h
     obtain ⟨f1, f2, f3, f4⟩ := part_inv n _ r ds e4 hq
     refine ⟨by simp [f1], by rw [bdy_cons, ← f2]; exact e1, ?_, ?_⟩
     ·rw [chk, if_pos hm.1, if_pos hm.2]; exact f3
     ·intro d hd
      rcases List.mem_cons.1 hd with e | e
      ·rw [e]; exact e3
      ·exact f4 d e
   ·cases h
def isKd (k : Int) : Prop := k = 2 ∨ k = 3
instance (k : Int) : Decidable (isKd k) := by unfold isKd; infer_instance
instance (k : Int) : Decidable (pw k) := by unfold pw; infer_instance
structure Is (k : Int) (n : Nat) (cs : List Cl) (b : List Int) : Prop where
 kd : isKd k
 sz : pw n
 ok : chk k n none cs = 0
 fit : szN cs ≤ n
 eq : pgB k n cs = b
def frst (b : List Int) : Int := if 0 < rdN b 2 2 then rdN b 4 2 else (b.length : Int) - 4
def readM (b : List Int) : Option (List Cl) :=
 if pw b.length ∧ isKd (b.getD 0 0) then
  (if frst b < 4 + rdN b 2 2 * 2 ∨ (b.length : Int) - 4 < frst b then none else part (b.getD 0 0) b.length (rdN b 2 2).toNat none ((b.drop (frst b).toNat).take (b.length - 4 - (frst b).toNat)))
 else none
theorem pw_nat {n : Nat} (h : pw n) : 512 ≤ n ∧ n ≤ 65536 := by
 have := pw_le h
 omega
theorem readM_inv {b : List Int} {cs : List Cl} (hw : Wf b) (h : readM b = some cs) : isKd (b.getD 0 0) ∧ pw b.length ∧ chk (b.getD 0 0) b.length none cs = 0 ∧ szN cs ≤ b.length ∧ (∀ c ∈ cs, c.Wf) ∧ (cs.length : Int) = rdN b 2 2 ∧ bdy cs = (b.drop (frst b).toNat).take (b.length - 4 - (frst b).toNat) ∧ frst b = (b.length : Int) - 4 - (bdy cs).length ∧ 4 + rdN b 2 2 * 2 ≤ frst b := by
 unfold readM at h
 split at h
 ·next h1 =>
  split at h
  ·cases h
  ·next h2 =>
   have hn := (rdN_bound b hw 2 2).1
   have hp := pw_nat h1.1
   obtain ⟨e1, e2, e3, e4⟩ := part_inv _ _ _ _ ((hw.drop _).take _) h
   have hl := congrArg List.length e2
   rw [List.length_take, List.length_drop] at hl
   have hz := szN_eq cs
   refine ⟨h1.2, h1.1, e3, ?_, e4, ?_, e2.symm, ?_, ?_⟩ <;> omega
 ·cases h
theorem pgB_split (k : Int) (n : Nat) (cs : List Cl) : ∃ U : List Int, U.length = 4 ∧ pgB k n cs = [k, 1] ++ (fB 2 cs.length ++ (sloB (sts (n - 4 - (bdy cs).length) cs) ++ (zs (n - szN cs) ++ (bdy cs ++ U)))) :=
 ⟨fB 4 (sumN [pgH k n cs]), fB_length _ _, by rw [pgB, sealB]; conv => lhs; arg 1; rw [pgH]
                                              simp only [List.append_assoc]⟩
theorem readM_of {k : Int} {n : Nat} {cs : List Cl} {b : List Int} (h : Is k n cs b) : readM b = some cs ∧ b.length = n ∧ b.getD 0 0 = k := by
 obtain ⟨h1, h2, h3, h4, h5⟩ := h
 have hp := pw_nat h2
 have hz := szN_eq cs
 have hlen : b.length = n := by rw [← h5, pgB_length k n cs h4]
 have hg : b.getD 0 0 = k := by rw [← h5]; rfl
 obtain ⟨U, hU, hsp⟩ := pgB_split k n cs
 rw [h5] at hsp
 obtain ⟨F, hF⟩ : ∃ F, n - 4 - (bdy cs).length = F := ⟨_, rfl⟩
 rw [hF] at hsp
 have hr : rdN b 2 2 = (cs.length : Int) := by
  rw [hsp, rdN_mid _ _ _ 2 2 rfl (fB_length _ _), fB_read 2 _ (by omega) (by omega)]
 have hf : frst b = (F : Int) := by
  unfold frst
  rw [hr, hlen]
  cases cs with
  | nil =>
   simp [bdy] at hF
   simp
   omega
  | cons c r =>
   have e : b = ([k, 1] ++ fB 2 ((c :: r).length : Nat)) ++ (fB 2 (F : Int) ++ (sloB (sts (F + (cB c).length) r) ++ (zs (n - szN (c :: r)) ++ (bdy (c :: r) ++ U)))) := by
    rw [hsp, show sloB (sts F (c :: r)) = fB 2 (F : Int) ++ sloB (sts (F + (cB c).length) r) from by simp [sloB, sts]]
    simp only [List.append_assoc]
   rw [if_pos (by simp only [List.length_cons]; omega), e, rdN_mid _ _ _ 4 2 (by simp [fB_length]) (fB_length _ _), fB_read 2 _ (by omega) (by omega)]
 have hb : (b.drop F).take (n - 4 - F) = bdy cs := by
  have e : b = ([k, 1] ++ (fB 2 cs.length ++ (sloB (sts F cs) ++ zs (n - szN cs)))) ++ (bdy cs ++ U) := by
   rw [hsp]
   simp only [List.append_assoc]
  have hA : ([k, 1] ++ (fB 2 cs.length ++ (sloB (sts F cs) ++ zs (n - szN cs)))).length = F := by
   simp only [List.length_append, List.length_cons, List.length_nil, fB_length, sloB_length, sts_length, zs_length]
   omega
  rw [e, List.drop_left' hA, List.take_left' (by omega)]
 refine ⟨?_, hlen, hg⟩
 unfold readM
 rw [hg, hlen, hr, hf, if_pos ⟨h2, h1⟩, if_neg (by omega), Int.toNat_natCast, Int.toNat_natCast, hb]
 exact part_of (by omega) cs none h3
theorem is_iff {b : List Int} (hw : Wf b) (cs : List Cl) : Is (b.getD 0 0) b.length cs b ↔ readM b = some cs ∧ pgB (b.getD 0 0) b.length cs = b := by
 constructor
 ·intro h
  exact ⟨(readM_of h).1, h.eq⟩
 ·rintro ⟨h1, h2⟩
  obtain ⟨a1, a2, a3, a4, _⟩ := readM_inv hw h1
  exact ⟨a1, a2, a3, a4, h2⟩
theorem Is.one {k j : Int} {n m : Nat} {cs ds : List Cl} {b : List Int} (h : Is k n cs b) (g : Is j m ds b) : k = j ∧ n = m ∧ cs = ds := by
 obtain ⟨h1, h2, h3⟩ := readM_of h
 obtain ⟨g1, g2, g3⟩ := readM_of g
 exact ⟨h3.symm.trans g3, h2.symm.trans g2, Option.some.inj (h1.symm.trans g1)⟩
theorem set_two (A Z : List Int) (x y : Int) (p : Nat) (hp : A.length = p) : ((A ++ ([0, 0] ++ Z)).set p x).set (p + 1) y = A ++ ([x, y] ++ Z) := by
 subst hp
 rw [List.set_append_right _ _ (Nat.le_refl _), List.set_append_right _ _ (by omega)]
 simp
theorem layP_set (k : Int) (n : Nat) (cs : List Cl) (i : Nat) (hi : i < cs.length) (hf : szN cs ≤ n) (x y : Int) (hxy : [x, y] = fB 2 ((n : Int) - 4 - (bdy cs).length + (sts 0 cs).getD i 0)) :
  ((layP k n cs i).set (4 + i * 2) x).set (4 + i * 2 + 1) y = layP k n cs (i + 1) := by
 have hz := szN_eq cs
 obtain ⟨F, hF⟩ : ∃ F, n - 4 - (bdy cs).length = F := ⟨_, rfl⟩
 have hFs : sts F cs = (sts 0 cs).map (F + ·) := by
  have := sts_shift F 0 cs
  rwa [Nat.add_zero] at this
 have hg : (sts F cs).take (i + 1) = (sts F cs).take i ++ [F + (sts 0 cs).getD i 0] := by
  rw [List.take_add_one, hFs]
  congr 1
  have hl : i < (sts 0 cs).length := by rw [sts_length]; exact hi
  simp [List.getElem?_map, List.getD, List.getElem?_eq_getElem hl]
 have hs : sloB ((sts F cs).take (i + 1)) = sloB ((sts F cs).take i) ++ [x, y] := by
  rw [hg, hxy, show (n : Int) - 4 - (bdy cs).length + (((sts 0 cs).getD i 0 : Nat) : Int) = ((F + (sts 0 cs).getD i 0 : Nat) : Int) by omega]
  simp [sloB]
 unfold layP
 rw [hF, hs, show n - 4 - 2 * i = 2 + (n - 4 - 2 * (i + 1)) by omega, zs_add]
 obtain ⟨A, hA⟩ : ∃ A, [k, 1] ++ (fB 2 cs.length ++ sloB ((sts F cs).take i)) = A := ⟨_, rfl⟩
 have hAl : A.length = 4 + i * 2 := by
  rw [← hA]
  simp only [List.length_append, List.length_cons, List.length_nil, fB_length, sloB_length, List.length_take, sts_length]
  omega
 generalize zs (n - 4 - 2 * (i + 1)) = Z
 have h2 := set_two A Z x y (4 + i * 2) hAl
 rw [← hA] at h2
 simpa [List.append_assoc, zs] using h2
end Go.Proofs.YtjpmfgoodcldcaaGreatDoor

namespace Go.Proofs.YtjpmfgoodcldcaaGreatDoor
set_option maxRecDepth 100000
open Go.RowKit
theorem isWidth_yes (x : Int) (w : World) (h1 : 1 ≤ x) (h2 : x ≤ 8) : Calls Tryz.prog 136 #[.int .i64 x] w fun e w' => e = .returned (.bool true) ∧ w' = w := by
 go_enter Tryz.func136, Tryz.ntmps136
 go_wp2
 go_ret
 exact ⟨rfl, rfl⟩
theorem isPlace_yes (ao : Option Addr) (n cap : Nat) (x : Int) (w : World) (h1 : 0 ≤ x) (h2 : x ≤ n) : Calls Tryz.prog 155 #[.slice ao n cap, .int .i64 x] w fun e w' => e = .returned (.bool true) ∧ w' = w := by
 go_enter Tryz.func155, Tryz.ntmps155
 go_wp2
 go_ret
 exact ⟨rfl, rfl⟩
end Go.Proofs.YtjpmfgoodcldcaaGreatDoor
