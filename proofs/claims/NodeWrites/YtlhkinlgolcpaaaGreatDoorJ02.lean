import Derived.Test.YtlhkinlgolcpaaaGreatDoorJ01
import Derived.Test.YtlhkinlgolcpaaaGreatDoorJ00
import Derived.Deep.QuietTactic
import Derived.BigQuiet
import Derived.Handy
import Derived.Laws.BitsAllLaws
import Derived.Deep.WholeRow
import Derived.Lib.SlBuf
import Derived.Lib.BufferWrite
import Derived.Laws.CopyOwn
import Derived.Deep.RegionLaw
namespace Go.Proofs.YtlhkinlgolcpaaaGreatDoor
set_option maxRecDepth 100000
open Go.RowKit
def ordL : List Int → List Int → Int
 | [], [] => 0
 | [], _ :: _ => -1
 | _ :: _, [] => 1
 | x :: a, y :: b => if x < y then -1 else if y < x then 1 else ordL a b
theorem ordL_self : ∀ (a : List Int), ordL a a = 0
 | [] => rfl
 | x :: a => by simp [ordL, ordL_self a]
theorem ordL_eq : ∀ (a b : List Int), ordL a b = 0 → a = b
 | [], [], _ => rfl
 | [], _ :: _, h => by simp [ordL] at h
 | _ :: _, [], h => by simp [ordL] at h
 | x :: a, y :: b, h => by
  simp only [ordL] at h
  split at h
  ·simp at h
  ·split at h
   ·simp at h
   ·rw [ordL_eq a b h, show x = y by omega]
theorem ordL_three (a b : List Int) : ordL a b = 0 ∨ ordL a b = -1 ∨ ordL a b = 1 := by
 induction a generalizing b with
 | nil => cases b <;> simp [ordL]
 | cons x a ih =>
  cases b with
  | nil => simp [ordL]
  | cons y b =>
   simp only [ordL]
   split
   ·simp
   ·split
    ·simp
    ·exact ih b
set_option maxHeartbeats 1000000 in
theorem order_any (ao bo : Option Addr) (n m c d : Nat) (la lb : List Int) (w : World) (ha : Sl w ao n c la) (hb : Sl w bo m d lb) :
  Calls Tryz.prog 106 #[.slice ao n c, .slice bo m d] w fun e w' => e = .returned (.int .i64 (ordL la lb)) ∧ ∃ q, w' = w.drewN q := by
 obtain ⟨hlen, hcap, hroom, hwf, hnil, hat⟩ := ha
 obtain ⟨hlen', hcap', hroom', hwf', hnil', hat'⟩ := hb
 generalize hF : ordL la lb = F
 have HF := hidden hF
 clear hF
 go_enter Tryz.func106, Tryz.ntmps106
 go_wp2_with fail
 go_loopw [5] (fun i wr => ∃ k q : Nat, k ≤ n ∧ k ≤ m ∧ i = .int .i64 k ∧ wr = w.drewN q ∧ Hid (ordL (la.drop k) (lb.drop k) = F)) (fun i _ => n - (intOf i).toNat)
 case atStart => exact ⟨0, 0, by omega, by omega, rfl, rfl, HF⟩
 case round =>
  obtain ⟨k, q, hk, hk', rfl, rfl, HK⟩ := hrel
  clear HF
  by_cases hkn : k < n
  ·by_cases hkm : k < m
   ·rcases hat with h | ⟨b, off, rfl, hbb, hc⟩
    ·omega
    rcases hat' with h | ⟨b', off', rfl, hbb', hc'⟩
    ·omega
    have hck := hc k hkn
    have hck' := hc' k hkm
    have e := HK.out
    rw [drop_cons la k (by omega), drop_cons lb k (by omega), ordL] at e
    clear hc hc' HK
    generalize la.getD k 0 = x at *
    generalize lb.getD k 0 = y at *
    by_cases hxy : x < y
    ·rw [if_pos hxy] at e
     have HE := hidden e
     clear e
     go_wp2_with fail
     go_quiet (fail)
     go_wp2
     go_ret
     exact ⟨ret_int HE.out, _, World.drewN_drewN _ _ _⟩
    ·rw [if_neg hxy] at e
     by_cases hyx : y < x
     ·rw [if_pos hyx] at e
      have HE := hidden e
      clear e
      go_wp2_with fail
      go_quiet (fail)
      go_wp2_with fail
      go_quiet (fail)
      go_wp2
      go_ret
      exact ⟨ret_int HE.out, _, by simp only [World.drewN_drewN]; rfl⟩
     ·rw [if_neg hyx] at e
      have HE := hidden e
      clear e
      go_wp2_with fail
      go_quiet (fail)
      go_wp2_with fail
      go_quiet (fail)
      go_wp2
      go_roundw
      case rel => exact ⟨k + 1, _, by omega, by omega, by go_num, rfl, HE⟩
      case measure => simp [intOf]; omega
   ·have e := HK.out
    rw [List.drop_eq_nil_of_le (show lb.length ≤ k by omega), drop_cons la k (by omega), ordL] at e
    have HE := hidden e
    clear e HK
    have hmn : ¬ n < m := by omega
    have hmn' : m < n := by omega
    go_wp2
    go_ret
    exact ⟨ret_int HE.out, _, rfl⟩
  ·have e := HK.out
   rw [List.drop_eq_nil_of_le (show la.length ≤ k by omega)] at e
   by_cases hkm : k < m
   ·rw [drop_cons lb k (by omega), ordL] at e
    have HE := hidden e
    clear e HK
    have hmn' : n < m := by omega
    go_wp2
    go_ret
    exact ⟨ret_int HE.out, _, rfl⟩
   ·rw [List.drop_eq_nil_of_le (show lb.length ≤ k by omega), ordL] at e
    have HE := hidden e
    clear e HK
    have hmn' : ¬ n < m := by omega
    have hmn : ¬ m < n := by omega
    go_wp2
    go_ret
    exact ⟨ret_int HE.out, _, rfl⟩
end Go.Proofs.YtlhkinlgolcpaaaGreatDoor

namespace Go.Proofs.YtlhkinlgolcpaaaGreatDoor
set_option maxRecDepth 100000
def kl (a b : List Int) : Prop := ordL a b = -1
instance (a b : List Int) : Decidable (kl a b) := by unfold kl; infer_instance
def ahead : Option (List Int) → List Int → Prop
 | none, _ => True
 | some p, k => kl p k
instance (p : Option (List Int)) (k : List Int) : Decidable (ahead p k) := by cases p <;> (unfold ahead; infer_instance)
def chk (k p : Int) : Option (List Int) → List Cl → Int
 | _, [] => 0
 | pr, c :: r => if mayP k p c then (if ahead pr c.key then chk k p (some c.key) r else 63) else 62
theorem chk_may {k p : Int} : ∀ {pr : Option (List Int)} {cs : List Cl}, chk k p pr cs = 0 → ∀ c ∈ cs, mayP k p c
 | _, [], _, c, hc => by cases hc
 | pr, d :: r, h, c, hc => by
  unfold chk at h
  split at h
  ·next h1 =>
   split at h
   ·rcases List.mem_cons.1 hc with e | e
    ·rw [e]; exact h1
    ·exact chk_may h c e
   ·simp at h
  ·simp at h
def bdy (cs : List Cl) : List Int := cs.flatMap cB
def sts : Nat → List Cl → List Nat
 | _, [] => []
 | b, c :: r => b :: sts (b + (cB c).length) r
theorem bdy_cons (c : Cl) (cs : List Cl) : bdy (c :: cs) = cB c ++ bdy cs := by simp [bdy]
theorem bdy_append (a b : List Cl) : bdy (a ++ b) = bdy a ++ bdy b := by simp [bdy]
theorem sts_length : ∀ (b : Nat) (cs : List Cl), (sts b cs).length = cs.length
 | _, [] => rfl
 | b, c :: r => by simp [sts, sts_length _ r]
theorem sts_shift : ∀ (a b : Nat) (cs : List Cl), sts (a + b) cs = (sts b cs).map (a + ·)
 | _, _, [] => rfl
 | a, b, c :: r => by
  simp only [sts, List.map_cons, List.cons.injEq, true_and]
  rw [Nat.add_assoc]
  exact sts_shift a _ r
theorem sts_append : ∀ (b : Nat) (x y : List Cl), sts b (x ++ y) = sts b x ++ sts (b + (bdy x).length) y
 | _, [], _ => rfl
 | b, c :: r, y => by
  simp only [List.cons_append, sts, bdy_cons, List.length_append, List.cons.injEq, true_and]
  rw [sts_append, Nat.add_assoc]
theorem sts_get : ∀ (b i : Nat) (cs : List Cl), i < cs.length → (sts b cs).getD i 0 = b + (bdy (cs.take i)).length
 | _, _, [], h => by simp at h
 | b, 0, c :: r, _ => by simp [sts, bdy]
 | b, i + 1, c :: r, h => by
  have := sts_get (b + (cB c).length) i r (by simpa using h)
  simp only [sts, List.getD_cons_succ, List.take_succ_cons, bdy_cons, List.length_append]
  rw [this]
  omega
theorem bdy_wf : ∀ {cs : List Cl}, (∀ c ∈ cs, c.Wf) → Wf (bdy cs)
 | [], _ => Wf.nil
 | c :: r, h => by
  rw [bdy_cons]
  exact (cB_wf (h c (by simp))).append (bdy_wf fun d hd => h d (by simp [hd]))
def szN (cs : List Cl) : Nat := 8 + (cs.map ctk).sum
theorem szN_eq (cs : List Cl) : szN cs = 8 + 2 * cs.length + (bdy cs).length := by
 unfold szN
 induction cs with
 | nil => rfl
 | cons c r ih =>
  have := cB_length c
  simp only [List.map_cons, List.sum_cons, List.length_cons, bdy_cons, List.length_append]
  omega
def sloB (l : List Nat) : List Int := l.flatMap fun (s : Nat) => fB 2 (s : Int)
theorem sloB_length (l : List Nat) : (sloB l).length = 2 * l.length := by
 induction l with
 | nil => rfl
 | cons x r ih => simp only [sloB, List.flatMap_cons, List.length_append, fB_length, List.length_cons] at ih ⊢; omega
theorem sloB_wf (l : List Nat) : Wf (sloB l) := by
 induction l with
 | nil => exact Wf.nil
 | cons x r ih => simp only [sloB, List.flatMap_cons]; exact (fB_wf _ _).append ih
def layP (k : Int) (n : Nat) (cs : List Cl) (i : Nat) : List Int := [k, 1] ++ (fB 2 cs.length ++ (sloB ((sts (n - 4 - (bdy cs).length) cs).take i) ++ zs (n - 4 - 2 * i)))
def pgH (k : Int) (n : Nat) (cs : List Cl) : List Int := [k, 1] ++ (fB 2 cs.length ++ (sloB (sts (n - 4 - (bdy cs).length) cs) ++ (zs (n - szN cs) ++ bdy cs)))
def pgB (k : Int) (n : Nat) (cs : List Cl) : List Int := sealB (pgH k n cs)
theorem pgH_length (k : Int) (n : Nat) (cs : List Cl) (h : szN cs ≤ n) : (pgH k n cs).length = n - 4 := by
 have := szN_eq cs
 simp only [pgH, List.length_append, List.length_cons, List.length_nil, fB_length, sloB_length, sts_length, zs_length]
 omega
theorem pgB_length (k : Int) (n : Nat) (cs : List Cl) (h : szN cs ≤ n) : (pgB k n cs).length = n := by
 have := szN_eq cs
 rw [pgB, sealB_length, pgH_length k n cs h]
 omega
theorem pgH_wf {k : Int} {n : Nat} {cs : List Cl} (hk : 0 ≤ k ∧ k ≤ 255) (h : ∀ c ∈ cs, c.Wf) : Wf (pgH k n cs) :=
 Wf.append (Wf.cons hk (Wf.cons (by omega) Wf.nil)) (Wf.append (fB_wf _ _) (Wf.append (sloB_wf _) (Wf.append (zs_wf _) (bdy_wf h))))
theorem pgB_wf {k : Int} {n : Nat} {cs : List Cl} (hk : 0 ≤ k ∧ k ≤ 255) (h : ∀ c ∈ cs, c.Wf) : Wf (pgB k n cs) := sealB_wf (pgH_wf hk h)
def part (k p : Int) : Nat → Option (List Int) → List Int → Option (List Cl)
 | 0, _, l => if l = [] then some [] else none
 | n + 1, pr, l =>
  match pCell l with
  | none => none
  | some (c, r) => if mayP k p c ∧ ahead pr c.key then (part k p n (some c.key) r).map (c :: ·) else none
theorem part_of {k p : Int} (hp : p ≤ 65536) : ∀ (cs : List Cl) (pr : Option (List Int)), chk k p pr cs = 0 → part k p cs.length pr (bdy cs) = some cs
 | [], _, _ => rfl
 | c :: r, pr, h => by
  unfold chk at h
  split at h
  ·next h1 =>
   split at h
   ·next h2 =>
    simp only [List.length_cons, part, bdy_cons]
    rw [pCell_mid c _ (h1.fit hp)]
    simp only [h1, h2, and_self, if_true]
    rw [part_of hp r _ h]
    rfl
   ·simp at h
  ·simp at h
theorem part_inv {k p : Int} : ∀ (n : Nat) (pr : Option (List Int)) (l : List Int) (cs : List Cl), Wf l → part k p n pr l = some cs → cs.length = n ∧ l = bdy cs ∧ chk k p pr cs = 0 ∧ ∀ c ∈ cs, c.Wf
 | 0, pr, l, cs, hw, h => by
  unfold part at h
  split at h
  ·next e =>
   cases h
   exact ⟨rfl, e, rfl, fun c hc => by cases hc⟩
  ·cases h
 | n + 1, pr, l, cs, hw, h => by
  unfold part at h
  split at h
  ·cases h
  ·next c r e =>
   split at h
   ·next hm =>
    obtain ⟨e1, _, e3, e4⟩ := pCell_inv hw e
    cases hq : part k p n (some c.key) r with
    | none => rw [hq] at h; cases h
    | some ds =>
     rw [hq] at h
     simp only [Option.map_some, Option.some.injEq] at h
     subst h
     obtain ⟨f1, f2, f3, f4⟩ := part_inv n _ r ds e4 hq
     refine ⟨by simp [f1], by rw [bdy_cons, ← f2]; exact e1, ?_, ?_⟩
     ·rw [chk, if_pos hm.1, if_pos hm.2]; exact f3
     ·intro d hd
      rcases List.mem_cons.1 hd with e | e
      ·rw [e]; exact e3
      ·exact f4 d e
   ·cases h
def isKd (k : Int) : Prop := k = 2 ∨ k = 3
instance (k : Int) : Decidable (isKd k) := by unfold isKd; infer_instance
instance (k : Int) : Decidable (pw k) := by unfold pw; infer_instance
structure Is (k : Int) (n : Nat) (cs : List Cl) (b : List Int) : Prop where
 kd : isKd k
 sz : pw n
 ok : chk k n none cs = 0
 fit : szN cs ≤ n
 eq : pgB k n cs = b
def frst (b : List Int) : Int := if 0 < rdN b 2 2 then rdN b 4 2 else (b.length : Int) - 4
def readM (b : List Int) : Option (List Cl) :=
 if pw b.length ∧ isKd (b.getD 0 0) then
  (if frst b < 4 + rdN b 2 2 * 2 ∨ (b.length : Int) - 4 < frst b then none else part (b.getD 0 0) b.length (rdN b 2 2).toNat none ((b.drop (frst b).toNat).take (b.length - 4 - (frst b).toNat)))
 else none
theorem pw_nat {n : Nat} (h : pw n) : 512 ≤ n ∧ n ≤ 65536 := by
 have := pw_le h
 omega
theorem readM_inv {b : List Int} {cs : List Cl} (hw : Wf b) (h : readM b = some cs) : isKd (b.getD 0 0) ∧ pw b.length ∧ chk (b.getD 0 0) b.length none cs = 0 ∧ szN cs ≤ b.length ∧ (∀ c ∈ cs, c.Wf) ∧ (cs.length : Int) = rdN b 2 2 ∧ bdy cs = (b.drop (frst b).toNat).take (b.length - 4 - (frst b).toNat) ∧ frst b = (b.length : Int) - 4 - (bdy cs).length ∧ 4 + rdN b 2 2 * 2 ≤ frst b := by
 unfold readM at h
 split at h
 ·next h1 =>
  split at h
  ·cases h
  ·next h2 =>
   have hn := (rdN_bound b hw 2 2).1
   have hp := pw_nat h1.1
   obtain ⟨e1, e2, e3, e4⟩ := part_inv _ _ _ _ ((hw.drop _).take _) h
   have hl := congrArg List.length e2
   rw [List.length_take, List.length_drop] at hl
   have hz := szN_eq cs
   refine ⟨h1.2, h1.1, e3, ?_, e4, ?_, e2.symm, ?_, ?_⟩ <;> omega
 ·cases h
theorem pgB_split (k : Int) (n : Nat) (cs : List Cl) : ∃ U : List Int, U.length = 4 ∧ pgB k n cs = [k, 1] ++ (fB 2 cs.length ++ (sloB (sts (n - 4 - (bdy cs).length) cs) ++ (zs (n - szN cs) ++ (bdy cs ++ U)))) :=
 ⟨fB 4 (sumN [pgH k n cs]), fB_length _ _, by rw [pgB, sealB]; conv => lhs; arg 1; rw [pgH]
                                              simp only [List.append_assoc]⟩
theorem readM_of {k : Int} {n : Nat} {cs : List Cl} {b : List Int} (h : Is k n cs b) : readM b = some cs ∧ b.length = n ∧ b.getD 0 0 = k := by
 obtain ⟨h1, h2, h3, h4, h5⟩ := h
 have hp := pw_nat h2
 have hz := szN_eq cs
 have hlen : b.length = n := by rw [← h5, pgB_length k n cs h4]
 have hg : b.getD 0 0 = k := by rw [← h5]; rfl
 obtain ⟨U, hU, hsp⟩ := pgB_split k n cs
 rw [h5] at hsp
 obtain ⟨F, hF⟩ : ∃ F, n - 4 - (bdy cs).length = F := ⟨_, rfl⟩
 rw [hF] at hsp
 have hr : rdN b 2 2 = (cs.length : Int) := by
  rw [hsp, rdN_mid _ _ _ 2 2 rfl (fB_length _ _), fB_read 2 _ (by omega) (by omega)]
 have hf : frst b = (F : Int) := by
  unfold frst
  rw [hr, hlen]
  cases cs with
  | nil =>
   simp [bdy] at hF
   simp
   omega
  | cons c r =>
   have e : b = ([k, 1] ++ fB 2 ((c :: r).length : Nat)) ++ (fB 2 (F : Int) ++ (sloB (sts (F + (cB c).length) r) ++ (zs (n - szN (c :: r)) ++ (bdy (c :: r) ++ U)))) := by
    rw [hsp, show sloB (sts F (c :: r)) = fB 2 (F : Int) ++ sloB (sts (F + (cB c).length) r) from by simp [sloB, sts]]
    simp only [List.append_assoc]
   rw [if_pos (by simp only [List.length_cons]; omega), e, rdN_mid _ _ _ 4 2 (by simp [fB_length]) (fB_length _ _), fB_read 2 _ (by omega) (by omega)]
 have hb : (b.drop F).take (n - 4 - F) = bdy cs := by
  have e : b = ([k, 1] ++ (fB 2 cs.length ++ (sloB (sts F cs) ++ zs (n - szN cs)))) ++ (bdy cs ++ U) := by
   rw [hsp]
   simp only [List.append_assoc]
  have hA : ([k, 1] ++ (fB 2 cs.length ++ (sloB (sts F cs) ++ zs (n - szN cs)))).length = F := by
   simp only [List.length_append, List.length_cons, List.length_nil, fB_length, sloB_length, sts_length, zs_length]
   omega
  rw [e, List.drop_left' hA, List.take_left' (by omega)]
 refine ⟨?_, hlen, hg⟩
 unfold readM
 rw [hg, hlen, hr, hf, if_pos ⟨h2, h1⟩, if_neg (by omega), Int.toNat_natCast, Int.toNat_natCast, hb]
 exact part_of (by omega) cs none h3
theorem is_iff {b : List Int} (hw : Wf b) (cs : List Cl) : Is (b.getD 0 0) b.length cs b ↔ readM b = some cs ∧ pgB (b.getD 0 0) b.length cs = b := by
 constructor
 ·intro h
  exact ⟨(readM_of h).1, h.eq⟩
 ·rintro ⟨h1, h2⟩
  obtain ⟨a1, a2, a3, a4, _⟩ := readM_inv hw h1
  exact ⟨a1, a2, a3, a4, h2⟩
theorem Is.one {k j : Int} {n m : Nat} {cs ds : List Cl} {b : List Int} (h : Is k n cs b) (g : Is j m ds b) : k = j ∧ n = m ∧ cs = ds := by
 obtain ⟨h1, h2, h3⟩ := readM_of h
 obtain ⟨g1, g2, g3⟩ := readM_of g
 exact ⟨h3.symm.trans g3, h2.symm.trans g2, Option.some.inj (h1.symm.trans g1)⟩
theorem set_two (A Z : List Int) (x y : Int) (p : Nat) (hp : A.length = p) : ((A ++ ([0, 0] ++ Z)).set p x).set (p + 1) y = A ++ ([x, y] ++ Z) := by
 subst hp
 rw [List.set_append_right _ _ (Nat.le_refl _), List.set_append_right _ _ (by omega)]
 simp
theorem layP_set (k : Int) (n : Nat) (cs : List Cl) (i : Nat) (hi : i < cs.length) (hf : szN cs ≤ n) (x y : Int) (hxy : [x, y] = fB 2 ((n : Int) - 4 - (bdy cs).length + (sts 0 cs).getD i 0)) :
  ((layP k n cs i).set (4 + i * 2) x).set (4 + i * 2 + 1) y = layP k n cs (i + 1) := by
 have hz := szN_eq cs
 obtain ⟨F, hF⟩ : ∃ F, n - 4 - (bdy cs).length = F := ⟨_, rfl⟩
 have hFs : sts F cs = (sts 0 cs).map (F + ·) := by
  have := sts_shift F 0 cs
  rwa [Nat.add_zero] at this
 have hg : (sts F cs).take (i + 1) = (sts F cs).take i ++ [F + (sts 0 cs).getD i 0] := by
  rw [List.take_add_one, hFs]
  congr 1
  have hl : i < (sts 0 cs).length := by rw [sts_length]; exact hi
  simp [List.getElem?_map, List.getD, List.getElem?_eq_getElem hl]
 have hs : sloB ((sts F cs).take (i + 1)) = sloB ((sts F cs).take i) ++ [x, y] := by
  rw [hg, hxy, show (n : Int) - 4 - (bdy cs).length + (((sts 0 cs).getD i 0 : Nat) : Int) = ((F + (sts 0 cs).getD i 0 : Nat) : Int) by omega]
  simp [sloB]
 unfold layP
 rw [hF, hs, show n - 4 - 2 * i = 2 + (n - 4 - 2 * (i + 1)) by omega, zs_add]
 obtain ⟨A, hA⟩ : ∃ A, [k, 1] ++ (fB 2 cs.length ++ sloB ((sts F cs).take i)) = A := ⟨_, rfl⟩
 have hAl : A.length = 4 + i * 2 := by
  rw [← hA]
  simp only [List.length_append, List.length_cons, List.length_nil, fB_length, sloB_length, List.length_take, sts_length]
  omega
 generalize zs (n - 4 - 2 * (i + 1)) = Z
 have h2 := set_two A Z x y (4 + i * 2) hAl
 rw [← hA] at h2
 simpa [List.append_assoc, zs] using h2
end Go.Proofs.YtlhkinlgolcpaaaGreatDoor

namespace Go.Proofs.YtlhkinlgolcpaaaGreatDoor
set_option maxRecDepth 100000
open Go.RowKit
theorem isWidth_yes (x : Int) (w : World) (h1 : 1 ≤ x) (h2 : x ≤ 8) : Calls Tryz.prog 149 #[.int .i64 x] w fun e w' => e = .returned (.bool true) ∧ w' = w := by
 go_enter Tryz.func149, Tryz.ntmps149
 go_wp2
 go_ret
 exact ⟨rfl, rfl⟩
theorem isPlace_yes (ao : Option Addr) (n cap : Nat) (x : Int) (w : World) (h1 : 0 ≤ x) (h2 : x ≤ n) : Calls Tryz.prog 168 #[.slice ao n cap, .int .i64 x] w fun e w' => e = .returned (.bool true) ∧ w' = w := by
 go_enter Tryz.func168, Tryz.ntmps168
 go_wp2
 go_ret
 exact ⟨rfl, rfl⟩
end Go.Proofs.YtlhkinlgolcpaaaGreatDoor

namespace Go.Proofs.YtlhkinlgolcpaaaGreatDoor
set_option maxRecDepth 100000
open Go.RowKit
set_option maxHeartbeats 400000 in
theorem fixed_yes (n x : Int) (w : World) (h0 : 0 ≤ n) (h1 : 1 ≤ x) (h2 : x ≤ 8) :
  Calls Tryz.prog 119 #[.int .u64 n, .int .i64 x] w fun e w' => ∃ v, e = .returned v ∧ OwnB w' w.heap.size v (fB x.toNat n) ∧ Below w.heap.size w w' := by
 obtain ⟨width, rfl⟩ := Int.eq_ofNat_of_zero_le (show 0 ≤ x by omega)
 rw [Int.toNat_natCast]
 obtain ⟨i0, hi, hz0, hz1, hz2⟩ := info_parts info5
 go_enter Tryz.func119, Tryz.ntmps119
 go_wp2_with (first
  | (go_at_call 149; refine same_call (isWidth_yes _ _ h1 h2) ?_)
  | (at_make; refine wpList_make_full _ rfl _ _ 25 rfl w.heap.size 5 i0 (.int .u8 0) 1 Tryz.underlying25 hi hz0 hz1 .i64 .i64 width width width rfl rfl rfl rfl (by rw [hz2]; omega) (by unfold maxLen; omega) (Nat.le_refl _) ?_))
 intro w1 hown1 hg1
 have ho1 : OwnB w1 w.heap.size (.slice (some ⟨w.heap.size, 0, none⟩) width width) (List.replicate width 0) := by
  unfold OwnB
  rw [toList_madeCells_one] at hown1
  simpa [By] using hown1
 have hb1 : Below w.heap.size w w1 := (Below.refl _ _).grown hg1 (Nat.le_refl _) (fun k hk => by cases hk)
 clear hown1 hg1
 go_wp2_with fail
 go_loopw [0, 6] (fun y i wr => ∃ j : Nat, j ≤ width ∧ y = .int .u64 (n / 256 ^ j) ∧ i = .int .i64 ((width : Int) - 1 - j) ∧ OwnB wr w.heap.size (.slice (some ⟨w.heap.size, 0, none⟩) width width) (List.replicate (width - j) 0 ++ fB j n) ∧ Below w.heap.size w wr) (fun _ i _ => (intOf i + 1).toNat)
 case atStart => exact ⟨0, by omega, by simp, by simp, by simpa [fB] using ho1, hb1⟩
 case round =>
  obtain ⟨j, hj, rfl, rfl, hown, hb⟩ := hrel
  by_cases hlt : j < width
  ·have hpos : 0 ≤ n / 256 ^ j := Int.ediv_nonneg h0 (Int.le_of_lt (Int.pow_pos (by omega)))
   have hle : n / 256 ^ j ≤ n := Int.ediv_le_self _ h0
   have hl : (List.replicate (width - j) (0 : Int) ++ fB j n).length = width := by simp [fB_length]; omega
   have hfr : wr.frozen? ⟨w.heap.size, width - 1 - j, none⟩ = false := by
    unfold OwnB at hown; rw [hl] at hown; exact World.ownsRow.frozenAt hown _
   have hce : ∃ u, wr.cell? ⟨w.heap.size, width - 1 - j, none⟩ = some u := by
    unfold OwnB at hown; rw [hl] at hown
    exact ⟨_, (World.ownsRow.cellAt hown (width - 1 - j) (by omega)).trans (List.getElem?_eq_getElem (by rw [By_length, hl]; omega))⟩
   obtain ⟨u, hce⟩ := hce
   have hp := pow256 n j
   generalize hy : n / 256 ^ j = y at *
   have HY := hidden hy
   clear hy
   have hs := own_set (x := y % 256) hown hl (show width - 1 - j < width by omega)
   go_wp2
   go_roundw
   case rel =>
    refine ⟨j + 1, by omega, rfl, by go_num, ?_, hb.setCell (Nat.le_refl _) _⟩
    rw [← fB_set width j n hlt, HY.out, show width - j - 1 = width - 1 - j by omega]
    exact hs
   case measure => simp [intOf]; omega
  ·obtain rfl : j = width := by omega
   go_wp2
   go_ret
   exact ⟨_, rfl, by simpa using hown, hb⟩
theorem readFixed_short (ao : Option Addr) (n cap : Nat) (p x : Int) (w : World) (h1 : 1 ≤ x) (h2 : x ≤ 8) (h3 : 0 ≤ p) (h4 : p ≤ n) (h5 : (n : Int) - p < x) :
  Calls Tryz.prog 164 #[.slice ao n cap, .int .i64 p, .int .i64 x] w fun e w' => e = .returned (.tuple #[.int .u64 0, .int .i64 10]) ∧ w' = w := by
 go_enter Tryz.func164, Tryz.ntmps164
 go_wp2_with (first | (go_at_call 149; refine same_call (isWidth_yes _ _ h1 h2) ?_) | (go_at_call 168; refine same_call (isPlace_yes _ _ _ _ _ h3 h4) ?_))
 go_ret2
 exact ⟨rfl, rfl⟩
set_option maxHeartbeats 400000 in
theorem readFixed_ok (ao : Option Addr) (n cap : Nat) (l : List Int) (p' x : Int) (w : World) (hs : Sl w ao n cap l) (h1 : 1 ≤ x) (h2 : x ≤ 8) (h3 : 0 ≤ p') (h5 : x ≤ (n : Int) - p') :
  Calls Tryz.prog 164 #[.slice ao n cap, .int .i64 p', .int .i64 x] w fun e w' => e = .returned (.tuple #[.int .u64 (rdB ((l.drop p'.toNat).take x.toNat)), .int .i64 0]) ∧ w' = w := by
 obtain ⟨width, rfl⟩ := Int.eq_ofNat_of_zero_le (show 0 ≤ x by omega)
 obtain ⟨p, rfl⟩ := Int.eq_ofNat_of_zero_le h3
 rw [Int.toNat_natCast, Int.toNat_natCast]
 obtain ⟨hlen, hcap, hroom, hwf, hnil, hat⟩ := hs
 rcases hat with h | ⟨b, off, rfl, hb, hc⟩
 ·omega
 have hd : ((l.drop p).take width).length = width := by simp; omega
 have hwd : Wf ((l.drop p).take width) := (hwf.drop p).take width
 go_enter Tryz.func164, Tryz.ntmps164
 go_wp2_with (first | (go_at_call 149; refine same_call (isWidth_yes _ _ h1 h2) ?_) | (go_at_call 168; refine same_call (isPlace_yes _ _ _ _ _ h3 (by omega)) ?_))
 go_loop [8, 33] (fun v i => ∃ k : Nat, k ≤ width ∧ i = .int .i64 k ∧ v = .int .u64 (rdB (((l.drop p).take width).take k))) (fun _ i => width - (intOf i).toNat)
 case atStart => exact ⟨0, by omega, rfl, by simp [rdB]⟩
 case round =>
  obtain ⟨k, hk, rfl, rfl⟩ := hrel
  by_cases hlt : k < width
  ·have hck : w.cell? ⟨b, off + p + k, none⟩ = some (.int .u8 (((l.drop p).take width).getD k 0)) := by
    rw [Nat.add_assoc, hc (p + k) (by omega)]
    simp [List.getD, hlt]
   have hby := hwd.getD k
   have hsm := rdB_small _ (hwd.take k) k (by omega) (by simp; omega)
   have hsn : rdB (((l.drop p).take width).take (k + 1)) = rdB (((l.drop p).take width).take k) * 256 + ((l.drop p).take width).getD k 0 := by
    rw [take_snoc _ k (by omega), rdB_snoc]
   generalize ((l.drop p).take width).getD k 0 = c at *
   generalize rdB (((l.drop p).take width).take k) = m at *
   have hor := or_byte m c (by omega) (by omega) hby
   have HS := hidden hsn
   clear hsn
   go_wp2
   go_round
   case rel => exact ⟨k + 1, by omega, by go_num, by rw [HS.out]⟩
   case measure => simp [intOf]; omega
  ·obtain rfl : k = width := by omega
   have ht : ((l.drop p).take k).take k = (l.drop p).take k := List.take_of_length_le (by omega)
   go_wp2
   go_ret2
   exact ⟨rfl, rfl⟩
end Go.Proofs.YtlhkinlgolcpaaaGreatDoor

namespace Go.Proofs.YtlhkinlgolcpaaaGreatDoor
set_option maxRecDepth 100000
open Go.RowKit
theorem i64_and_nat (a b : Nat) (ha : a < 9223372036854775808) (hb : b < 9223372036854775808) : bits .and .i64 (a : Int) (b : Int) = ((a &&& b : Nat) : Int) := by
 show IntKind.i64.wrap ((BitVec.ofInt 64 a &&& BitVec.ofInt 64 b).toNat : Nat) = _
 have hle : a &&& b < 9223372036854775808 := Nat.and_lt_two_pow (n := 63) a (by omega)
 have h1 : (BitVec.ofInt 64 (a : Int)).toNat = a := by rw [BitVec.toNat_ofInt]; omega
 have h2 : (BitVec.ofInt 64 (b : Int)).toNat = b := by rw [BitVec.toNat_ofInt]; omega
 rw [BitVec.toNat_and, h1, h2, IntKind.wrap_i64]
 omega
theorem top_bit (n k : Nat) (h1 : 2 ^ k < n) (h2 : n < 2 * 2 ^ k) : n &&& (n - 1) ≠ 0 := by
 intro h
 have hb := congrArg (fun x => Nat.testBit x k) h
 simp only [Nat.testBit_and, Nat.zero_testBit] at hb
 have e1 : n.testBit k = true := by
  rw [Nat.testBit_eq_decide_div_mod_eq]
  have : n / 2 ^ k = 1 := Nat.div_eq_of_lt_le (by omega) (by omega)
  simp [this]
 have e2 : (n - 1).testBit k = true := by
  rw [Nat.testBit_eq_decide_div_mod_eq]
  have : (n - 1) / 2 ^ k = 1 := Nat.div_eq_of_lt_le (by omega) (by omega)
  simp [this]
 rw [e1, e2] at hb
 cases hb
theorem pow_iff (x : Int) (h0 : 512 ≤ x) (h1 : x ≤ 65536) : bits .and .i64 x (x - 1) = 0 ↔ pw x := by
 obtain ⟨n, rfl⟩ := Int.eq_ofNat_of_zero_le (show 0 ≤ x by omega)
 have e : ((n : Int) - 1) = ((n - 1 : Nat) : Int) := by omega
 rw [e, i64_and_nat n (n - 1) (by omega) (by omega)]
 constructor
 ·intro h
  have h' : n &&& (n - 1) = 0 := by omega
  unfold pw
  have k9 : ¬ (512 < n ∧ n < 1024) := fun a => top_bit n 9 (by simpa using a.1) (by simpa using a.2) h'
  have k10 : ¬ (1024 < n ∧ n < 2048) := fun a => top_bit n 10 (by simpa using a.1) (by simpa using a.2) h'
  have k11 : ¬ (2048 < n ∧ n < 4096) := fun a => top_bit n 11 (by simpa using a.1) (by simpa using a.2) h'
  have k12 : ¬ (4096 < n ∧ n < 8192) := fun a => top_bit n 12 (by simpa using a.1) (by simpa using a.2) h'
  have k13 : ¬ (8192 < n ∧ n < 16384) := fun a => top_bit n 13 (by simpa using a.1) (by simpa using a.2) h'
  have k14 : ¬ (16384 < n ∧ n < 32768) := fun a => top_bit n 14 (by simpa using a.1) (by simpa using a.2) h'
  have k15 : ¬ (32768 < n ∧ n < 65536) := fun a => top_bit n 15 (by simpa using a.1) (by simpa using a.2) h'
  omega
 ·intro h
  have h2 : n = 512 ∨ n = 1024 ∨ n = 2048 ∨ n = 4096 ∨ n = 8192 ∨ n = 16384 ∨ n = 32768 ∨ n = 65536 := by unfold pw at h; omega
  rcases h2 with rfl | rfl | rfl | rfl | rfl | rfl | rfl | rfl <;> decide
end Go.Proofs.YtlhkinlgolcpaaaGreatDoor

namespace Go.Proofs.YtlhkinlgolcpaaaGreatDoor
set_option maxRecDepth 100000
open Go.RowKit
theorem bl_al {B : Nat} {a w : World} (h : Below B a w) (hB : B ≤ a.heap.size) (o : Obj) : Below B a (w.alloc o) := h.alloc (Nat.le_trans hB h.size) o
theorem bl_go {B : Nat} {a w w' : World} (h : Below B a w) (hB : B ≤ a.heap.size) (k : Below w.heap.size w w') : Below B a w' := h.trans (k.mono (Nat.le_trans hB h.size))
theorem bl_dr {B : Nat} {a w : World} (h : Below B a w) (q : Nat) : Below B a (w.drewN q) := h.trans ⟨rfl, rfl, rfl, Nat.le_refl _, fun _ _ => rfl⟩
theorem lt_some {w : World} {g : Nat} {o : Obj} (h : w.heap[g]? = some o) : g < w.heap.size := by
 rcases Nat.lt_or_ge g w.heap.size with hx | hx
 ·exact hx
 ·rw [Array.getElem?_eq_none hx] at h; cases h
theorem box_on {w1 w2 : World} {g : Nat} {o : Obj} (h : w1.heap[g]? = some o) (hb : Below w1.heap.size w1 w2) : w2.heap[g]? = some o := (hb.block _ (lt_some h)).trans h
end Go.Proofs.YtlhkinlgolcpaaaGreatDoor

namespace Go.Proofs.YtlhkinlgolcpaaaGreatDoor
set_option maxRecDepth 100000
open Go.RowKit
theorem splice_mid (A X N C : List Int) (a : Nat) (hA : A.length = a) (hX : X.length = N.length) : splice (A ++ (X ++ C)) a N = A ++ (N ++ C) := by
 subst hA
 unfold splice
 have e : (A ++ (X ++ C)).drop (A.length + N.length) = C := by
  rw [← List.append_assoc]
  exact List.drop_left' (by rw [List.length_append, hX])
 rw [List.take_left, e]
theorem By_splice5 (l cs : List Int) (off : Nat) : splice (By l) off (By cs) = By (splice l off cs) := by simp [splice, By, List.map_take, List.map_drop]
theorem step_copy_rw {P : Program} {ops : Array Oper} {o : Oper} {a : Act} {w : World} {K : Act → World → Prop} {Q : Exit → Act → World → Prop} {E : Prop} (hgd : o.guard = none) (d s : Operand) (dT sT : TypeId)
  (ho : o.op = .call { callee := .builtin .copy, args := #[d, s], argTypes := #[dT, sT] }) (elem : TypeId) (hu : P.underlying dT = some (.slice elem)) (hsz : (P.info? elem).map (·.size) = some 1)
  (g off dLen dCap : Nat) (ad : Addr) (sLen sCap : Nat) (hd : a.eval d = .slice (some ⟨g, off, none⟩) dLen dCap) (hs : a.eval s = .slice (some ad) sLen sCap)
  (cur : List Value) (t : TypeId) (hg : w.heap[g]? = some (.cells cur.toArray t (0, 0))) (cs : List Value) (hn : cs.length = Nat.min sLen dLen)
  (hsrc : ∀ j v, cs[j]? = some v → w.cell? (ad.add j) = some v) (hfit : off + cs.length ≤ cur.length) (h1 : ∀ v ∈ cs, v.oneCell' = true)
  (h : ∀ u, Hid (u = w.setRow g (splice cur off cs).toArray) → K (a.put o.dst (goInt cs.length)) u) : if Region.wanted o (yielded ops a.tmps) = true then Oper.wp P o a w K Q else E := by
 have hw : Region.wanted o (yielded ops a.tmps) = true := by simp [Region.wanted, hgd]
 rw [if_pos hw]
 have hrun := run_copy_row (P := P) w dT sT o.type elem g off dLen dCap ad sLen sCap cur.toArray t cs hu hsz hg hn hsrc (by simpa using hfit) h1
 unfold Oper.wp
 simp [execOp, ho, resolve, invoke, builtin, hd, hs, hrun, Result.andThen]
 exact h _ (hidden (by simp [splice]))
theorem fixed_row (n x : Int) (w : World) (h0 : 0 ≤ n) (h1 : 1 ≤ x) (h2 : x ≤ 8) :
  Calls Tryz.prog 119 #[.int .u64 n, .int .i64 x] w fun e w' => ∃ b off c, e = .returned (.slice (some ⟨b, off, none⟩) x.toNat c) ∧ Hid (Sl w' (some ⟨b, off, none⟩) x.toNat c (fB x.toNat n)) ∧ Hid (Below w.heap.size w w') := by
 refine (fixed_yes n x w h0 h1 h2).mono ?_
 rintro e w' ⟨v, rfl, ho, hb⟩
 obtain ⟨ao, cap, rfl, hs, _⟩ := ho.sl (fB_wf _ _) (by rw [fB_length]; omega)
 rw [fB_length] at hs ⊢
 rcases hs.hat with h | ⟨b, off, rfl, hlt, hc⟩
 ·omega
 ·exact ⟨b, off, cap, rfl, hs, hb⟩
theorem sl_src5 {w : World} {b off n c : Nat} {l : List Int} (h : Sl w (some ⟨b, off, none⟩) n c l) : ∀ j v, (By l)[j]? = some v → w.cell? ((⟨b, off, none⟩ : Addr).add j) = some v := by
 intro j v hv
 obtain ⟨h1, rfl⟩ := getElem?_By l j v hv
 rw [Addr.add_lit]
 rcases h.hat with h0 | ⟨b', off', e, hlt, hc⟩
 ·have := h.hlen; omega
 ·injection e with e
  injection e with e1 e2
  subst e1 e2
  exact hc j (by have := h.hlen; omega)
end Go.Proofs.YtlhkinlgolcpaaaGreatDoor
