import Derived.Test.YtfgffajgfgifhaaGreatDoorJ06
import Derived.Shelf.Strconv.Itoa0
import Derived.Shelf.Bytes.SlSearch0
import Derived.Shelf.Bytes.Small
import Derived.Test.YtfgffajgfgifhaaGreatDoorProg
import Derived.Deep.MidRow
import Derived.Deep.Upon
import Derived.Laws.IdiomCopy
import Derived.Lib.SlBytesConst
namespace Go.Proofs.YtfgffajgfgifhaaGreatDoor
set_option maxRecDepth 100000
def pkL (k : Int) (n : Nat) (P : List Int) (cs : List Cl) : List Int := [k, 2] ++ (fB 2 cs.length ++ (fB 2 P.length ++ (P ++ (sloB (qst P.length (whl k) (6 + P.length + 2 * cs.length) cs) ++ (qbd P.length (whl k) cs ++ zs (n - szQ k P.length cs))))))
def pkH (k : Int) (n : Nat) (cs : List Cl) : List Int := pkL k n (shP k cs) cs
def pkB (k : Int) (n : Nat) (cs : List Cl) : List Int := sealB (pkH k n cs)
theorem zal (k : Int) (m : Nat) (cs : List Cl) : szQ k m cs = 10 + m + 2 * cs.length + (qbd m (whl k) cs).length := by
 unfold szQ
 rw [qsm_eq]
 omega
theorem pkL_length (k : Int) (n : Nat) (P : List Int) (cs : List Cl) (h : szQ k P.length cs ≤ n) : (pkL k n P cs).length = n - 4 := by
 have := zal k P.length cs
 simp only [pkL, zG, List.length_cons, List.length_nil, zao, zcw, zar, zcc]
 omega
theorem pkB_length (k : Int) (n : Nat) (cs : List Cl) (h : szQ k (shP k cs).length cs ≤ n) : (pkB k n cs).length = n := by
 have := zal k (shP k cs).length cs
 rw [pkB, sealB_length, pkH, pkL_length k n _ cs h]
 omega
theorem qbd_wf (m : Nat) : ∀ (f : Bool) (cs : List Cl), (∀ c ∈ cs, c.Wf ∧ c.fit) → Wf (qbd m f cs)
 | _, [], _ => Wf.nil
 | f, c :: r, h => by
  have hc := h c (by simp)
  have h1 := hc.2.key
  have h2 := hc.2.val
  exact (qB_wf hc.1 (by omega) (by omega)).append (qbd_wf m false r fun d hd => h d (by simp [hd]))
theorem shr_wf : ∀ (l : List Cl), (∀ c ∈ l, c.Wf) → Wf (shr l)
 | [], _ => Wf.nil
 | c :: r, h => (h c (by simp)).1.take _
theorem ktl_mem {k : Int} {cs : List Cl} {c : Cl} (h : c ∈ ktl k cs) : c ∈ cs := by
 unfold ktl at h
 split at h
 ·exact List.mem_of_mem_tail h
 ·exact h
theorem shP_wf {k : Int} {cs : List Cl} (h : ∀ c ∈ cs, c.Wf) : Wf (shP k cs) := shr_wf _ fun c hc => h c (ktl_mem hc)
theorem pkL_wf {k : Int} {n : Nat} {P : List Int} {cs : List Cl} (hk : 0 ≤ k ∧ k ≤ 255) (hP : Wf P) (h : ∀ c ∈ cs, c.Wf ∧ c.fit) : Wf (pkL k n P cs) :=
 Wf.append (Wf.cons hk (Wf.cons (by omega) Wf.nil)) (Wf.append (fB_wf _ _) (Wf.append (fB_wf _ _) (Wf.append hP (Wf.append (sloB_wf _) (Wf.append (qbd_wf _ _ _ h) (zs_wf _))))))
theorem pkB_wf {k : Int} {n : Nat} {cs : List Cl} (hk : 0 ≤ k ∧ k ≤ 255) (h : ∀ c ∈ cs, c.Wf ∧ c.fit) : Wf (pkB k n cs) := sealB_wf (pkL_wf hk (shP_wf fun c hc => (h c hc).1) h)
def zap (k p : Int) (P : List Int) : Nat → Bool → Option (List Int) → List Int → Option (List Cl × List Int)
 | 0, _, _, l => some ([], l)
 | n + 1, f, pr, l =>
  match pC l with
  | none => none
  | some (d, r) =>
   if mayP k p (d.pre (if f then [] else P)) ∧ zaq pr (d.pre (if f then [] else P)).key then
    (zap k p P n false (some (d.pre (if f then [] else P)).key) r).map fun x => (d.pre (if f then [] else P) :: x.1, x.2)
   else none
def BegF (P : List Int) : Bool → List Cl → Prop
 | _, [] => True
 | f, c :: r => (f = false → c.key.take P.length = P) ∧ BegF P false r
theorem begF_false (P : List Int) : ∀ (cs : List Cl), BegF P false cs ↔ ∀ c ∈ cs, c.key.take P.length = P
 | [] => by simp [BegF]
 | c :: r => by simp [BegF, begF_false P r]
theorem begF_iff (k : Int) (P : List Int) (cs : List Cl) : BegF P (whl k) cs ↔ Beg k P cs := by
 unfold Beg ktl whl
 by_cases hk : k = 3
 ·simp only [hk, decide_true, if_true]
  cases cs with
  | nil => simp [BegF]
  | cons c r => simp [BegF, begF_false P r]
 ·simp only [hk, decide_false, if_false]
  exact begF_false P cs
theorem Cl.cut_zero (c : Cl) : (c.cut 0).pre [] = c := by
 obtain ⟨key, kd, val, pg, ct⟩ := c
 simp [Cl.cut, Cl.pre]
theorem partQ_of {k p : Int} (hp : p ≤ 65536) (P z : List Int) : ∀ (cs : List Cl) (f : Bool) (pr : Option (List Int)), chk k p pr cs = 0 → BegF P f cs → zap k p P cs.length f pr (qbd P.length f cs ++ z) = some (cs, z)
 | [], _, _, _, _ => rfl
 | c :: r, f, pr, h, hb => by
  unfold chk at h
  split at h
  ·next h1 =>
   split at h
   ·next h2 =>
    simp only [List.length_cons, zap, qbd, zM]
    rw [pC_mid _ c _ (h1.fit hp)]
    have e : (c.cut (if f then 0 else P.length)).pre (if f then [] else P) = c := by
     cases f with
     | true => exact c.cut_zero
     | false => exact c.cut_pre _ _ (hb.1 rfl)
    simp only [e, h1, h2, and_self, if_true]
    rw [partQ_of hp P z r false _ h hb.2]
    rfl
   ·simp at h
  ·simp at h
theorem qB_pre (P : List Int) (d : Cl) : qB P.length (d.pre P) = qB 0 d := by
 obtain ⟨key, kd, val, pg, ct⟩ := d
 unfold qB Cl.pre
 simp
theorem partQ_inv {k p : Int} (P : List Int) (hP : Wf P) : ∀ (n : Nat) (f : Bool) (pr : Option (List Int)) (l r : List Int) (cs : List Cl), Wf l → zap k p P n f pr l = some (cs, r) → cs.length = n ∧ l = qbd P.length f cs ++ r ∧ chk k p pr cs = 0 ∧ (∀ c ∈ cs, c.Wf) ∧ BegF P f cs
 | 0, f, pr, l, r, cs, hw, h => by
  simp only [zap, Option.some.injEq, Prod.mk.injEq] at h
  obtain ⟨rfl, rfl⟩ := h
  exact ⟨rfl, rfl, rfl, (fun c hc => by cases hc), trivial⟩
 | n + 1, f, pr, l, r, cs, hw, h => by
  unfold zap at h
  split at h
  ·cases h
  ·next d r1 e =>
   obtain ⟨c, hc⟩ : ∃ c, d.pre (if f then [] else P) = c := ⟨_, rfl⟩
   rw [hc] at h
   split at h
   ·next hm =>
    obtain ⟨e1, e3, e4, _⟩ := pC_inv hw e
    cases hq : zap k p P n false (some c.key) r1 with
    | none => rw [hq] at h; cases h
    | some x =>
     obtain ⟨ds, r2⟩ := x
     rw [hq] at h
     simp only [Option.map_some, Option.some.injEq, Prod.mk.injEq] at h
     obtain ⟨rfl, rfl⟩ := h
     obtain ⟨f1, f2, f3, f4, f5⟩ := partQ_inv P hP n _ _ r1 _ ds e4 hq
     have hcb : qB (if f then 0 else P.length) c = qB 0 d := by
      rw [← hc]
      cases f with
      | true =>
       obtain ⟨key, kd, val, pg, ct⟩ := d
       simp [Cl.pre]
      | false => exact qB_pre P d
     have hcw : c.Wf := by
      rw [← hc]
      cases f with
      | true => exact e3
      | false => exact ⟨hP.append e3.1, e3.2⟩
     refine ⟨by simp [f1], ?_, ?_, ?_, ?_, f5⟩
     ·rw [qbd, hcb, zM, ← f2]
      exact e1
     ·rw [chk, if_pos hm.1, if_pos hm.2]; exact f3
     ·intro x hx
      rcases List.mem_cons.1 hx with e | e
      ·rw [e]; exact hcw
      ·exact f4 x e
     ·intro hf
      subst hf
      rw [← hc]
      simp [Cl.pre]
   ·cases h
structure IsQ (k : Int) (n : Nat) (cs : List Cl) (b : List Int) : Prop where
 kd : isKd k
 sz : pw n
 ok : chk k n none cs = 0
 fit : szQ k (shP k cs).length cs ≤ n
 eq : pkB k n cs = b
def frsQ (b : List Int) : Int := 6 + rdN b 4 2 + rdN b 2 2 * 2
def readQ (b : List Int) : Option (List Int × List Cl) :=
 if pw b.length ∧ isKd (b.getD 0 0) then
  (if (b.length : Int) - 4 < frsQ b then none else (zap (b.getD 0 0) b.length ((b.drop 6).take (rdN b 4 2).toNat) (rdN b 2 2).toNat (whl (b.getD 0 0)) none ((b.drop (frsQ b).toNat).take (b.length - 4 - (frsQ b).toNat))).map fun x => ((b.drop 6).take (rdN b 4 2).toNat, x.1))
 else none
theorem readQ_inv {b P : List Int} {cs : List Cl} (hw : Wf b) (h : readQ b = some (P, cs)) : isKd (b.getD 0 0) ∧ pw b.length ∧ chk (b.getD 0 0) b.length none cs = 0 ∧ szQ (b.getD 0 0) P.length cs ≤ b.length ∧ (∀ c ∈ cs, c.Wf) ∧ Beg (b.getD 0 0) P cs ∧ Wf P := by
 unfold readQ at h
 split at h
 ·next h1 =>
  split at h
  ·cases h
  ·next h2 =>
   have hn := (rdN_bound b hw 2 2).1
   have hm := (rdN_bound b hw 4 2).1
   have hp := zai h1.1
   cases hq : zap (b.getD 0 0) b.length ((b.drop 6).take (rdN b 4 2).toNat) (rdN b 2 2).toNat (whl (b.getD 0 0)) none ((b.drop (frsQ b).toNat).take (b.length - 4 - (frsQ b).toNat)) with
   | none => rw [hq] at h; cases h
   | some x =>
    obtain ⟨ds, r⟩ := x
    rw [hq] at h
    simp only [Option.map_some, Option.some.injEq, Prod.mk.injEq] at h
    obtain ⟨rfl, rfl⟩ := h
    have hPw : Wf ((b.drop 6).take (rdN b 4 2).toNat) := (hw.drop _).take _
    obtain ⟨e1, e2, e3, e4, e5⟩ := partQ_inv _ hPw _ _ _ _ _ _ ((hw.drop _).take _) hq
    have hl := congrArg List.length e2
    rw [zJ, zK, zG] at hl
    have hPl : ((b.drop 6).take (rdN b 4 2).toNat).length = (rdN b 4 2).toNat := by
     rw [zJ, zK]
     unfold frsQ at h2
     omega
    refine ⟨h1.2, h1.1, e3, ?_, e4, (begF_iff _ _ _).1 e5, hPw⟩
    rw [zal]
    rw [hPl] at hl ⊢
    unfold frsQ at hl h2
    omega
 ·cases h
theorem pkB_split (k : Int) (n : Nat) (cs : List Cl) : ∃ U : List Int, U.length = 4 ∧ pkB k n cs = pkL k n (shP k cs) cs ++ U := ⟨_, zao 4 _, rfl⟩
theorem zcg {k : Int} {n : Nat} {cs : List Cl} {b : List Int} (h : IsQ k n cs b) : readQ b = some (shP k cs, cs) ∧ b.length = n ∧ b.getD 0 0 = k := by
 obtain ⟨h1, h2, h3, h4, h5⟩ := h
 have hp := zai h2
 have hz := zal k (shP k cs).length cs
 have hlen : b.length = n := by rw [← h5, pkB_length k n cs h4]
 have hg : b.getD 0 0 = k := by rw [← h5]; rfl
 obtain ⟨U, hU, hsp⟩ := pkB_split k n cs
 rw [h5] at hsp
 have hbeg := zbe k cs
 generalize shP k cs = P at *
 obtain ⟨Z, hZ⟩ : ∃ Z, zs (n - szQ k P.length cs) = Z := ⟨_, rfl⟩
 obtain ⟨S, hS⟩ : ∃ S, sloB (qst P.length (whl k) (6 + P.length + 2 * cs.length) cs) = S := ⟨_, rfl⟩
 have hSl : S.length = 2 * cs.length := by rw [← hS, zcw, zar]
 unfold pkL at hsp
 rw [hZ, hS] at hsp
 simp only [zM] at hsp
 have hZl : Z.length = n - szQ k P.length cs := by rw [← hZ, zcc]
 have hr2 : rdN b 2 2 = (cs.length : Int) := by
  rw [hsp, rdN_mid [k, 2] (fB 2 cs.length) _ 2 2 rfl (zao _ _), fB_read 2 _ (by omega) (by omega)]
 have hr4 : rdN b 4 2 = (P.length : Int) := by
  rw [hsp, ← zM [k, 2], rdN_mid ([k, 2] ++ fB 2 cs.length) (fB 2 P.length) _ 4 2 (by simp [zao]) (zao _ _), fB_read 2 _ (by omega) (by omega)]
 have hf : frsQ b = ((6 + P.length + 2 * cs.length : Nat) : Int) := by
  unfold frsQ
  rw [hr2, hr4]
  omega
 have hP6 : (b.drop 6).take P.length = P := by
  rw [hsp, ← zM (fB 2 cs.length), ← zM [k, 2], List.drop_left' (by simp [zao]), List.take_left]
 have hbody : (b.drop (6 + P.length + 2 * cs.length)).take (n - 4 - (6 + P.length + 2 * cs.length)) = qbd P.length (whl k) cs ++ Z := by
  have e : b = ([k, 2] ++ (fB 2 cs.length ++ (fB 2 P.length ++ (P ++ S)))) ++ ((qbd P.length (whl k) cs ++ Z) ++ U) := by
   rw [hsp]
   simp only [zM]
  rw [e, List.drop_left' (by simp only [zG, List.length_cons, List.length_nil, zao, hSl]; omega), List.take_left' (by rw [zG, hZl]; omega)]
 refine ⟨?_, hlen, hg⟩
 unfold readQ
 rw [hg, hlen, hf, hr2, hr4, if_pos ⟨h2, h1⟩, if_neg (by omega)]
 simp only [Int.toNat_natCast]
 rw [hP6, hbody, partQ_of (by omega) P Z cs (whl k) none h3 ((begF_iff k P cs).2 hbeg)]
 rfl
theorem isQ_iff {b : List Int} (hw : Wf b) (cs : List Cl) : IsQ (b.getD 0 0) b.length cs b ↔ (∃ P, readQ b = some (P, cs)) ∧ pkB (b.getD 0 0) b.length cs = b := by
 constructor
 ·intro h
  exact ⟨⟨_, (zcg h).1⟩, h.eq⟩
 ·rintro ⟨⟨P, h1⟩, h2⟩
  obtain ⟨a1, a2, a3, a4, _, a6, _⟩ := readQ_inv hw h1
  exact ⟨a1, a2, a3, zN (szQ_less a6) a4, h2⟩
theorem IsQ.at {k : Int} {n : Nat} {cs : List Cl} {b : List Int} (h : IsQ k n cs b) : IsQ (b.getD 0 0) b.length cs b := by
 obtain ⟨_, h2, h3⟩ := zcg h
 rw [h2, h3]
 exact h
theorem IsQ.one {k j : Int} {n m : Nat} {cs ds : List Cl} {b : List Int} (h : IsQ k n cs b) (g : IsQ j m ds b) : k = j ∧ n = m ∧ cs = ds := by
 obtain ⟨h1, h2, h3⟩ := zcg h
 obtain ⟨g1, g2, g3⟩ := zcg g
 have := Option.some.inj (h1.symm.trans g1)
 exact ⟨h3.symm.trans g3, h2.symm.trans g2, congrArg Prod.snd this⟩
end Go.Proofs.YtfgffajgfgifhaaGreatDoor

namespace Go.Proofs
open Go.Shelf
def Tryz.lays129_ren : Go.Shelf.Ren := ⟨fun | 129 => 133 | n => n, fun | 53 => 107 | 3 => 3 | 4 => 4 | 46 => 138 | 5 => 5 | 9 => 9 | n => n, fun | n => n⟩
theorem Tryz.lays129 : Go.Proofs.Lays.n129 Tryz.prog Tryz.lays129_ren := {
 mixed := by kernel_rfl
 f129 := Tryz.func133.trans (congrArg some (by kernel_rfl))
 t3 := Tryz.underlying3
 a3 := Tryz.isAgg3
 z3 := Tryz.sizeOf3
 v3 := Tryz.zeroValue3
 t4 := Tryz.underlying4
 a4 := Tryz.isAgg4
 z4 := Tryz.sizeOf4
 v4 := Tryz.zeroValue4
 t5 := Tryz.underlying5
 a5 := Tryz.isAgg5
 z5 := Tryz.sizeOf5
 v5 := Tryz.zeroValue5
 t9 := Tryz.underlying9
 a9 := Tryz.isAgg9
 z9 := Tryz.sizeOf9
 v9 := Tryz.zeroValue9
 t46 := Tryz.underlying138
 a46 := Tryz.isAgg138
 z46 := Tryz.sizeOf138
 v46 := Tryz.zeroValue138
 t53 := Tryz.underlying107
 a53 := Tryz.isAgg107
 z53 := Tryz.sizeOf107
 v53 := Tryz.zeroValue107 }
theorem Tryz.bits_Len64 (x : Int) (w : World) (h0 : 0 ≤ x) (h1 : x ≤ 18446744073709551615) :
  Calls Tryz.prog 133 #[.int .u64 x] w fun e w' => e = .returned (.int .i64 (Lib.bitLen x.toNat)) ∧ w' = w := Any.bits_Len64 Tryz.lays129 x w h0 h1
end Go.Proofs
namespace Go.Proofs.YtfgffajgfgifhaaGreatDoor
set_option maxRecDepth 100000
open Go.RowKit
theorem or_one (n : Int) (h0 : 0 ≤ n) (h1 : n < 18446744073709551616) : bits .or .u64 n 1 = n / 2 * 2 + 1 := by
 obtain ⟨m, rfl⟩ := Int.eq_ofNat_of_zero_le h0
 have hm : m < 18446744073709551616 := by omega
 have e : m ||| 1 = m / 2 * 2 + 1 := by
  have h2 : m % 2 ||| m / 2 * 2 ^ 1 = m % 2 + m / 2 * 2 ^ 1 := or_nat (m % 2) (m / 2) 1 (by omega)
  have h3 : 1 ||| m / 2 * 2 ^ 1 = 1 + m / 2 * 2 ^ 1 := or_nat 1 (m / 2) 1 (by omega)
  have h4 : m % 2 ||| 1 = 1 := by rcases Nat.mod_two_eq_zero_or_one m with e | e <;> rw [e] <;> rfl
  have h5 : m = m % 2 ||| m / 2 * 2 ^ 1 := by rw [h2]; omega
  conv => lhs; rw [h5]
  rw [Nat.or_assoc, Nat.or_comm (m / 2 * 2 ^ 1) 1, ← Nat.or_assoc, h4, h3]
  omega
 rw [u64_or _ _ (by omega) (by omega) (by omega) (by omega), Int.toNat_natCast, show (1 : Int).toNat = 1 from rfl, e]
 omega
theorem bl_small : ∀ n : Fin 128, n.val ≠ 0 → 1 ≤ Lib.bitLen n.val ∧ Lib.bitLen n.val ≤ 7 := by decide +kernel
theorem uB_bits : ∀ (f : Nat) (m : Nat), m ≠ 0 → m < 18446744073709551616 → m < 128 ^ f → (Lib.bitLen m + 6) / 7 = (uB (m : Int)).length
 | 0, m, h0, _, h => by simp at h; omega
 | f + 1, m, h0, h1, h => by
  by_cases hm : m < 128
  ·have := bl_small ⟨m, hm⟩ h0
   rw [zcb (by omega)]
   simp only [List.length_cons, List.length_nil] at *
   omega
  ·have e := Lib.bitLen_shift 7 m (by omega) (by omega)
   have ih := uB_bits f (m / 128) (by omega) (by omega) (by rw [Nat.pow_succ] at h; omega)
   rw [uB_step (by omega) (by omega), List.length_cons, e, show (2 : Nat) ^ 7 = 128 from rfl]
   rw [show ((m : Int) / 128) = ((m / 128 : Nat) : Int) by omega, ← ih]
   omega
theorem uB_odd (n : Int) (h0 : 0 ≤ n) (h1 : n < 18446744073709551616) : (uB (n / 2 * 2 + 1)).length = (uB n).length := by
 by_cases h : n < 128
 ·rw [zcb h, zcb (by omega)]
  rfl
 ·rw [uB_step h h1, uB_step (n := n / 2 * 2 + 1) (by omega) (by omega), show (n / 2 * 2 + 1) / 128 = n / 128 by omega]
  simp
theorem zay (k i : Int) (w : World) : Calls Tryz.prog 44 #[.int .i64 k, .int .i64 i] w fun e w' => e = .returned (.bool (decide (k = 3 ∧ i = 0))) ∧ w' = w := by
 by_cases h1 : k = 3
 ·by_cases h2 : i = 0
  ·subst h1 h2
   go_enter Tryz.func44, Tryz.ntmps44
   go_wp2
   go_ret
   exact ⟨rfl, rfl⟩
  ·have d2 : (i == 0) = false := by simpa using h2
   subst h1
   go_enter Tryz.func44, Tryz.ntmps44
   go_wp2
   go_ret
   simp [h2]
 ·have d1 : (k == 3) = false := by simpa using h1
  go_enter Tryz.func44, Tryz.ntmps44
  go_wp2
  go_ret
  simp [h1]
theorem uintLen_any (n : Int) (w : World) (h0 : 0 ≤ n) (h1 : n < 18446744073709551616) : Calls Tryz.prog 92 #[.int .u64 n] w fun e w' => e = .returned (.int .i64 ((uB n).length : Int)) ∧ w' = w := by
 have ho := or_one n h0 h1
 obtain ⟨m, hm⟩ : ∃ m : Nat, n / 2 * 2 + 1 = (m : Int) := ⟨(n / 2 * 2 + 1).toNat, by omega⟩
 have hl := uB_bits 10 m (by omega) (by omega) (by omega)
 have hlu := uB_odd n h0 h1
 rw [hm] at ho hlu
 have HB := zaa (Tryz.bits_Len64 (m : Int) w (by omega) (by omega))
 rw [Int.toNat_natCast] at HB
 have hb : Lib.bitLen m ≤ 64 := Lib.bitLen_le m 64 (by omega) (by omega)
 have e1 : ((uB n).length : Int) = ((Lib.bitLen m : Int) + 6) / 7 := by rw [← hlu, ← hl]; omega
 rw [e1]
 generalize Lib.bitLen m = x at *
 clear hl hlu e1
 go_enter Tryz.func92, Tryz.ntmps92
 go_wp2_with (go_at_call 133; refine zae HB.out ?_)
 go_ret
 exact ⟨rfl, rfl⟩
theorem textLen_any (n : Nat) (w : World) (h : n ≤ 140737488355328) : Calls Tryz.prog 51 #[.int .i64 (n : Int)] w fun e w' => e = .returned (.int .i64 (tL n : Int)) ∧ w' = w := by
 have HU := zaa (uintLen_any (n : Int) w (by omega) (by omega))
 have hw : IntKind.u64.wrap (n : Int) = (n : Int) := by rw [IntKind.wrap_u64]; omega
 have hu := (zan (n : Int)).1
 have e1 : (tL n : Int) = ((uB (n : Int)).length : Int) + (n : Int) := by unfold tL; omega
 rw [e1]
 generalize (uB (n : Int)).length = x at *
 clear e1
 go_enter Tryz.func51, Tryz.ntmps51
 go_wp2_with (go_at_call 92; refine zae HU.out ?_)
 go_ret
 exact ⟨rfl, rfl⟩
def tlN (kd : Int) (vn : Nat) (pg ct : Int) : Nat := if kd = 1 then tL vn else (uB (pg % 18446744073709551616)).length + (uB (ct % 18446744073709551616)).length
theorem tailLen_any (ka : Option Addr) (kn kc : Nat) (kd : Int) (va : Option Addr) (vn vc : Nat) (pg ct : Int) (w : World) (hv : vn ≤ 140737488355328) :
  Calls Tryz.prog 52 #[.agg #[.slice ka kn kc, .int .i64 kd, .slice va vn vc, .int .i64 pg, .int .i64 ct]] w fun e w' => e = .returned (.int .i64 (tlN kd vn pg ct : Int)) ∧ Below w.heap.size w w' := by
 obtain ⟨x, hx⟩ : ∃ x, w.alloc (.cells #[.slice ka kn kc, .int .i64 kd, .slice va vn vc, .int .i64 pg, .int .i64 ct] 39) = x := ⟨_, rfl⟩
 have hbx : Below w.heap.size w x := by rw [← hx]; exact zac Br Lr _
 have hc5 : C5 x w.heap.size (.slice ka kn kc) (.int .i64 kd) (.slice va vn vc) (.int .i64 pg) (.int .i64 ct) := by rw [← hx]; exact C5.box w _ _ _ _ _
 obtain ⟨c0, c1, c2, c3, c4⟩ := hc5.cells
 have HBX := zaa hbx
 clear hc5 hbx
 unfold tlN
 by_cases h : kd = 1
 ·subst h
  rw [if_pos rfl]
  have HT := zaa (textLen_any vn x hv)
  go_enter Tryz.func52, Tryz.ntmps52
  go_wp2_with (go_at_call 51; refine zae HT.out ?_)
  go_ret
  exact ⟨rfl, HBX.out⟩
 ·rw [if_neg h]
  have hk1b : (kd == 1) = false := by simpa using h
  obtain ⟨P, hP⟩ : ∃ P, pg % 18446744073709551616 = P := ⟨_, rfl⟩
  obtain ⟨C, hC⟩ : ∃ C, ct % 18446744073709551616 = C := ⟨_, rfl⟩
  have hPw : IntKind.u64.wrap pg = P := by rw [IntKind.wrap_u64, hP]
  have hCw : IntKind.u64.wrap ct = C := by rw [IntKind.wrap_u64, hC]
  have HU : Hid (∀ z q, (z = P ∨ z = C) → Calls Tryz.prog 92 #[.int .u64 z] (x.drewN q) fun e w' => e = .returned (.int .i64 ((uB z).length : Int)) ∧ w' = x.drewN q) := zaa fun z q hz => uintLen_any z _ (by omega) (by omega)
  have u1 := (zan P).1
  have u2 := (zan C).1
  rw [hP, hC]
  have b1 : ((uB P).length : Int) ≤ 10 := by omega
  have b2 : ((uB C).length : Int) ≤ 10 := by omega
  have b3 : IntKind.i64.wrap (((uB P).length : Int) + ((uB C).length : Int)) = ((uB P).length : Int) + ((uB C).length : Int) := by rw [IntKind.wrap_i64]; omega
  clear hP hC
  go_enter Tryz.func52, Tryz.ntmps52
  go_wp2_with fail
  go_quiet (first | (go_at_call 92; exact Calls.quiet_of_same (HU.out _ _ (by simp))))
  go_wp2
  go_ret
  exact ⟨by simp, zad HBX.out _⟩
def CAt (w : World) (b off : Nat) (c : Cl) : Prop :=
 ∃ ka kc va vc, w.cell? ⟨b, off, none⟩ = some (.slice ka c.key.length kc) ∧ w.cell? ⟨b, off + 1, none⟩ = some (.int .i64 c.kd) ∧ w.cell? ⟨b, off + 2, none⟩ = some (.slice va c.val.length vc) ∧ w.cell? ⟨b, off + 3, none⟩ = some (.int .i64 c.pg) ∧ w.cell? ⟨b, off + 4, none⟩ = some (.int .i64 c.ct) ∧ Sl w ka c.key.length kc c.key ∧ Sl w va c.val.length vc c.val
structure SlC (w : World) (ao : Option Addr) (n cap : Nat) (cs : List Cl) : Prop where
 hlen : cs.length = n
 hcap : n ≤ cap
 hroom : n ≤ 140737488355328
 hnil : ao = none → cap = 0
 hat : n = 0 ∨ ∃ b off, ao = some ⟨b, off, none⟩ ∧ b < w.heap.size ∧ ∀ i c, cs[i]? = some c → CAt w b (off + i * 5) c
theorem CAt.on {w w' : World} {b off : Nat} {c : Cl} (h : CAt w b off c) (hb : b < w.heap.size) (hB : Below w.heap.size w w') : CAt w' b off c := by
 obtain ⟨ka, kc, va, vc, h0, h1, h2, h3, h4, h5, h6⟩ := h
 exact ⟨ka, kc, va, vc, (hB.cell (p := ⟨b, off, none⟩) hb).trans h0, (hB.cell (p := ⟨b, off + 1, none⟩) hb).trans h1, (hB.cell (p := ⟨b, off + 2, none⟩) hb).trans h2, (hB.cell (p := ⟨b, off + 3, none⟩) hb).trans h3, (hB.cell (p := ⟨b, off + 4, none⟩) hb).trans h4, h5.on Lr hB, h6.on Lr hB⟩
theorem SlC.on {w w' : World} {ao : Option Addr} {n cap : Nat} {cs : List Cl} (h : SlC w ao n cap cs) (hB : Below w.heap.size w w') : SlC w' ao n cap cs := by
 refine ⟨h.hlen, h.hcap, h.hroom, h.hnil, ?_⟩
 rcases h.hat with h0 | ⟨b, off, e, hb, hc⟩
 ·exact .inl h0
 ·exact .inr ⟨b, off, e, zO hb hB.size, fun i c hi => (hc i c hi).on hb hB⟩
theorem SlC.wf {w : World} {ao : Option Addr} {n cap : Nat} {cs : List Cl} (h : SlC w ao n cap cs) : ∀ c ∈ cs, c.Wf := by
 intro c hc
 obtain ⟨i, hi, e⟩ := List.getElem_of_mem hc
 rcases h.hat with h0 | ⟨b, off, _, _, hcs⟩
 ·have := h.hlen; omega
 ·obtain ⟨_, _, _, _, _, _, _, _, _, h5, h6⟩ := hcs i c (by rw [zI hi, e])
  exact ⟨h5.wf, h6.wf⟩
def RowC (w : World) (b N : Nat) : Prop := ∃ cur : Array Value, w.heap[b]? = some (.cells cur 39 (0, 0)) ∧ cur.size = 5 * N
theorem RowC.cell {w : World} {b N : Nat} (h : RowC w b N) (j : Nat) (hj : j < 5 * N) : (w.cell? ⟨b, j, none⟩).isSome = true := by
 obtain ⟨cur, h1, h2⟩ := h
 simp [World.cell?, h1, h2, hj]
theorem RowC.free {w : World} {b N : Nat} (h : RowC w b N) (j : Nat) : w.frozen? ⟨b, j, none⟩ = false := by
 obtain ⟨cur, h1, h2⟩ := h
 simp [World.frozen?, h1]
theorem RowC.lt {w : World} {b N : Nat} (h : RowC w b N) : b < w.heap.size := by
 obtain ⟨cur, h1, _⟩ := h
 exact zag h1
theorem RowC.on {w w' : World} {b N : Nat} (h : RowC w b N) (hb : Below w.heap.size w w') : RowC w' b N := by
 obtain ⟨cur, h1, h2⟩ := h
 exact ⟨cur, zaf h1 hb, h2⟩
theorem RowC.set {w : World} {b N : Nat} (h : RowC w b N) (j : Nat) (v : Value) : RowC (w.setCell ⟨b, j, none⟩ v) b N := by
 obtain ⟨cur, h1, h2⟩ := h
 exact ⟨_, heap_setCell_same w b j cur _ v h1, by simp [h2]⟩
theorem RowC.sets {b N : Nat} : ∀ (vs : List Value) (j : Nat) (w : World), RowC w b N → RowC (w.setCells b j vs) b N
 | [], _, _, h => h
 | v :: r, j, _, h => RowC.sets r (j + 1) _ (h.set j v)
theorem RowC.there {w : World} {b N : Nat} (h : RowC w b N) {j : Nat} (hj : j + 5 ≤ 5 * N) : w.there b j 5 := fun i hi => ⟨h.cell (j + i) (by omega), h.free _⟩
theorem RowC.ne {w : World} {b N g : Nat} {l : List Int} (h : RowC w b N) (hk : Bk w g l) : ¬ g = b := by
 rintro rfl
 obtain ⟨cur, h1, _⟩ := h
 unfold Bk at hk
 rw [hk] at h1
 simp at h1
theorem oneCell5 (ka va : Option Addr) (kn kc vn vc : Nat) (kd pg ct : Int) : (#[.slice ka kn kc, .int .i64 kd, .slice va vn vc, .int .i64 pg, .int .i64 ct] : Array Value).all (·.oneCell') = true :=
 all_oneCell_toArray (cs := [.slice ka kn kc, .int .i64 kd, .slice va vn vc, .int .i64 pg, .int .i64 ct]) (by simp [Value.oneCell'])
theorem put_cell {ops : Array Oper} {rest : List Oper} {o : Oper} {a : Act} {w : World} {Q : Exit → Act → World → Prop} (hgd : o.guard = none) (p v : Operand)
  (ho : o.op = .store 39 p v) (b j N : Nat) (ka va : Option Addr) (kn kc vn vc : Nat) (kd pg ct : Int) (hr : RowC w b N) (hp : a.eval p = .pointer (some ⟨b, j, none⟩)) (hv : a.eval v = .agg #[.slice ka kn kc, .int .i64 kd, .slice va vn vc, .int .i64 pg, .int .i64 ct]) (hj : j + 5 ≤ 5 * N)
  (h : ∀ u, Hid (u = w.setCells b j [.slice ka kn kc, .int .i64 kd, .slice va vn vc, .int .i64 pg, .int .i64 ct]) → wpList Tryz.prog ops Q rest (a.put o.dst undef) u) : wpList Tryz.prog ops Q (o :: rest) a w :=
 wpList_store_mid hgd _ p v ho b j #[.slice ka kn kc, .int .i64 kd, .slice va vn vc, .int .i64 pg, .int .i64 ct] hp hv (hr.there hj) zbu (oneCell5 ..) (h _ (zaa rfl))
theorem Bk.sets {w : World} {g b j : Nat} {l : List Int} {vs : List Value} (h : Bk w g l) (hg : ¬ g = b) : Bk (w.setCells b j vs) g l := (World.heap_setCells_other _ _ _ _ (zag h) (by omega)).trans h
theorem infoC : (Tryz.prog.info? 39).map (fun i => (i.zero, i.size, i.bytes)) = some (some (.agg #[.slice none 0 0, .int .i64 0, .slice none 0 0, .int .i64 0, .int .i64 0]), 5, 72) := by kernel_rfl
theorem SlC.item {w : World} {ao : Option Addr} {n cap : Nat} {cs : List Cl} (h : SlC w ao n cap cs) (i : Nat) (hi : i < n) : ∃ b off c ka kc va vc, ao = some ⟨b, off, none⟩ ∧ b < w.heap.size ∧ cs[i]? = some c ∧
  w.cell? ⟨b, off + i * 5, none⟩ = some (.slice ka c.key.length kc) ∧ w.cell? ⟨b, off + i * 5 + 1, none⟩ = some (.int .i64 c.kd) ∧ w.cell? ⟨b, off + i * 5 + 2, none⟩ = some (.slice va c.val.length vc) ∧ w.cell? ⟨b, off + i * 5 + 3, none⟩ = some (.int .i64 c.pg) ∧ w.cell? ⟨b, off + i * 5 + 4, none⟩ = some (.int .i64 c.ct) ∧ Sl w ka c.key.length kc c.key ∧ Sl w va c.val.length vc c.val := by
 have hl := h.hlen
 rcases h.hat with h0 | ⟨b, off, e, hb, hc⟩
 ·omega
 ·obtain ⟨c, hci⟩ : ∃ c, cs[i]? = some c := ⟨_, zI (by omega)⟩
  obtain ⟨ka, kc, va, vc, h0⟩ := hc i c hci
  exact ⟨b, off, c, ka, kc, va, vc, e, hb, hci, h0⟩
theorem conv6H (w : World) (C : Array Value) (n c H : Nat) (hH : w.heap.size = H) : (convert 37 37 (.slice (some ⟨H, 0, none⟩) n c)).run Tryz.prog (w.alloc (.cells C 5)) = .ok (.slice (some ⟨H, 0, none⟩) n c) (w.alloc (.cells C 5 (C.size, C.size + 1))) := by
 subst hH
 exact Lib.run_convert_bytes_const (P := Tryz.prog) w 37 5 C n c Tryz.underlying37 Tryz.underlying5
def Row5 (w : World) : List Value → List Cl → Prop
 | vs, [] => vs = []
 | vs, c :: r => ∃ ka kc va vc t, vs = .slice ka c.key.length kc :: .int .i64 c.kd :: .slice va c.val.length vc :: .int .i64 c.pg :: .int .i64 c.ct :: t ∧ Sl w ka c.key.length kc c.key ∧ Sl w va c.val.length vc c.val ∧ Row5 w t r
theorem Row5.append {w : World} {us : List Value} {ds : List Cl} (g : Row5 w us ds) : ∀ {vs : List Value} {cs : List Cl}, Row5 w vs cs → Row5 w (vs ++ us) (cs ++ ds)
 | vs, [], h => by
  unfold Row5 at h
  subst h
  exact g
 | vs, c :: r, h => by
  obtain ⟨ka, kc, va, vc, t, rfl, h1, h2, h3⟩ := h
  exact ⟨ka, kc, va, vc, t ++ us, rfl, h1, h2, Row5.append g h3⟩
theorem Row5.cat {w w' : World} {b : Nat} (hB : Below w.heap.size w w') : ∀ {vs : List Value} {cs : List Cl} (off : Nat), Row5 w vs cs → (∀ j u, vs[j]? = some u → w'.cell? ⟨b, off + j, none⟩ = some u) → ∀ i c, cs[i]? = some c → CAt w' b (off + i * 5) c
 | vs, [], off, h, hc, i, c, hi => by simp at hi
 | vs, d :: r, off, h, hc, 0, c, hi => by
  obtain ⟨ka, kc, va, vc, t, rfl, h1, h2, h3⟩ := h
  simp at hi
  subst hi
  exact ⟨ka, kc, va, vc, hc 0 _ rfl, hc 1 _ rfl, hc 2 _ rfl, hc 3 _ rfl, hc 4 _ rfl, h1.on Lr hB, h2.on Lr hB⟩
 | vs, d :: r, off, h, hc, i + 1, c, hi => by
  obtain ⟨ka, kc, va, vc, t, rfl, h1, h2, h3⟩ := h
  have := Row5.cat hB (off + 5) h3 (fun j u hu => by
   have := hc (j + 5) u (by simpa using hu)
   rwa [show off + (j + 5) = off + 5 + j by omega] at this) i c (by simpa using hi)
  rwa [show off + 5 + i * 5 = off + (i + 1) * 5 by omega] at this
theorem SlC.piece {w : World} {b off n cap : Nat} {cs : List Cl} (h : SlC w (some ⟨b, off, none⟩) n cap cs) (i k c : Nat) (hk : i + k ≤ n) (hc : k ≤ c) : SlC w (some ⟨b, off + i * 5, none⟩) k c ((cs.drop i).take k) := by
 have hl := h.hlen
 refine ⟨by rw [zJ, zK]; omega, hc, by have := h.hroom; omega, (by intro h; cases h), ?_⟩
 rcases h.hat with h0 | ⟨b', off', e, hb, hcs⟩
 ·exact .inl (by omega)
 ·injection e with e
  injection e with e1 e2
  subst e1 e2
  refine .inr ⟨b, off + i * 5, rfl, hb, fun j c hj => ?_⟩
  have hjl := (zH.1 hj).1
  rw [zJ, zK] at hjl
  rw [List.getElem?_take_of_lt (by omega), List.getElem?_drop] at hj
  have := hcs (i + j) c hj
  rwa [show off + (i + j) * 5 = off + i * 5 + j * 5 by omega] at this
def cmN : List (List Int) → Nat
 | [] => 0
 | t :: r => r.foldl (fun n x => lcp (t.take n) x) t.length
set_option maxHeartbeats 1000000 in
theorem common_any (ao : Option Addr) (n cap : Nat) (t : List Int) (ls : List (List Int)) (w : World) (hs : SlS w ao n cap (t :: ls)) :
  Calls Tryz.prog 91 #[.slice ao n cap] w fun e w' => e = .returned (.int .i64 (cmN (t :: ls))) ∧ ∃ q, w' = w.drewN q := by
 obtain ⟨hlen, hcap, hroom, hnil, hat⟩ := hs
 obtain ⟨N, rfl⟩ : ∃ N, n = N + 1 := ⟨n - 1, by simp at hlen; omega⟩
 have hlen' : ls.length = N := by simpa using hlen
 clear hlen
 rcases hat with h | ⟨b, off, rfl, hbb, hc⟩
 ·omega
 obtain ⟨a0, m0, c0, hck0, hsl0⟩ := hc 0 (by omega)
 simp only [Nat.add_zero, List.getD_cons_zero] at hck0 hsl0
 have hm0 := hsl0.hlen
 have hr0 := hsl0.hroom
 have hcc0 := hsl0.hcap
 have HS0 := zaa hsl0
 have HC := zaa hc
 clear hsl0 hc
 show Calls Tryz.prog 91 #[.slice (some ⟨b, off, none⟩) (N + 1) cap] w fun e w' => e = .returned (.int .i64 ((ls.foldl (fun n x => lcp (t.take n) x) t.length : Nat) : Int)) ∧ ∃ q, w' = w.drewN q
 rw [hm0]
 generalize hF : ls.foldl (fun n x => lcp (t.take n) x) m0 = F
 have HF := zaa hF
 clear hF
 have hc1 : ((N : Int) + 1 == 0) = false := by simp; omega
 by_cases hcap1 : cap = 1
 ·obtain rfl : N = 0 := by omega
  obtain rfl : ls = [] := List.eq_nil_of_length_eq_zero hlen'
  have e : m0 = F := HF.out
  subst e
  clear HF HC
  go_enter Tryz.func91, Tryz.ntmps91
  go_wp2_with fail
  refine wp_loop_rounds 1 ?_
  rw [rounds_succ]
  go_wp2
  go_ret
  exact ⟨rfl, 0, rfl⟩
 ·go_enter Tryz.func91, Tryz.ntmps91
  go_wp2_with fail
  go_loopw [3, 16] (fun v i wr => ∃ (k q y : Nat), k ≤ N ∧ y ≤ m0 ∧ i = .int .i64 k ∧ v = .int .i64 y ∧ Hid ((ls.drop k).foldl (fun n x => lcp (t.take n) x) y = F) ∧ wr = w.drewN q) (fun _ i _ => N - (intOf i).toNat)
  case atStart => exact ⟨0, 0, m0, by omega, by omega, rfl, rfl, HF, rfl⟩
  case round =>
   obtain ⟨k, q, y, hk, hy, rfl, rfl, HK, rfl⟩ := hrel
   clear HF
   by_cases hlt : k < N
   ·obtain ⟨a, m, c, hck, hsl⟩ := HC.out (k + 1) (by omega)
    have hck' : w.cell? ⟨b, off + 1 + k, none⟩ = some (.slice a m c) := by rw [show off + 1 + k = off + (k + 1) by omega]; exact hck
    rw [show (t :: ls).getD (k + 1) [] = ls.getD k [] by simp [List.getD]] at hsl
    have e := HK.out
    rw [dropS ls k (by omega), List.foldl_cons] at e
    have hle := (lcp_le (t.take y) (ls.getD k [])).1
    have hty : (t.take y).length ≤ y := by simp; omega
    have hal2 := alike_any a0 a y m c0 c (t.take y) (ls.getD k []) (w.drewN q) ((HS0.out.take y hy).drewN q) (hsl.drewN q)
    generalize lcp (t.take y) (ls.getD k []) = y2 at *
    have HE := zaa e
    have HA := zaa hal2
    clear hal2 e HK hck
    go_wp2_with fail
    refine zbn HA.out ?_
    intro q2
    go_wp2
    go_roundw
    case rel => exact ⟨k + 1, _, y2, by omega, by omega, by go_num, rfl, HE, rfl⟩
    case measure => simp [intOf]; omega
   ·have e : y = F := by rw [← HK.out, List.drop_eq_nil_of_le (by omega)]; rfl
    have HE := zaa e
    clear e HK
    go_wp2
    go_ret
    exact ⟨zbf (by rw [HE.out]), _, rfl⟩
end Go.Proofs.YtfgffajgfgifhaaGreatDoor
