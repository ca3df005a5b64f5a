import Derived.Test.YtbkhjeacmmbabaaGreatDoorJ01
import Derived.Deep.QuietTactic
import Derived.BigQuiet
import Derived.Handy
import Derived.Laws.BitsAllLaws
import Derived.Deep.WholeRow
import Derived.Lib.SlBuf
import Derived.Lib.BufferWrite
import Derived.Laws.CopyOwn
import Derived.Deep.RegionLaw
namespace Go.Proofs.YtbkhjeacmmbabaaGreatDoor
set_option maxRecDepth 100000
set_option maxHeartbeats 400000
def kl (a b : List Int) : Prop := ordL a b = -1
instance (a b : List Int) : Decidable (kl a b) := by unfold kl; infer_instance
def zap : Option (List Int) → List Int → Prop
 | none, _ => True
 | some p, k => kl p k
instance (p : Option (List Int)) (k : List Int) : Decidable (zap p k) := by cases p <;> (unfold zap; infer_instance)
def chk (k p : Int) : Option (List Int) → List Cl → Int
 | _, [] => 0
 | pr, c :: r => if mayP k p c then (if zap pr c.key then chk k p (some c.key) r else 63) else 62
theorem zcp {k p : Int} : ∀ {pr : Option (List Int)} {cs : List Cl}, chk k p pr cs = 0 → ∀ c ∈ cs, mayP k p c
 | _, [], _, c, hc => by cases hc
 | pr, d :: r, h, c, hc => by
  unfold chk at h
  split at h
  ·next h1 =>
   split at h
   ·rcases List.mem_cons.1 hc with e | e
    ·rw [e]; exact h1
    ·exact zcp h c e
   ·simp at h
  ·simp at h
def bdy (cs : List Cl) : List Int := cs.flatMap cB
def sts : Nat → List Cl → List Nat
 | _, [] => []
 | b, c :: r => b :: sts (b + (cB c).length) r
theorem zbo (c : Cl) (cs : List Cl) : bdy (c :: cs) = cB c ++ bdy cs := by simp [bdy]
theorem zbe (a b : List Cl) : bdy (a ++ b) = bdy a ++ bdy b := by simp [bdy]
theorem zak : ∀ (b : Nat) (cs : List Cl), (sts b cs).length = cs.length
 | _, [] => rfl
 | b, c :: r => by simp [sts, zak _ r]
theorem sts_shift : ∀ (a b : Nat) (cs : List Cl), sts (a + b) cs = (sts b cs).map (a + ·)
 | _, _, [] => rfl
 | a, b, c :: r => by
  simp only [sts, List.map_cons, List.cons.injEq, true_and]
  rw [Nat.add_assoc]
  exact sts_shift a _ r
theorem zdd : ∀ (b : Nat) (x y : List Cl), sts b (x ++ y) = sts b x ++ sts (b + (bdy x).length) y
 | _, [], _ => rfl
 | b, c :: r, y => by
  simp only [List.cons_append, sts, zbo, zG, List.cons.injEq, true_and]
  rw [zdd, Nat.add_assoc]
theorem zcb : ∀ (b i : Nat) (cs : List Cl), i < cs.length → (sts b cs).getD i 0 = b + (bdy (cs.take i)).length
 | _, _, [], h => by simp at h
 | b, 0, c :: r, _ => by simp [sts, bdy]
 | b, i + 1, c :: r, h => by
  have := zcb (b + (cB c).length) i r (by simpa using h)
  simp only [sts, List.getD_cons_succ, List.take_succ_cons, zbo, zG]
  rw [this]
  omega
theorem bdy_wf : ∀ {cs : List Cl}, (∀ c ∈ cs, c.Wf) → Wf (bdy cs)
 | [], _ => Wf.nil
 | c :: r, h => by
  rw [zbo]
  exact (cB_wf (h c zv)).append (bdy_wf fun d hd => h d (by simp [hd]))
def szN (cs : List Cl) : Nat := 8 + (cs.map ctk).sum
theorem zaw (cs : List Cl) : szN cs = 8 + 2 * cs.length + (bdy cs).length := by
 unfold szN
 induction cs with
 | nil => rfl
 | cons c r ih =>
  have := cB_length c
  simp only [List.map_cons, List.sum_cons, List.length_cons, zbo, zG]
  omega
def sloB (l : List Nat) : List Int := l.flatMap fun (s : Nat) => fB 2 (s : Int)
theorem zbl (l : List Nat) : (sloB l).length = 2 * l.length := by
 induction l with
 | nil => rfl
 | cons x r ih => simp only [sloB, List.flatMap_cons, zG, zah, List.length_cons] at ih ⊢; omega
theorem sloB_wf (l : List Nat) : Wf (sloB l) := by
 induction l with
 | nil => exact Wf.nil
 | cons x r ih => simp only [sloB, List.flatMap_cons]; exact (zbb _ _).append ih
def layP (k : Int) (n : Nat) (cs : List Cl) (i : Nat) : List Int := [k, 1] ++ (fB 2 cs.length ++ (sloB ((sts (n - 4 - (bdy cs).length) cs).take i) ++ zs (n - 4 - 2 * i)))
def pgH (k : Int) (n : Nat) (cs : List Cl) : List Int := [k, 1] ++ (fB 2 cs.length ++ (sloB (sts (n - 4 - (bdy cs).length) cs) ++ (zs (n - szN cs) ++ bdy cs)))
def pgB (k : Int) (n : Nat) (cs : List Cl) : List Int := sealB (pgH k n cs)
theorem pgH_length (k : Int) (n : Nat) (cs : List Cl) (h : szN cs ≤ n) : (pgH k n cs).length = n - 4 := by
 have := zaw cs
 simp only [pgH, zG, List.length_cons, List.length_nil, zah, zbl, zak, zbc]
 omega
theorem zdj (k : Int) (n : Nat) (cs : List Cl) (h : szN cs ≤ n) : (pgB k n cs).length = n := by
 have := zaw cs
 rw [pgB, sealB_length, pgH_length k n cs h]
 omega
theorem pgH_wf {k : Int} {n : Nat} {cs : List Cl} (hk : 0 ≤ k ∧ k ≤ 255) (h : ∀ c ∈ cs, c.Wf) : Wf (pgH k n cs) :=
 Wf.append (Wf.cons hk (Wf.cons zq Wf.nil)) (Wf.append (zbb _ _) (Wf.append (sloB_wf _) (Wf.append (zs_wf _) (bdy_wf h))))
theorem pgB_wf {k : Int} {n : Nat} {cs : List Cl} (hk : 0 ≤ k ∧ k ≤ 255) (h : ∀ c ∈ cs, c.Wf) : Wf (pgB k n cs) := sealB_wf (pgH_wf hk h)
def part (k p : Int) : Nat → Option (List Int) → List Int → Option (List Cl)
 | 0, _, l => if l = [] then some [] else none
 | n + 1, pr, l =>
  match zaj l with
  | none => none
  | some (c, r) => if mayP k p c ∧ zap pr c.key then (part k p n (some c.key) r).map (c :: ·) else none
theorem part_of {k p : Int} (hp : p ≤ 65536) : ∀ (cs : List Cl) (pr : Option (List Int)), chk k p pr cs = 0 → part k p cs.length pr (bdy cs) = some cs
 | [], _, _ => rfl
 | c :: r, pr, h => by
  unfold chk at h
  split at h
  ·next h1 =>
   split at h
   ·next h2 =>
    simp only [List.length_cons, part, zbo]
    rw [pCell_mid c _ (h1.fit hp)]
    simp only [h1, h2, and_self, if_true]
    rw [part_of hp r _ h]
    rfl
   ·simp at h
  ·simp at h
theorem part_inv {k p : Int} : ∀ (n : Nat) (pr : Option (List Int)) (l : List Int) (cs : List Cl), Wf l → part k p n pr l = some cs → cs.length = n ∧ l = bdy cs ∧ chk k p pr cs = 0 ∧ ∀ c ∈ cs, c.Wf
 | 0, pr, l, cs, hw, h => by
  unfold part at h
  split at h
  ·next e =>
   cases h
   exact ⟨rfl, e, rfl, fun c hc => by cases hc⟩
  ·cases h
 | n + 1, pr, l, cs, hw, h => by
  unfold part at h
  split at h
  ·cases h
  ·next c r e =>
   split at h
   ·next hm =>
    obtain ⟨e1, _, e3, e4⟩ := pCell_inv hw e
    cases hq : part k p n (some c.key) r with
    | none => rw [hq] at h; cases h
    | some ds =>
     rw [hq] at h
     simp only [Option.map_some, Option.some.injEq] at h
     subst h
     obtain ⟨f1, f2, f3, f4⟩ := part_inv n _ r ds e4 hq
     refine ⟨by simp [f1], by rw [zbo, ← f2]; exact e1, ?_, ?_⟩
     ·rw [chk, if_pos hm.1, if_pos hm.2]; exact f3
     ·intro d hd
      rcases List.mem_cons.1 hd with e | e
      ·rw [e]; exact e3
      ·exact f4 d e
   ·cases h
def isKd (k : Int) : Prop := k = 2 ∨ k = 3
instance (k : Int) : Decidable (isKd k) := by unfold isKd; infer_instance
instance (k : Int) : Decidable (pw k) := by unfold pw; infer_instance
structure Is (k : Int) (n : Nat) (cs : List Cl) (b : List Int) : Prop where
 kd : isKd k
 sz : pw n
 ok : chk k n none cs = 0
 fit : szN cs ≤ n
 eq : pgB k n cs = b
def frst (b : List Int) : Int := if 0 < rdN b 2 2 then rdN b 4 2 else (b.length : Int) - 4
def zbg (b : List Int) : Option (List Cl) :=
 if pw b.length ∧ isKd (b.getD 0 0) then
  (if frst b < 4 + rdN b 2 2 * 2 ∨ (b.length : Int) - 4 < frst b then none else part (b.getD 0 0) b.length (rdN b 2 2).toNat none ((b.drop (frst b).toNat).take (b.length - 4 - (frst b).toNat)))
 else none
theorem zas {n : Nat} (h : pw n) : 512 ≤ n ∧ n ≤ 65536 := by
 have := pw_le h
 omega
theorem readM_inv {b : List Int} {cs : List Cl} (hw : Wf b) (h : zbg b = some cs) : isKd (b.getD 0 0) ∧ pw b.length ∧ chk (b.getD 0 0) b.length none cs = 0 ∧ szN cs ≤ b.length ∧ (∀ c ∈ cs, c.Wf) ∧ (cs.length : Int) = rdN b 2 2 ∧ bdy cs = (b.drop (frst b).toNat).take (b.length - 4 - (frst b).toNat) ∧ frst b = (b.length : Int) - 4 - (bdy cs).length ∧ 4 + rdN b 2 2 * 2 ≤ frst b := by
 unfold zbg at h
 split at h
 ·next h1 =>
  split at h
  ·cases h
  ·next h2 =>
   have hn := (zbk b hw 2 2).1
   have hp := zas h1.1
   obtain ⟨e1, e2, e3, e4⟩ := part_inv _ _ _ _ ((hw.drop _).take _) h
   have hl := congrArg List.length e2
   rw [zJ, zK] at hl
   have hz := zaw cs
   refine ⟨h1.2, h1.1, e3, ?_, e4, ?_, e2.symm, ?_, ?_⟩ <;> omega
 ·cases h
theorem pgB_split (k : Int) (n : Nat) (cs : List Cl) : ∃ U : List Int, U.length = 4 ∧ pgB k n cs = [k, 1] ++ (fB 2 cs.length ++ (sloB (sts (n - 4 - (bdy cs).length) cs) ++ (zs (n - szN cs) ++ (bdy cs ++ U)))) :=
 ⟨fB 4 (sumN [pgH k n cs]), zah _ _, by rw [pgB, sealB]; conv => lhs; arg 1; rw [pgH]
                                        simp only [zM]⟩
theorem readM_of {k : Int} {n : Nat} {cs : List Cl} {b : List Int} (h : Is k n cs b) : zbg b = some cs ∧ b.length = n ∧ b.getD 0 0 = k := by
 obtain ⟨h1, h2, h3, h4, h5⟩ := h
 have hp := zas h2
 have hz := zaw cs
 have B : b.length = n := by rw [← h5, zdj k n cs h4]
 have hg : b.getD 0 0 = k := by rw [← h5]; rfl
 obtain ⟨U, hU, A⟩ := pgB_split k n cs
 rw [h5] at A
 obtain ⟨F, hF⟩ : ∃ F, n - 4 - (bdy cs).length = F := ⟨_, rfl⟩
 rw [hF] at A
 have hr : rdN b 2 2 = (cs.length : Int) := by
  rw [A, zco _ _ _ 2 2 rfl (zah _ _), zci 2 _ zq zq]
 have hf : frst b = (F : Int) := by
  unfold frst
  rw [hr, B]
  cases cs with
  | nil =>
   simp [bdy] at hF
   simp
   omega
  | cons c r =>
   have e : b = ([k, 1] ++ fB 2 ((c :: r).length : Nat)) ++ (fB 2 (F : Int) ++ (sloB (sts (F + (cB c).length) r) ++ (zs (n - szN (c :: r)) ++ (bdy (c :: r) ++ U)))) := by
    rw [A, show sloB (sts F (c :: r)) = fB 2 (F : Int) ++ sloB (sts (F + (cB c).length) r) from by simp [sloB, sts]]
    simp only [zM]
   rw [if_pos (by simp only [List.length_cons]; omega), e, zco _ _ _ 4 2 (by simp [zah]) (zah _ _), zci 2 _ zq zq]
 have hb : (b.drop F).take (n - 4 - F) = bdy cs := by
  have e : b = ([k, 1] ++ (fB 2 cs.length ++ (sloB (sts F cs) ++ zs (n - szN cs)))) ++ (bdy cs ++ U) := by
   rw [A]
   simp only [zM]
  have hA : ([k, 1] ++ (fB 2 cs.length ++ (sloB (sts F cs) ++ zs (n - szN cs)))).length = F := by
   simp only [zG, List.length_cons, List.length_nil, zah, zbl, zak, zbc]
   omega
  rw [e, List.drop_left' hA, List.take_left' zq]
 refine ⟨?_, B, hg⟩
 unfold zbg
 rw [hg, B, hr, hf, if_pos ⟨h2, h1⟩, if_neg zq, Int.toNat_natCast, Int.toNat_natCast, hb]
 exact part_of zq cs none h3
theorem is_iff {b : List Int} (hw : Wf b) (cs : List Cl) : Is (b.getD 0 0) b.length cs b ↔ zbg b = some cs ∧ pgB (b.getD 0 0) b.length cs = b := by
 constructor
 ·intro h
  exact ⟨(readM_of h).1, h.eq⟩
 ·rintro ⟨h1, h2⟩
  obtain ⟨a1, a2, a3, a4, _⟩ := readM_inv hw h1
  exact ⟨a1, a2, a3, a4, h2⟩
theorem Is.one {k j : Int} {n m : Nat} {cs ds : List Cl} {b : List Int} (h : Is k n cs b) (g : Is j m ds b) : k = j ∧ n = m ∧ cs = ds := by
 obtain ⟨h1, h2, h3⟩ := readM_of h
 obtain ⟨g1, g2, g3⟩ := readM_of g
 exact ⟨h3.symm.trans g3, h2.symm.trans g2, Option.some.inj (h1.symm.trans g1)⟩
theorem set_two (A Z : List Int) (x y : Int) (p : Nat) (hp : A.length = p) : ((A ++ ([0, 0] ++ Z)).set p x).set (p + 1) y = A ++ ([x, y] ++ Z) := by
 subst hp
 rw [List.set_append_right _ _ Lr, List.set_append_right _ _ zq]
 simp
theorem layP_set (k : Int) (n : Nat) (cs : List Cl) (i : Nat) (hi : i < cs.length) (hf : szN cs ≤ n) (x y : Int) (B : [x, y] = fB 2 ((n : Int) - 4 - (bdy cs).length + (sts 0 cs).getD i 0)) :
  ((layP k n cs i).set (4 + i * 2) x).set (4 + i * 2 + 1) y = layP k n cs (i + 1) := by
 have hz := zaw cs
 obtain ⟨F, hF⟩ : ∃ F, n - 4 - (bdy cs).length = F := ⟨_, rfl⟩
 have C : sts F cs = (sts 0 cs).map (F + ·) := by
  have := sts_shift F 0 cs
  rwa [Nat.add_zero] at this
 have hg : (sts F cs).take (i + 1) = (sts F cs).take i ++ [F + (sts 0 cs).getD i 0] := by
  rw [List.take_add_one, C]
  congr 1
  have hl : i < (sts 0 cs).length := by rw [zak]; exact hi
  simp [List.getElem?_map, List.getD, zI hl]
 have hs : sloB ((sts F cs).take (i + 1)) = sloB ((sts F cs).take i) ++ [x, y] := by
  rw [hg, B, show (n : Int) - 4 - (bdy cs).length + (((sts 0 cs).getD i 0 : Nat) : Int) = ((F + (sts 0 cs).getD i 0 : Nat) : Int) by omega]
  simp [sloB]
 unfold layP
 rw [hF, hs, show n - 4 - 2 * i = 2 + (n - 4 - 2 * (i + 1)) by omega, zs_add]
 obtain ⟨A, hA⟩ : ∃ A, [k, 1] ++ (fB 2 cs.length ++ sloB ((sts F cs).take i)) = A := ⟨_, rfl⟩
 have D : A.length = 4 + i * 2 := by
  rw [← hA]
  simp only [zG, List.length_cons, List.length_nil, zah, zbl, zJ, zak]
  omega
 generalize zs (n - 4 - 2 * (i + 1)) = Z
 have h2 := set_two A Z x y (4 + i * 2) D
 rw [← hA] at h2
 simpa [zM, zs] using h2
end Go.Proofs.YtbkhjeacmmbabaaGreatDoor
namespace Go.Proofs.YtbkhjeacmmbabaaGreatDoor
set_option maxRecDepth 100000
set_option maxHeartbeats 400000
open Go.RowKit
theorem isWidth_yes (x : Int) (w : World) (h1 : 1 ≤ x) (h2 : x ≤ 8) : Calls Tryz.prog 156 #[.int .i64 x] w fun e w' => e = .returned (.bool true) ∧ w' = w := by
 go_enter Tryz.func156, Tryz.ntmps156
 go_wp2
 go_ret
 exact ⟨rfl, rfl⟩
theorem zdn (ao : Option Addr) (n cap : Nat) (x : Int) (w : World) (h1 : 0 ≤ x) (h2 : x ≤ n) : Calls Tryz.prog 176 #[.slice ao n cap, .int .i64 x] w fun e w' => e = .returned (.bool true) ∧ w' = w := by
 go_enter Tryz.func176, Tryz.ntmps176
 go_wp2
 go_ret
 exact ⟨rfl, rfl⟩
theorem fixed_yes (n x : Int) (w : World) (h0 : 0 ≤ n) (h1 : 1 ≤ x) (h2 : x ≤ 8) :
  Calls Tryz.prog 117 #[.int .u64 n, .int .i64 x] w fun e w' => ∃ v, e = .returned v ∧ OwnB w' w.heap.size v (fB x.toNat n) ∧ Below w.heap.size w w' := by
 obtain ⟨width, rfl⟩ := Int.eq_ofNat_of_zero_le (show 0 ≤ x by omega)
 rw [Int.toNat_natCast]
 obtain ⟨i0, hi, E, F, G⟩ := info_parts info5
 go_enter Tryz.func117, Tryz.ntmps117
 go_wp2_with (first
  | (go_at_call 156; refine zad (isWidth_yes _ _ h1 h2) ?_)
  | (at_make; refine wpList_make_full _ rfl _ _ 22 rfl w.heap.size 5 i0 (.int .u8 0) 1 Tryz.underlying22 hi E F .i64 .i64 width width width rfl rfl rfl rfl (by rw [G]; omega) zml Lr ?_))
 intro w1 B C
 have H : OwnB w1 w.heap.size (.slice (some ⟨w.heap.size, 0, none⟩) width width) (List.replicate width 0) := by
  unfold OwnB
  rw [toList_madeCells_one] at B
  simpa [By] using B
 have I : Below w.heap.size w w1 := Br.grown C Lr (fun k hk => by cases hk)
 clear B C
 go_wp2_with fail
 go_loopw [0, 6] (fun y i wr => ∃ j : Nat, j ≤ width ∧ y = .int .u64 (n / 256 ^ j) ∧ i = .int .i64 ((width : Int) - 1 - j) ∧ OwnB wr w.heap.size (.slice (some ⟨w.heap.size, 0, none⟩) width width) (List.replicate (width - j) 0 ++ fB j n) ∧ Below w.heap.size w wr) (fun _ i _ => (intOf i + 1).toNat)
 case atStart => exact ⟨0, zq, zv, zv, by simpa [fB] using H, I⟩
 case round =>
  obtain ⟨j, hj, rfl, rfl, A, hb⟩ := hrel
  by_cases J : j < width
  ·have K : 0 ≤ n / 256 ^ j := Int.ediv_nonneg h0 (Int.le_of_lt (Int.pow_pos zq))
   have L : n / 256 ^ j ≤ n := Int.ediv_le_self _ h0
   have hl : (List.replicate (width - j) (0 : Int) ++ fB j n).length = width := by simp [zah]; omega
   have M : wr.frozen? ⟨w.heap.size, width - 1 - j, none⟩ = false := by
    unfold OwnB at A; rw [hl] at A; exact World.ownsRow.frozenAt A _
   have D : ∃ u, wr.cell? ⟨w.heap.size, width - 1 - j, none⟩ = some u := by
    unfold OwnB at A; rw [hl] at A
    exact ⟨_, (World.ownsRow.cellAt A (width - 1 - j) zq).trans (zI (by rw [zbd, hl]; omega))⟩
   obtain ⟨u, D⟩ := D
   have hp := pow256 n j
   generalize hy : n / 256 ^ j = y at *
   have HY := zaa hy
   clear hy
   have hs := own_set (x := y % 256) A hl (show width - 1 - j < width by omega)
   go_wp2
   go_roundw
   case rel =>
    refine ⟨j + 1, zq, rfl, by go_num, ?_, hb.setCell Lr _⟩
    rw [← fB_set width j n J, HY.out, show width - j - 1 = width - 1 - j by omega]
    exact hs
   case measure => simp [intOf]; omega
  ·obtain rfl : j = width := zq
   go_wp2
   go_ret
   exact ⟨_, rfl, by simpa using A, hb⟩
theorem zdu (ao : Option Addr) (n cap : Nat) (p x : Int) (w : World) (h1 : 1 ≤ x) (h2 : x ≤ 8) (h3 : 0 ≤ p) (h4 : p ≤ n) (h5 : (n : Int) - p < x) :
  Calls Tryz.prog 172 #[.slice ao n cap, .int .i64 p, .int .i64 x] w fun e w' => e = .returned (.tuple #[.int .u64 0, .int .i64 10]) ∧ w' = w := by
 go_enter Tryz.func172, Tryz.ntmps172
 go_wp2_with (first | (go_at_call 156; refine zad (isWidth_yes _ _ h1 h2) ?_) | (go_at_call 176; refine zad (zdn _ _ _ _ _ h3 h4) ?_))
 go_ret2
 exact ⟨rfl, rfl⟩
theorem readFixed_ok (ao : Option Addr) (n cap : Nat) (l : List Int) (p' x : Int) (w : World) (hs : Sl w ao n cap l) (h1 : 1 ≤ x) (h2 : x ≤ 8) (h3 : 0 ≤ p') (h5 : x ≤ (n : Int) - p') :
  Calls Tryz.prog 172 #[.slice ao n cap, .int .i64 p', .int .i64 x] w fun e w' => e = .returned (.tuple #[.int .u64 (rdB ((l.drop p'.toNat).take x.toNat)), .int .i64 0]) ∧ w' = w := by
 obtain ⟨width, rfl⟩ := Int.eq_ofNat_of_zero_le (show 0 ≤ x by omega)
 obtain ⟨p, rfl⟩ := Int.eq_ofNat_of_zero_le h3
 rw [Int.toNat_natCast, Int.toNat_natCast]
 obtain ⟨H, I, G, C, J, D⟩ := hs
 rcases D with h | ⟨b, off, rfl, hb, hc⟩
 ·omega
 have hd : ((l.drop p).take width).length = width := by simp; omega
 have A : Wf ((l.drop p).take width) := (C.drop p).take width
 go_enter Tryz.func172, Tryz.ntmps172
 go_wp2_with (first | (go_at_call 156; refine zad (isWidth_yes _ _ h1 h2) ?_) | (go_at_call 176; refine zad (zdn _ _ _ _ _ h3 zq) ?_))
 go_loop [8, 33] (fun v i => ∃ k : Nat, k ≤ width ∧ i = .int .i64 k ∧ v = .int .u64 (rdB (((l.drop p).take width).take k))) (fun _ i => width - (intOf i).toNat)
 case atStart => exact ⟨0, zq, rfl, by simp [rdB]⟩
 case round =>
  obtain ⟨k, hk, rfl, rfl⟩ := hrel
  by_cases E : k < width
  ·have K : w.cell? ⟨b, off + p + k, none⟩ = some (.int .u8 (((l.drop p).take width).getD k 0)) := by
    rw [Nat.add_assoc, hc (p + k) zq]
    simp [List.getD, E]
   have F := A.getD k
   have L := rdB_small _ (A.take k) k zq zso
   have B : rdB (((l.drop p).take width).take (k + 1)) = rdB (((l.drop p).take width).take k) * 256 + ((l.drop p).take width).getD k 0 := by
    rw [take_snoc _ k zq, rdB_snoc]
   generalize ((l.drop p).take width).getD k 0 = c at *
   generalize rdB (((l.drop p).take width).take k) = m at *
   have M := or_byte m c zq zq F
   have HS := zaa B
   clear B
   go_wp2
   go_round
   case rel => exact ⟨k + 1, zq, by go_num, by rw [HS.out]⟩
   case measure => simp [intOf]; omega
  ·obtain rfl : k = width := zq
   have ht : ((l.drop p).take k).take k = (l.drop p).take k := List.take_of_length_le zq
   go_wp2
   go_ret2
   exact ⟨rfl, rfl⟩
theorem i64_and_nat (a b : Nat) (ha : a < 9223372036854775808) (hb : b < 9223372036854775808) : bits .and .i64 (a : Int) (b : Int) = ((a &&& b : Nat) : Int) := by
 show IntKind.i64.wrap ((BitVec.ofInt 64 a &&& BitVec.ofInt 64 b).toNat : Nat) = _
 have A : a &&& b < 9223372036854775808 := Nat.and_lt_two_pow (n := 63) a zq
 have h1 : (BitVec.ofInt 64 (a : Int)).toNat = a := by rw [BitVec.toNat_ofInt]; omega
 have h2 : (BitVec.ofInt 64 (b : Int)).toNat = b := by rw [BitVec.toNat_ofInt]; omega
 rw [BitVec.toNat_and, h1, h2, IntKind.wrap_i64]
 omega
theorem top_bit (n k : Nat) (h1 : 2 ^ k < n) (h2 : n < 2 * 2 ^ k) : n &&& (n - 1) ≠ 0 := by
 intro h
 have hb := congrArg (fun x => Nat.testBit x k) h
 simp only [Nat.testBit_and, Nat.zero_testBit] at hb
 have e1 : n.testBit k = true := by
  rw [Nat.testBit_eq_decide_div_mod_eq]
  have : n / 2 ^ k = 1 := Nat.div_eq_of_lt_le zq zq
  simp [this]
 have e2 : (n - 1).testBit k = true := by
  rw [Nat.testBit_eq_decide_div_mod_eq]
  have : (n - 1) / 2 ^ k = 1 := Nat.div_eq_of_lt_le zq zq
  simp [this]
 rw [e1, e2] at hb
 cases hb
theorem pow_iff (x : Int) (h0 : 512 ≤ x) (h1 : x ≤ 65536) : bits .and .i64 x (x - 1) = 0 ↔ pw x := by
 obtain ⟨n, rfl⟩ := Int.eq_ofNat_of_zero_le (show 0 ≤ x by omega)
 have e : ((n : Int) - 1) = ((n - 1 : Nat) : Int) := zq
 rw [e, i64_and_nat n (n - 1) zq zq]
 constructor
 ·intro h
  have h' : n &&& (n - 1) = 0 := zq
  unfold pw
  have k9 : ¬ (512 < n ∧ n < 1024) := fun a => top_bit n 9 (by simpa using a.1) (by simpa using a.2) h'
  have k10 : ¬ (1024 < n ∧ n < 2048) := fun a => top_bit n 10 (by simpa using a.1) (by simpa using a.2) h'
  have k11 : ¬ (2048 < n ∧ n < 4096) := fun a => top_bit n 11 (by simpa using a.1) (by simpa using a.2) h'
  have k12 : ¬ (4096 < n ∧ n < 8192) := fun a => top_bit n 12 (by simpa using a.1) (by simpa using a.2) h'
  have k13 : ¬ (8192 < n ∧ n < 16384) := fun a => top_bit n 13 (by simpa using a.1) (by simpa using a.2) h'
  have k14 : ¬ (16384 < n ∧ n < 32768) := fun a => top_bit n 14 (by simpa using a.1) (by simpa using a.2) h'
  have k15 : ¬ (32768 < n ∧ n < 65536) := fun a => top_bit n 15 (by simpa using a.1) (by simpa using a.2) h'
  omega
 ·intro h
  have h2 : n = 512 ∨ n = 1024 ∨ n = 2048 ∨ n = 4096 ∨ n = 8192 ∨ n = 16384 ∨ n = 32768 ∨ n = 65536 := by unfold pw at h; omega
  rcases h2 with rfl | rfl | rfl | rfl | rfl | rfl | rfl | rfl <;> decide
theorem zab {B : Nat} {a w : World} (h : Below B a w) (hB : B ≤ a.heap.size) (o : Obj) : Below B a (w.alloc o) := h.alloc (zN hB h.size) o
theorem zae {B : Nat} {a w w' : World} (h : Below B a w) (hB : B ≤ a.heap.size) (k : Below w.heap.size w w') : Below B a w' := h.trans (k.mono (zN hB h.size))
theorem zac {B : Nat} {a w : World} (h : Below B a w) (q : Nat) : Below B a (w.drewN q) := h.trans ⟨rfl, rfl, rfl, Lr, fun _ _ => rfl⟩
theorem zaf {w : World} {g : Nat} {o : Obj} (h : w.heap[g]? = some o) : g < w.heap.size := by
 rcases Nat.lt_or_ge g w.heap.size with hx | hx
 ·exact hx
 ·rw [Array.getElem?_eq_none hx] at h; cases h
theorem zag {w1 w2 : World} {g : Nat} {o : Obj} (h : w1.heap[g]? = some o) (hb : Below w1.heap.size w1 w2) : w2.heap[g]? = some o := (hb.block _ (zaf h)).trans h
theorem splice_mid (A X N C : List Int) (a : Nat) (hA : A.length = a) (hX : X.length = N.length) : splice (A ++ (X ++ C)) a N = A ++ (N ++ C) := by
 subst hA
 unfold splice
 have e : (A ++ (X ++ C)).drop (A.length + N.length) = C := by
  rw [← zM]
  exact List.drop_left' (by rw [zG, hX])
 rw [List.take_left, e]
theorem By_splice5 (l cs : List Int) (off : Nat) : splice (By l) off (By cs) = By (splice l off cs) := by simp [splice, By, List.map_take, List.map_drop]
theorem step_copy_rw {P : Program} {ops : Array Oper} {o : Oper} {a : Act} {w : World} {K : Act → World → Prop} {Q : Exit → Act → World → Prop} {E : Prop} (D : o.guard = none) (d s : Operand) (dT sT : TypeId)
  (ho : o.op = .call { callee := .builtin .copy, args := #[d, s], argTypes := #[dT, sT] }) (elem : TypeId) (hu : P.underlying dT = some (.slice elem)) (hsz : (P.info? elem).map (·.size) = some 1)
  (g off dLen dCap : Nat) (ad : Addr) (sLen sCap : Nat) (hd : a.eval d = .slice (some ⟨g, off, none⟩) dLen dCap) (hs : a.eval s = .slice (some ad) sLen sCap)
  (cur : List Value) (t : TypeId) (hg : w.heap[g]? = some (.cells cur.toArray t (0, 0))) (cs : List Value) (hn : cs.length = Nat.min sLen dLen)
  (A : ∀ j v, cs[j]? = some v → w.cell? (ad.add j) = some v) (B : off + cs.length ≤ cur.length) (h1 : ∀ v ∈ cs, v.oneCell' = true)
  (h : ∀ u, Hid (u = w.setRow g (splice cur off cs).toArray) → K (a.put o.dst (goInt cs.length)) u) : if Region.wanted o (yielded ops a.tmps) = true then Oper.wp P o a w K Q else E := by
 have hw : Region.wanted o (yielded ops a.tmps) = true := by simp [Region.wanted, D]
 rw [if_pos hw]
 have C := run_copy_row (P := P) w dT sT o.type elem g off dLen dCap ad sLen sCap cur.toArray t cs hu hsz hg hn A (by simpa using B) h1
 unfold Oper.wp
 simp [execOp, ho, resolve, invoke, builtin, hd, hs, C, Result.andThen]
 exact h _ (zaa (by simp [splice]))
theorem fixed_row (n x : Int) (w : World) (h0 : 0 ≤ n) (h1 : 1 ≤ x) (h2 : x ≤ 8) :
  Calls Tryz.prog 117 #[.int .u64 n, .int .i64 x] w fun e w' => ∃ b off c, e = .returned (.slice (some ⟨b, off, none⟩) x.toNat c) ∧ Hid (Sl w' (some ⟨b, off, none⟩) x.toNat c (fB x.toNat n)) ∧ Hid (Below w.heap.size w w') := by
 refine (fixed_yes n x w h0 h1 h2).mono ?_
 rintro e w' ⟨v, rfl, ho, hb⟩
 obtain ⟨ao, cap, rfl, hs, _⟩ := ho.sl (zbb _ _) (by rw [zah]; omega)
 rw [zah] at hs ⊢
 rcases hs.hat with h | ⟨b, off, rfl, A, hc⟩
 ·omega
 ·exact ⟨b, off, cap, rfl, hs, hb⟩
theorem sl_src5 {w : World} {b off n c : Nat} {l : List Int} (h : Sl w (some ⟨b, off, none⟩) n c l) : ∀ j v, (By l)[j]? = some v → w.cell? ((⟨b, off, none⟩ : Addr).add j) = some v := by
 intro j v hv
 obtain ⟨h1, rfl⟩ := getElem?_By l j v hv
 rw [Addr.add_lit]
 rcases h.hat with h0 | ⟨b', off', e, A, hc⟩
 ·have := h.hlen; omega
 ·injection e with e
  injection e with e1 e2
  subst e1 e2
  exact hc j (by have := h.hlen; omega)
def Bk (w : World) (g : Nat) (l : List Int) : Prop := w.heap[g]? = some (.cells (By l).toArray 5 (0, 0))
theorem Bk.on {w w' : World} {g : Nat} {l : List Int} (h : Bk w g l) (hb : Below w.heap.size w w') : Bk w' g l := (hb.block _ (zaf h)).trans h
theorem zau {w : World} {a i : Nat} {cs : List Value} {t : TypeId} {u : Value} (h : w.heap[a]? = some (.cells cs.toArray t (0, 0))) : (w.setCell ⟨a, i, none⟩ u).heap[a]? = some (.cells (cs.set i u).toArray t (0, 0)) := by
 have := setCell_eq_setRow w a i cs.toArray t (0, 0) u h
 rw [this, setRow_heap w a _ _ t _ h]
 simp
theorem Bk.cell {w : World} {g : Nat} {l : List Int} (h : Bk w g l) (k : Nat) (hk : k < l.length) : w.cell? ⟨g, k, none⟩ = some (.int .u8 (l.getD k 0)) := by
 rw [cell_of_row _ _ k _ _ _ h]
 simp [By, zI hk, List.getD]
theorem Bk.free {w : World} {g : Nat} {l : List Int} (h : Bk w g l) (k : Nat) : w.frozen? ⟨g, k, none⟩ = false := by
 unfold Bk at h
 simp [World.frozen?, h]
theorem Bk.sl {w : World} {g n : Nat} {l : List Int} (h : Bk w g l) (hl : l.length = n) (hw : Wf l) (hn : n ≤ 140737488355328) : Sl w (some ⟨g, 0, none⟩) n n l :=
 ⟨hl, Lr, hn, hw, (by intro h; cases h), .inr ⟨g, 0, rfl, zaf h, fun i hi => by rw [Nat.zero_add]; exact h.cell i zq⟩⟩
theorem Sl.alloc5 {w : World} {ao : Option Addr} {n cap : Nat} {l : List Int} (h : Sl w ao n cap l) (o : Obj) : Sl (w.alloc o) ao n cap l := h.on Lr (Br.alloc Lr o)
theorem lit_cell5 (w : World) (cs : Array Value) (t : TypeId) (f : Nat × Nat) (i B : Nat) (hB : w.heap.size = B) : (w.alloc (.cells cs t f)).cell? ⟨B, i, none⟩ = cs[i]? := by
 subst hB
 unfold World.cell?
 rw [show (w.alloc (.cells cs t f)).heap[w.heap.size]? = some (.cells cs t f) from heap_alloc_new w _]
 rfl
theorem sls_one5 (w : World) (a : Option Addr) (n c : Nat) (la : List Int) (ha : Sl w a n c la) (B : Nat) (hB : w.heap.size = B) : SlS (w.alloc (.cells #[.slice a n c] 22)) (some ⟨B, 0, none⟩) 1 1 [la] := by
 refine ⟨rfl, Lr, zq, (by intro h; cases h), .inr ⟨B, 0, rfl, by simp; omega, fun i hi => ?_⟩⟩
 obtain rfl : i = 0 := zq
 exact ⟨a, n, c, lit_cell5 _ _ _ _ _ _ hB, ha.alloc5 _⟩
theorem SlS.drew5 {w : World} {ao : Option Addr} {n cap : Nat} {ls : List (List Int)} (h : SlS w ao n cap ls) : SlS w.drew ao n cap ls := by
 refine ⟨h.hlen, h.hcap, h.hroom, h.hnil, ?_⟩
 rcases h.hat with h0 | ⟨b, off, e, hb, hc⟩
 ·exact .inl h0
 ·refine .inr ⟨b, off, e, hb, fun i hi => ?_⟩
  obtain ⟨a, m, c, h1, h2⟩ := hc i hi
  exact ⟨a, m, c, h1, h2.on Lr Br.drew⟩
def zbn (pg ct lo hi : Int) : Prop := (2 ≤ pg ∧ pg ≤ 65535) ∧ (lo ≤ ct ∧ ct ≤ hi)
def zbh (page : Int) (kd : Int) (vn : Nat) (pg ct : Int) : Prop :=
 (kd = 1 ∧ (vn : Int) ≤ page / 16 * 3 ∧ (pg = 0 ∧ ct = 0)) ∨ (kd = 2 ∧ vn = 0 ∧ zbn pg ct (page / 16 * 3 + 1) 65536) ∨ (kd = 4 ∧ vn = 0 ∧ ((pg = 0 ∧ ct = 0) ∨ zbn pg ct 1 1073741824))
def mayN (kind page : Int) (kn : Nat) (kd : Int) (vn : Nat) (pg ct : Int) : Prop :=
 (kn : Int) ≤ page / 8 ∧ ((kind = 3 ∧ kd = 3 ∧ vn = 0 ∧ zbn pg ct 1 1073741824) ∨ (kind ≠ 3 ∧ 0 < kn ∧ zbh page kd vn pg ct))
theorem mayP_iff (k p : Int) (c : Cl) : mayN k p c.key.length c.kd c.val.length c.pg c.ct ↔ mayP k p c := by
 simp only [mayN, mayP, zbh, zbn, zbx, zca, List.length_eq_zero_iff]
theorem ret_bool {b c : Bool} (h : b = c) : Ending.returned (.bool b) = .returned (.bool c) := by rw [h]
theorem zdk (n lo hi : Int) (w : World) : Calls Tryz.prog 69 #[.int .i64 n, .int .i64 lo, .int .i64 hi] w fun e w' => e = .returned (.bool (decide (lo ≤ n ∧ n ≤ hi))) ∧ w' = w := by
 go_enter Tryz.func69, Tryz.ntmps69
 go_wp2
 all_goals go_ret
 all_goals refine ⟨ret_bool ?_, rfl⟩
 all_goals (rw [Bool.eq_iff_iff]; first | (simp; done) | (simp; omega) | (simp_all; done) | (simp_all; omega))
theorem zcc (k : Int) (w : World) : Calls Tryz.prog 78 #[.int .i64 k] w fun e w' => e = .returned (.bool (decide (isKd k))) ∧ w' = w := by
 go_enter Tryz.func78, Tryz.ntmps78
 go_wp2
 all_goals go_ret
 all_goals refine ⟨ret_bool ?_, rfl⟩
 all_goals (rw [Bool.eq_iff_iff]; first | (simp [isKd]; done) | (simp [isKd]; omega) | (simp_all [isKd]; done) | (simp_all [isKd]; omega))
theorem zcw (p : Int) (w : World) (h0 : 0 ≤ p) (h1 : p ≤ 65536) : Calls Tryz.prog 32 #[.int .i64 p] w fun e w' => e = .returned (.int .i64 (p / 8)) ∧ w' = w := by
 go_enter Tryz.func32, Tryz.ntmps32
 go_wp2
 go_ret
 exact ⟨rfl, rfl⟩
theorem zcd (p : Int) (w : World) (h0 : 0 ≤ p) (h1 : p ≤ 65536) : Calls Tryz.prog 33 #[.int .i64 p] w fun e w' => e = .returned (.int .i64 (p / 16 * 3)) ∧ w' = w := by
 go_enter Tryz.func33, Tryz.ntmps33
 go_wp2
 go_ret
 exact ⟨rfl, rfl⟩
theorem zbp (p : Int) (w : World) : Calls Tryz.prog 31 #[.int .i64 p] w fun e w' => e = .returned (.bool (decide (pw p))) ∧ w' = w := by
 by_cases h : 512 ≤ p ∧ p ≤ 65536
 ·have hp := pow_iff p h.1 h.2
  have h1 := h.1
  have h2 := h.2
  have e : decide (512 ≤ p ∧ p ≤ 65536) = true := by simpa using h
  obtain ⟨z, hz⟩ : ∃ z, bits .and .i64 p (p - 1) = z := ⟨_, rfl⟩
  rw [hz] at hp
  rw [show decide (pw p) = decide (z = 0) from by simp [hp]]
  clear hp
  go_enter Tryz.func31, Tryz.ntmps31
  go_wp2_with (go_at_call 69; refine zad (zdk _ _ _ _) ?_; rw [e])
  all_goals go_ret
  all_goals refine ⟨?_, rfl⟩
  all_goals (congr 2 <;> simp)
 ·have e : decide (512 ≤ p ∧ p ≤ 65536) = false := by simpa using h
  have e2 : decide (pw p) = false := by
   rw [zP]
   exact fun hq => h (pw_le hq)
  rw [e2]
  go_enter Tryz.func31, Tryz.ntmps31
  go_wp2_with (go_at_call 69; refine zad (zdk _ _ _ _) ?_; rw [e])
  go_ret
  exact ⟨rfl, rfl⟩
theorem zdq (ka : Option Addr) (kn kc : Nat) (kd : Int) (va : Option Addr) (vn vc : Nat) (pg ct : Int) (w : World) :
  Calls Tryz.prog 145 #[.agg #[.slice ka kn kc, .int .i64 kd, .slice va vn vc, .int .i64 pg, .int .i64 ct]] w fun e w' => e = .returned (.bool (decide (pg = 0 ∧ ct = 0))) ∧ Below w.heap.size w w' := by
 go_enter Tryz.func145, Tryz.ntmps145
 go_wp2
 all_goals go_ret
 all_goals refine ⟨ret_bool ?_, Br.alloc Lr _⟩
 all_goals (rw [Bool.eq_iff_iff]; first | (simp; done) | (simp; omega) | (simp_all; done) | (simp_all; omega))
instance (a b c d : Int) : Decidable (zbn a b c d) := by unfold zbn; infer_instance
theorem leads_any (ka : Option Addr) (kn kc : Nat) (kd : Int) (va : Option Addr) (vn vc : Nat) (pg ct lo hi : Int) (w : World) :
  Calls Tryz.prog 109 #[.agg #[.slice ka kn kc, .int .i64 kd, .slice va vn vc, .int .i64 pg, .int .i64 ct], .int .i64 lo, .int .i64 hi] w fun e w' => e = .returned (.bool (decide (zbn pg ct lo hi))) ∧ Below w.heap.size w w' := by
 have hq : decide (zbn pg ct lo hi) = (decide (2 ≤ pg ∧ pg ≤ 65535) && decide (lo ≤ ct ∧ ct ≤ hi)) := by rw [Bool.eq_iff_iff, zQ]; simp [zbn]
 rw [hq]
 cases h1 : decide (2 ≤ pg ∧ pg ≤ 65535)
 ·go_enter Tryz.func109, Tryz.ntmps109
  go_wp2_with (go_at_call 69; refine zad (zdk _ _ _ _) ?_; rw [h1])
  go_ret
  exact ⟨rfl, Br.alloc Lr _⟩
 ·have W2 := fun u => zdk ct lo hi u
  cases h2 : decide (lo ≤ ct ∧ ct ≤ hi)
  all_goals
   go_enter Tryz.func109, Tryz.ntmps109
   go_wp2_with (go_at_call 69; refine zad (zdk _ _ _ _) ?_; first | rw [h1] | rw [h2])
   go_ret
   exact ⟨rfl, Br.alloc Lr _⟩
end Go.Proofs.YtbkhjeacmmbabaaGreatDoor
