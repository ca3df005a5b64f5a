/- Pages of the plain kind: plain mathematics. -/
import Derived.Test.YtbefpojdopfeeaaGreatDoorJ02
import Derived.Test.YtbefpojdopfeeaaGreatDoorJ00
import Derived.Deep.QuietTactic
import Derived.BigQuiet
import Derived.Handy
import Derived.Laws.BitsAllLaws
import Derived.Deep.WholeRow
import Derived.Lib.SlBuf
import Derived.Lib.BufferWrite
import Derived.Laws.CopyOwn
import Derived.Deep.RegionLaw
namespace Go.Proofs.YtbefpojdopfeeaaGreatDoor

/-- a stands ahead of b. -/
def kl (a b : List Int) : Prop := ordL a b = -1
instance (a b : List Int) : Decidable (kl a b) := by unfold kl; infer_instance
/-- The key ahead is none, or stands ahead. -/
def ahead : Option (List Int) → List Int → Prop
  | none, _ => True
  | some p, k => kl p k
instance (p : Option (List Int)) (k : List Int) : Decidable (ahead p k) := by cases p <;> (unfold ahead; infer_instance)
/-- What is wrong with cells, the first fault; 0: nothing. -/
def chk (k p : Int) : Option (List Int) → List Cl → Int
  | _, [] => 0
  | pr, c :: r => if mayP k p c then (if ahead pr c.key then chk k p (some c.key) r else 63) else 62
set_option maxRecDepth 100000 in
theorem chk_may {k p : Int} : ∀ {pr : Option (List Int)} {cs : List Cl}, chk k p pr cs = 0 → ∀ c ∈ cs, mayP k p c
  | _, [], _, c, hc => by cases hc
  | pr, d :: r, h, c, hc => by
    unfold chk at h
    split at h
    · next h1 =>
      split at h
      · rcases List.mem_cons.1 hc with e | e
        · rw [e]; exact h1
        · exact chk_may h c e
      · simp at h
    · simp at h
/-- The cells' bytes. -/
def bdy (cs : List Cl) : List Int := cs.flatMap cB
/-- Where they begin, from b on. -/
def sts : Nat → List Cl → List Nat
  | _, [] => []
  | b, c :: r => b :: sts (b + (cB c).length) r
set_option maxRecDepth 100000 in
theorem bdy_cons (c : Cl) (cs : List Cl) : bdy (c :: cs) = cB c ++ bdy cs := by simp [bdy]
set_option maxRecDepth 100000 in
theorem sts_length : ∀ (b : Nat) (cs : List Cl), (sts b cs).length = cs.length
  | _, [] => rfl
  | b, c :: r => by simp [sts, sts_length _ r]
/-- How many bytes they take. -/
def szN (cs : List Cl) : Nat := 8 + (cs.map ctk).sum
set_option maxRecDepth 100000 in
theorem szN_eq (cs : List Cl) : szN cs = 8 + 2 * cs.length + (bdy cs).length := by
  unfold szN
  induction cs with
  | nil => rfl
  | cons c r ih =>
    have := cB_length c
    simp only [List.map_cons, List.sum_cons, List.length_cons, bdy_cons, List.length_append]
    omega
/-- The slots. -/
def sloB (l : List Nat) : List Int := l.flatMap fun (s : Nat) => fB 2 (s : Int)
set_option maxRecDepth 100000 in
theorem sloB_length (l : List Nat) : (sloB l).length = 2 * l.length := by
  induction l with
  | nil => rfl
  | cons x r ih => simp only [sloB, List.flatMap_cons, List.length_append, fB_length, List.length_cons] at ih ⊢; omega
set_option maxRecDepth 100000 in
theorem sloB_wf (l : List Nat) : Wf (sloB l) := by
  induction l with
  | nil => exact Wf.nil
  | cons x r ih => simp only [sloB, List.flatMap_cons]; exact (fB_wf _ _).append ih
/-- The page ahead of its sum. -/
def pgH (k : Int) (n : Nat) (cs : List Cl) : List Int := [k, 1] ++ (fB 2 cs.length ++ (sloB (sts (n - 4 - (bdy cs).length) cs) ++ (zs (n - szN cs) ++ bdy cs)))
/-- The page. -/
def pgB (k : Int) (n : Nat) (cs : List Cl) : List Int := sealB (pgH k n cs)
set_option maxRecDepth 100000 in
theorem pgH_length (k : Int) (n : Nat) (cs : List Cl) (h : szN cs ≤ n) : (pgH k n cs).length = n - 4 := by
  have := szN_eq cs
  simp only [pgH, List.length_append, List.length_cons, List.length_nil, fB_length, sloB_length, sts_length, zs_length]
  omega
set_option maxRecDepth 100000 in
theorem pgB_length (k : Int) (n : Nat) (cs : List Cl) (h : szN cs ≤ n) : (pgB k n cs).length = n := by
  have := szN_eq cs
  rw [pgB, sealB_length, pgH_length k n cs h]
  omega
/-- Bytes as n cells that may be, with rising keys, and no more. -/
def part (k p : Int) : Nat → Option (List Int) → List Int → Option (List Cl)
  | 0, _, l => if l = [] then some [] else none
  | n + 1, pr, l =>
    match pCell l with
    | none => none
    | some (c, r) => if mayP k p c ∧ ahead pr c.key then (part k p n (some c.key) r).map (c :: ·) else none
set_option maxRecDepth 100000 in
theorem part_of {k p : Int} (hp : p ≤ 65536) : ∀ (cs : List Cl) (pr : Option (List Int)), chk k p pr cs = 0 → part k p cs.length pr (bdy cs) = some cs
  | [], _, _ => rfl
  | c :: r, pr, h => by
    unfold chk at h
    split at h
    · next h1 =>
      split at h
      · next h2 =>
        simp only [List.length_cons, part, bdy_cons]
        rw [pCell_mid c _ (h1.fit hp)]
        simp only [h1, h2, and_self, if_true]
        rw [part_of hp r _ h]
        rfl
      · simp at h
    · simp at h
/-- A page's kind. -/
def isKd (k : Int) : Prop := k = 2 ∨ k = 3
instance (k : Int) : Decidable (isKd k) := by unfold isKd; infer_instance
instance (k : Int) : Decidable (pw k) := by unfold pw; infer_instance
/-- What the bytes b are, of cells. -/
structure Is (k : Int) (n : Nat) (cs : List Cl) (b : List Int) : Prop where
  kd : isKd k
  sz : pw n
  ok : chk k n none cs = 0
  fit : szN cs ≤ n
  eq : pgB k n cs = b
/-- Where the first cell begins. -/
def frst (b : List Int) : Int := if 0 < rdN b 2 2 then rdN b 4 2 else (b.length : Int) - 4
/-- How bytes are read. -/
def readM (b : List Int) : Option (List Cl) :=
  if pw b.length ∧ isKd (b.getD 0 0) then
    (if frst b < 4 + rdN b 2 2 * 2 ∨ (b.length : Int) - 4 < frst b then none else part (b.getD 0 0) b.length (rdN b 2 2).toNat none ((b.drop (frst b).toNat).take (b.length - 4 - (frst b).toNat)))
  else none
set_option maxRecDepth 100000 in
theorem pw_nat {n : Nat} (h : pw n) : 512 ≤ n ∧ n ≤ 65536 := by
  have := pw_le h
  omega
set_option maxRecDepth 100000 in
theorem pgB_split (k : Int) (n : Nat) (cs : List Cl) : ∃ U : List Int, U.length = 4 ∧ pgB k n cs = [k, 1] ++ (fB 2 cs.length ++ (sloB (sts (n - 4 - (bdy cs).length) cs) ++ (zs (n - szN cs) ++ (bdy cs ++ U)))) :=
  ⟨fB 4 (sumN [pgH k n cs]), fB_length _ _, by rw [pgB, sealB]; conv => lhs; arg 1; rw [pgH]
                                               simp only [List.append_assoc]⟩
set_option maxRecDepth 100000 in
theorem readM_of {k : Int} {n : Nat} {cs : List Cl} {b : List Int} (h : Is k n cs b) : readM b = some cs ∧ b.length = n ∧ b.getD 0 0 = k := by
  obtain ⟨h1, h2, h3, h4, h5⟩ := h
  have hp := pw_nat h2
  have hz := szN_eq cs
  have hlen : b.length = n := by rw [← h5, pgB_length k n cs h4]
  have hg : b.getD 0 0 = k := by rw [← h5]; rfl
  obtain ⟨U, hU, hsp⟩ := pgB_split k n cs
  rw [h5] at hsp
  obtain ⟨F, hF⟩ : ∃ F, n - 4 - (bdy cs).length = F := ⟨_, rfl⟩
  rw [hF] at hsp
  have hr : rdN b 2 2 = (cs.length : Int) := by
    rw [hsp, rdN_mid _ _ _ 2 2 rfl (fB_length _ _), fB_read 2 _ (by omega) (by omega)]
  have hf : frst b = (F : Int) := by
    unfold frst
    rw [hr, hlen]
    cases cs with
    | nil =>
      simp [bdy] at hF
      simp
      omega
    | cons c r =>
      have e : b = ([k, 1] ++ fB 2 ((c :: r).length : Nat)) ++ (fB 2 (F : Int) ++ (sloB (sts (F + (cB c).length) r) ++ (zs (n - szN (c :: r)) ++ (bdy (c :: r) ++ U)))) := by
        rw [hsp, show sloB (sts F (c :: r)) = fB 2 (F : Int) ++ sloB (sts (F + (cB c).length) r) from by simp [sloB, sts]]
        simp only [List.append_assoc]
      rw [if_pos (by simp only [List.length_cons]; omega), e, rdN_mid _ _ _ 4 2 (by simp [fB_length]) (fB_length _ _), fB_read 2 _ (by omega) (by omega)]
  have hb : (b.drop F).take (n - 4 - F) = bdy cs := by
    have e : b = ([k, 1] ++ (fB 2 cs.length ++ (sloB (sts F cs) ++ zs (n - szN cs)))) ++ (bdy cs ++ U) := by
      rw [hsp]
      simp only [List.append_assoc]
    have hA : ([k, 1] ++ (fB 2 cs.length ++ (sloB (sts F cs) ++ zs (n - szN cs)))).length = F := by
      simp only [List.length_append, List.length_cons, List.length_nil, fB_length, sloB_length, sts_length, zs_length]
      omega
    rw [e, List.drop_left' hA, List.take_left' (by omega)]
  refine ⟨?_, hlen, hg⟩
  unfold readM
  rw [hg, hlen, hr, hf, if_pos ⟨h2, h1⟩, if_neg (by omega), Int.toNat_natCast, Int.toNat_natCast, hb]
  exact part_of (by omega) cs none h3
set_option maxRecDepth 100000 in
theorem Is.at {k : Int} {n : Nat} {cs : List Cl} {b : List Int} (h : Is k n cs b) : Is (b.getD 0 0) b.length cs b := by
  obtain ⟨_, h2, h3⟩ := readM_of h
  rw [h2, h3]
  exact h
set_option maxRecDepth 100000 in
theorem Is.one {k j : Int} {n m : Nat} {cs ds : List Cl} {b : List Int} (h : Is k n cs b) (g : Is j m ds b) : k = j ∧ n = m ∧ cs = ds := by
  obtain ⟨h1, h2, h3⟩ := readM_of h
  obtain ⟨g1, g2, g3⟩ := readM_of g
  exact ⟨h3.symm.trans g3, h2.symm.trans g2, Option.some.inj (h1.symm.trans g1)⟩
end Go.Proofs.YtbefpojdopfeeaaGreatDoor

/- isWidth and isPlace answer what their names say. -/

namespace Go.Proofs.YtbefpojdopfeeaaGreatDoor
open Go.RowKit

set_option maxRecDepth 100000 in
theorem isWidth_yes (x : Int) (w : World) (h1 : 1 ≤ x) (h2 : x ≤ 8) : Calls Tryz.prog 136 #[.int .i64 x] w fun e w' => e = .returned (.bool true) ∧ w' = w := by
  go_enter Tryz.func136, Tryz.ntmps136
  go_wp2
  go_ret
  exact ⟨rfl, rfl⟩
set_option maxRecDepth 100000 in
theorem isPlace_yes (ao : Option Addr) (n cap : Nat) (x : Int) (w : World) (h1 : 0 ≤ x) (h2 : x ≤ n) : Calls Tryz.prog 154 #[.slice ao n cap, .int .i64 x] w fun e w' => e = .returned (.bool true) ∧ w' = w := by
  go_enter Tryz.func154, Tryz.ntmps154
  go_wp2
  go_ret
  exact ⟨rfl, rfl⟩
end Go.Proofs.YtbefpojdopfeeaaGreatDoor

/- ink.Fixed writes a number's lowest bytes into memory of its own; ReadFixed reads them. -/

namespace Go.Proofs.YtbefpojdopfeeaaGreatDoor
open Go.RowKit

set_option maxHeartbeats 400000 in
set_option maxRecDepth 100000 in
theorem fixed_yes (n x : Int) (w : World) (h0 : 0 ≤ n) (h1 : 1 ≤ x) (h2 : x ≤ 8) :
    Calls Tryz.prog 97 #[.int .u64 n, .int .i64 x] w fun e w' => ∃ v, e = .returned v ∧ OwnB w' w.heap.size v (fB x.toNat n) ∧ Below w.heap.size w w' := by
  obtain ⟨width, rfl⟩ := Int.eq_ofNat_of_zero_le (show 0 ≤ x by omega)
  rw [Int.toNat_natCast]
  obtain ⟨i0, hi, hz0, hz1, hz2⟩ := info_parts info5
  go_enter Tryz.func97, Tryz.ntmps97
  go_wp2_with (first
    | (go_at_call 136; refine same_call (isWidth_yes _ _ h1 h2) ?_)
    | (at_make; refine wpList_make_full _ rfl _ _ 37 rfl w.heap.size 5 i0 (.int .u8 0) 1 Tryz.underlying37 hi hz0 hz1 .i64 .i64 width width width rfl rfl rfl rfl (by rw [hz2]; omega) (by unfold maxLen; omega) (Nat.le_refl _) ?_))
  intro w1 hown1 hg1
  have ho1 : OwnB w1 w.heap.size (.slice (some ⟨w.heap.size, 0, none⟩) width width) (List.replicate width 0) := by
    unfold OwnB
    rw [toList_madeCells_one] at hown1
    simpa [By] using hown1
  have hb1 : Below w.heap.size w w1 := (Below.refl _ _).grown hg1 (Nat.le_refl _) (fun k hk => by cases hk)
  clear hown1 hg1
  go_wp2_with fail
  go_loopw [0, 6] (fun y i wr => ∃ j : Nat, j ≤ width ∧ y = .int .u64 (n / 256 ^ j) ∧ i = .int .i64 ((width : Int) - 1 - j) ∧ OwnB wr w.heap.size (.slice (some ⟨w.heap.size, 0, none⟩) width width) (List.replicate (width - j) 0 ++ fB j n) ∧ Below w.heap.size w wr) (fun _ i _ => (intOf i + 1).toNat)
  case atStart => exact ⟨0, by omega, by simp, by simp, by simpa [fB] using ho1, hb1⟩
  case round =>
    obtain ⟨j, hj, rfl, rfl, hown, hb⟩ := hrel
    by_cases hlt : j < width
    · have hpos : 0 ≤ n / 256 ^ j := Int.ediv_nonneg h0 (Int.le_of_lt (Int.pow_pos (by omega)))
      have hle : n / 256 ^ j ≤ n := Int.ediv_le_self _ h0
      have hl : (List.replicate (width - j) (0 : Int) ++ fB j n).length = width := by simp [fB_length]; omega
      have hfr : wr.frozen? ⟨w.heap.size, width - 1 - j, none⟩ = false := by
        unfold OwnB at hown; rw [hl] at hown; exact World.ownsRow.frozenAt hown _
      have hce : ∃ u, wr.cell? ⟨w.heap.size, width - 1 - j, none⟩ = some u := by
        unfold OwnB at hown; rw [hl] at hown
        exact ⟨_, (World.ownsRow.cellAt hown (width - 1 - j) (by omega)).trans (List.getElem?_eq_getElem (by rw [By_length, hl]; omega))⟩
      obtain ⟨u, hce⟩ := hce
      have hp := pow256 n j
      generalize hy : n / 256 ^ j = y at *
      have HY := hidden hy
      clear hy
      have hs := own_set (x := y % 256) hown hl (show width - 1 - j < width by omega)
      go_wp2
      go_roundw
      case rel =>
        refine ⟨j + 1, by omega, rfl, by go_num, ?_, hb.setCell (Nat.le_refl _) _⟩
        rw [← fB_set width j n hlt, HY.out, show width - j - 1 = width - 1 - j by omega]
        exact hs
      case measure => simp [intOf]; omega
    · obtain rfl : j = width := by omega
      go_wp2
      go_ret
      exact ⟨_, rfl, by simpa using hown, hb⟩
set_option maxRecDepth 100000 in
theorem readFixed_short (ao : Option Addr) (n cap : Nat) (p x : Int) (w : World) (h1 : 1 ≤ x) (h2 : x ≤ 8) (h3 : 0 ≤ p) (h4 : p ≤ n) (h5 : (n : Int) - p < x) :
    Calls Tryz.prog 149 #[.slice ao n cap, .int .i64 p, .int .i64 x] w fun e w' => e = .returned (.tuple #[.int .u64 0, .int .i64 10]) ∧ w' = w := by
  go_enter Tryz.func149, Tryz.ntmps149
  go_wp2_with (first | (go_at_call 136; refine same_call (isWidth_yes _ _ h1 h2) ?_) | (go_at_call 154; refine same_call (isPlace_yes _ _ _ _ _ h3 h4) ?_))
  go_ret2
  exact ⟨rfl, rfl⟩
set_option maxRecDepth 100000 in
set_option maxHeartbeats 400000 in
theorem readFixed_ok (ao : Option Addr) (n cap : Nat) (l : List Int) (p' x : Int) (w : World) (hs : Sl w ao n cap l) (h1 : 1 ≤ x) (h2 : x ≤ 8) (h3 : 0 ≤ p') (h5 : x ≤ (n : Int) - p') :
    Calls Tryz.prog 149 #[.slice ao n cap, .int .i64 p', .int .i64 x] w fun e w' => e = .returned (.tuple #[.int .u64 (rdB ((l.drop p'.toNat).take x.toNat)), .int .i64 0]) ∧ w' = w := by
  obtain ⟨width, rfl⟩ := Int.eq_ofNat_of_zero_le (show 0 ≤ x by omega)
  obtain ⟨p, rfl⟩ := Int.eq_ofNat_of_zero_le h3
  rw [Int.toNat_natCast, Int.toNat_natCast]
  obtain ⟨hlen, hcap, hroom, hwf, hnil, hat⟩ := hs
  rcases hat with h | ⟨b, off, rfl, hb, hc⟩
  · omega
  have hd : ((l.drop p).take width).length = width := by simp; omega
  have hwd : Wf ((l.drop p).take width) := (hwf.drop p).take width
  go_enter Tryz.func149, Tryz.ntmps149
  go_wp2_with (first | (go_at_call 136; refine same_call (isWidth_yes _ _ h1 h2) ?_) | (go_at_call 154; refine same_call (isPlace_yes _ _ _ _ _ h3 (by omega)) ?_))
  go_loop [8, 33] (fun v i => ∃ k : Nat, k ≤ width ∧ i = .int .i64 k ∧ v = .int .u64 (rdB (((l.drop p).take width).take k))) (fun _ i => width - (intOf i).toNat)
  case atStart => exact ⟨0, by omega, rfl, by simp [rdB]⟩
  case round =>
    obtain ⟨k, hk, rfl, rfl⟩ := hrel
    by_cases hlt : k < width
    · have hck : w.cell? ⟨b, off + p + k, none⟩ = some (.int .u8 (((l.drop p).take width).getD k 0)) := by
        rw [Nat.add_assoc, hc (p + k) (by omega)]
        simp [List.getD, hlt]
      have hby := hwd.getD k
      have hsm := rdB_small _ (hwd.take k) k (by omega) (by simp; omega)
      have hsn : rdB (((l.drop p).take width).take (k + 1)) = rdB (((l.drop p).take width).take k) * 256 + ((l.drop p).take width).getD k 0 := by
        rw [take_snoc _ k (by omega), rdB_snoc]
      generalize ((l.drop p).take width).getD k 0 = c at *
      generalize rdB (((l.drop p).take width).take k) = m at *
      have hor := or_byte m c (by omega) (by omega) hby
      have HS := hidden hsn
      clear hsn
      go_wp2
      go_round
      case rel => exact ⟨k + 1, by omega, by go_num, by rw [HS.out]⟩
      case measure => simp [intOf]; omega
    · obtain rfl : k = width := by omega
      have ht : ((l.drop p).take k).take k = (l.drop p).take k := List.take_of_length_le (by omega)
      go_wp2
      go_ret2
      exact ⟨rfl, rfl⟩
end Go.Proofs.YtbefpojdopfeeaaGreatDoor

/- The small functions of package meta: what they answer. -/

namespace Go.Proofs.YtbefpojdopfeeaaGreatDoor
open Go.RowKit

/-- It answers whether P. -/
def Ans (P : Prop) (w : World) (e : Ending) (w' : World) : Prop := ∃ b, e = .returned (.bool b) ∧ (b = true ↔ P) ∧ Below w.heap.size w w'
set_option maxRecDepth 100000 in
theorem Ans.mk {P : Prop} {w w' : World} {b : Bool} (h : b = true ↔ P) (hb : Below w.heap.size w w') : Ans P w (.returned (.bool b)) w' := ⟨b, rfl, h, hb⟩
set_option maxRecDepth 100000 in
theorem i64_and_nat (a b : Nat) (ha : a < 9223372036854775808) (hb : b < 9223372036854775808) : bits .and .i64 (a : Int) (b : Int) = ((a &&& b : Nat) : Int) := by
  show IntKind.i64.wrap ((BitVec.ofInt 64 a &&& BitVec.ofInt 64 b).toNat : Nat) = _
  have hle : a &&& b < 9223372036854775808 := Nat.and_lt_two_pow (n := 63) a (by omega)
  have h1 : (BitVec.ofInt 64 (a : Int)).toNat = a := by rw [BitVec.toNat_ofInt]; omega
  have h2 : (BitVec.ofInt 64 (b : Int)).toNat = b := by rw [BitVec.toNat_ofInt]; omega
  rw [BitVec.toNat_and, h1, h2, IntKind.wrap_i64]
  omega
set_option maxRecDepth 100000 in
theorem top_bit (n k : Nat) (h1 : 2 ^ k < n) (h2 : n < 2 * 2 ^ k) : n &&& (n - 1) ≠ 0 := by
  intro h
  have hb := congrArg (fun x => Nat.testBit x k) h
  simp only [Nat.testBit_and, Nat.zero_testBit] at hb
  have e1 : n.testBit k = true := by
    rw [Nat.testBit_eq_decide_div_mod_eq]
    have : n / 2 ^ k = 1 := Nat.div_eq_of_lt_le (by omega) (by omega)
    simp [this]
  have e2 : (n - 1).testBit k = true := by
    rw [Nat.testBit_eq_decide_div_mod_eq]
    have : (n - 1) / 2 ^ k = 1 := Nat.div_eq_of_lt_le (by omega) (by omega)
    simp [this]
  rw [e1, e2] at hb
  cases hb
set_option maxRecDepth 100000 in
theorem pow_iff (x : Int) (h0 : 512 ≤ x) (h1 : x ≤ 65536) : bits .and .i64 x (x - 1) = 0 ↔ pw x := by
  obtain ⟨n, rfl⟩ := Int.eq_ofNat_of_zero_le (show 0 ≤ x by omega)
  have e : ((n : Int) - 1) = ((n - 1 : Nat) : Int) := by omega
  rw [e, i64_and_nat n (n - 1) (by omega) (by omega)]
  constructor
  · intro h
    have h' : n &&& (n - 1) = 0 := by omega
    unfold pw
    have k9 : ¬ (512 < n ∧ n < 1024) := fun a => top_bit n 9 (by simpa using a.1) (by simpa using a.2) h'
    have k10 : ¬ (1024 < n ∧ n < 2048) := fun a => top_bit n 10 (by simpa using a.1) (by simpa using a.2) h'
    have k11 : ¬ (2048 < n ∧ n < 4096) := fun a => top_bit n 11 (by simpa using a.1) (by simpa using a.2) h'
    have k12 : ¬ (4096 < n ∧ n < 8192) := fun a => top_bit n 12 (by simpa using a.1) (by simpa using a.2) h'
    have k13 : ¬ (8192 < n ∧ n < 16384) := fun a => top_bit n 13 (by simpa using a.1) (by simpa using a.2) h'
    have k14 : ¬ (16384 < n ∧ n < 32768) := fun a => top_bit n 14 (by simpa using a.1) (by simpa using a.2) h'
    have k15 : ¬ (32768 < n ∧ n < 65536) := fun a => top_bit n 15 (by simpa using a.1) (by simpa using a.2) h'
    omega
  · intro h
    have h2 : n = 512 ∨ n = 1024 ∨ n = 2048 ∨ n = 4096 ∨ n = 8192 ∨ n = 16384 ∨ n = 32768 ∨ n = 65536 := by unfold pw at h; omega
    rcases h2 with rfl | rfl | rfl | rfl | rfl | rfl | rfl | rfl <;> decide
end Go.Proofs.YtbefpojdopfeeaaGreatDoor

/- meta.isWithin and meta.Check: what they answer. -/

namespace Go.Proofs.YtbefpojdopfeeaaGreatDoor
open Go.RowKit

set_option maxRecDepth 100000 in
theorem bl_al {B : Nat} {a w : World} (h : Below B a w) (hB : B ≤ a.heap.size) (o : Obj) : Below B a (w.alloc o) := h.alloc (Nat.le_trans hB h.size) o
set_option maxRecDepth 100000 in
theorem bl_go {B : Nat} {a w w' : World} (h : Below B a w) (hB : B ≤ a.heap.size) (k : Below w.heap.size w w') : Below B a w' := h.trans (k.mono (Nat.le_trans hB h.size))
set_option maxRecDepth 100000 in
theorem bl_dr {B : Nat} {a w : World} (h : Below B a w) (q : Nat) : Below B a (w.drewN q) := h.trans ⟨rfl, rfl, rfl, Nat.le_refl _, fun _ _ => rfl⟩
set_option maxRecDepth 100000 in
theorem lt_some {w : World} {g : Nat} {o : Obj} (h : w.heap[g]? = some o) : g < w.heap.size := by
  rcases Nat.lt_or_ge g w.heap.size with hx | hx
  · exact hx
  · rw [Array.getElem?_eq_none hx] at h; cases h
/-- A meta's cells in a block. -/
structure Row8 (w : World) (g : Nat) (m : Mt) : Prop where
  c0 : w.cell? ⟨g, 0, none⟩ = some (.int .i64 m.en)
  c1 : w.cell? ⟨g, 1, none⟩ = some (.int .i64 m.pg)
  c2 : w.cell? ⟨g, 2, none⟩ = some (.int .i64 m.tx)
  c3 : w.cell? ⟨g, 3, none⟩ = some (.int .i64 m.ro)
  c4 : w.cell? ⟨g, 4, none⟩ = some (.int .i64 m.co)
  c5 : w.cell? ⟨g, 5, none⟩ = some (.int .i64 m.fr)
  c6 : w.cell? ⟨g, 6, none⟩ = some (.int .i64 m.li)
  c7 : w.cell? ⟨g, 7, none⟩ = some (.int .i64 m.hi)
set_option maxRecDepth 100000 in
theorem Row8.go {w w' : World} {g : Nat} {m : Mt} (h : Row8 w g m) (hg : g < w.heap.size) (hb : Below w.heap.size w w') : Row8 w' g m :=
  ⟨(hb.cell (p := ⟨g, 0, none⟩) hg).trans h.c0, (hb.cell (p := ⟨g, 1, none⟩) hg).trans h.c1, (hb.cell (p := ⟨g, 2, none⟩) hg).trans h.c2, (hb.cell (p := ⟨g, 3, none⟩) hg).trans h.c3,
   (hb.cell (p := ⟨g, 4, none⟩) hg).trans h.c4, (hb.cell (p := ⟨g, 5, none⟩) hg).trans h.c5, (hb.cell (p := ⟨g, 6, none⟩) hg).trans h.c6, (hb.cell (p := ⟨g, 7, none⟩) hg).trans h.c7⟩
set_option maxRecDepth 100000 in
theorem box_on {w1 w2 : World} {g : Nat} {o : Obj} (h : w1.heap[g]? = some o) (hb : Below w1.heap.size w1 w2) : w2.heap[g]? = some o := (hb.block _ (lt_some h)).trans h
/-- What Check answers: 0 for a meta, else 1. -/
def Says1 (m : Mt) (w : World) (e : Ending) (w' : World) : Prop := ∃ k, e = .returned (.int .i64 k) ∧ (m.ok ∧ k = 0 ∨ ¬ m.ok ∧ k = 1) ∧ Below w.heap.size w w'
set_option maxRecDepth 100000 in
theorem Says1.no {m : Mt} {w w' : World} (h : ¬ m.ok) (hb : Below w.heap.size w w') : Says1 m w (.returned (.int .i64 1)) w' := ⟨1, rfl, .inr ⟨h, rfl⟩, hb⟩
set_option maxRecDepth 100000 in
theorem Mt.ok.list {m : Mt} (h : m.ok) : m.fr = 0 ∧ m.li = 0 ∨ m.fr ≠ 0 ∧ 2 ≤ m.fr ∧ m.fr < m.hi ∧ m.li ≤ m.hi - 2 := by
  obtain ⟨h1, h2, h3, h4, h5, h6, h7, h8, h9, h10, h11⟩ := h
  omega
end Go.Proofs.YtbefpojdopfeeaaGreatDoor

/- meta.written: the page's bytes, number by number. -/

namespace Go.Proofs.YtbefpojdopfeeaaGreatDoor
open Go.RowKit

set_option maxRecDepth 100000 in
/-- What Fixed hands out lies in new memory. -/
theorem fixed_row (n x : Int) (w : World) (h0 : 0 ≤ n) (h1 : 1 ≤ x) (h2 : x ≤ 8) :
    Calls Tryz.prog 97 #[.int .u64 n, .int .i64 x] w fun e w' => ∃ b off c, e = .returned (.slice (some ⟨b, off, none⟩) x.toNat c) ∧ Hid (Sl w' (some ⟨b, off, none⟩) x.toNat c (fB x.toNat n)) ∧ Hid (Below w.heap.size w w') := by
  refine (fixed_yes n x w h0 h1 h2).mono ?_
  rintro e w' ⟨v, rfl, ho, hb⟩
  obtain ⟨ao, cap, rfl, hs, _⟩ := ho.sl (fB_wf _ _) (by rw [fB_length]; omega)
  rw [fB_length] at hs ⊢
  rcases hs.hat with h | ⟨b, off, rfl, hlt, hc⟩
  · omega
  · exact ⟨b, off, cap, rfl, hs, hb⟩
end Go.Proofs.YtbefpojdopfeeaaGreatDoor

/- meta.written, followed as its text goes; meta.Encode. -/

namespace Go.Proofs.YtbefpojdopfeeaaGreatDoor
open Go.RowKit

/-- A row of bytes. -/
def Bk (w : World) (g : Nat) (l : List Int) : Prop := w.heap[g]? = some (.cells (By l).toArray 5 (0, 0))
set_option maxRecDepth 100000 in
theorem Bk.on {w w' : World} {g : Nat} {l : List Int} (h : Bk w g l) (hb : Below w.heap.size w w') : Bk w' g l := (hb.block _ (lt_some h)).trans h
set_option maxRecDepth 100000 in
theorem set_row {w : World} {a i : Nat} {cs : List Value} {t : TypeId} {u : Value} (h : w.heap[a]? = some (.cells cs.toArray t (0, 0))) : (w.setCell ⟨a, i, none⟩ u).heap[a]? = some (.cells (cs.set i u).toArray t (0, 0)) := by
  have := setCell_eq_setRow w a i cs.toArray t (0, 0) u h
  rw [this, setRow_heap w a _ _ t _ h]
  simp
set_option maxRecDepth 100000 in
theorem Bk.cell {w : World} {g : Nat} {l : List Int} (h : Bk w g l) (k : Nat) (hk : k < l.length) : w.cell? ⟨g, k, none⟩ = some (.int .u8 (l.getD k 0)) := by
  rw [cell_of_row _ _ k _ _ _ h]
  simp [By, List.getElem?_eq_getElem hk, List.getD]
set_option maxRecDepth 100000 in
theorem Bk.free {w : World} {g : Nat} {l : List Int} (h : Bk w g l) (k : Nat) : w.frozen? ⟨g, k, none⟩ = false := by
  unfold Bk at h
  simp [World.frozen?, h]
set_option maxRecDepth 100000 in
theorem Bk.sl {w : World} {g n : Nat} {l : List Int} (h : Bk w g l) (hl : l.length = n) (hw : Wf l) (hn : n ≤ 140737488355328) : Sl w (some ⟨g, 0, none⟩) n n l :=
  ⟨hl, Nat.le_refl _, hn, hw, (by intro h; cases h), .inr ⟨g, 0, rfl, lt_some h, fun i hi => by rw [Nat.zero_add]; exact h.cell i (by omega)⟩⟩
set_option maxRecDepth 100000 in
theorem Sl.alloc5 {w : World} {ao : Option Addr} {n cap : Nat} {l : List Int} (h : Sl w ao n cap l) (o : Obj) : Sl (w.alloc o) ao n cap l := h.on (Nat.le_refl _) ((Below.refl _ _).alloc (Nat.le_refl _) o)
set_option maxRecDepth 100000 in
theorem lit_cell5 (w : World) (cs : Array Value) (t : TypeId) (f : Nat × Nat) (i B : Nat) (hB : w.heap.size = B) : (w.alloc (.cells cs t f)).cell? ⟨B, i, none⟩ = cs[i]? := by
  subst hB
  unfold World.cell?
  rw [show (w.alloc (.cells cs t f)).heap[w.heap.size]? = some (.cells cs t f) from heap_alloc_new w _]
  rfl
set_option maxRecDepth 100000 in
theorem sls_one5 (w : World) (a : Option Addr) (n c : Nat) (la : List Int) (ha : Sl w a n c la) (B : Nat) (hB : w.heap.size = B) : SlS (w.alloc (.cells #[.slice a n c] 37)) (some ⟨B, 0, none⟩) 1 1 [la] := by
  refine ⟨rfl, Nat.le_refl _, by omega, (by intro h; cases h), .inr ⟨B, 0, rfl, by simp; omega, fun i hi => ?_⟩⟩
  obtain rfl : i = 0 := by omega
  exact ⟨a, n, c, lit_cell5 _ _ _ _ _ _ hB, ha.alloc5 _⟩
end Go.Proofs.YtbefpojdopfeeaaGreatDoor
