import Derived.Test.YtbkhjeacmmbabaaGreatDoorJ00
import Derived.Laws.CopyOwn
import Derived.Deep.QuietTactic
import Derived.BigQuiet
import Derived.WalkSmall
namespace Go.Proofs.YtbkhjeacmmbabaaGreatDoor
set_option maxRecDepth 100000
set_option maxHeartbeats 1000000
theorem rdB_acc (l : List Int) : ∀ acc : Int, l.foldl (fun n c => n * 256 + c) acc = acc * 256 ^ l.length + rdB l := by
 induction l with
 | nil => intro acc; simp [rdB]
 | cons c l ih =>
  intro acc
  have h : rdB (c :: l) = c * 256 ^ l.length + rdB l := by
   show l.foldl _ (0 * 256 + c) = _
   rw [ih]
   simp
  rw [List.foldl_cons, ih, h, List.length_cons, Int.pow_succ, Int.add_mul, Int.mul_assoc, Int.mul_comm 256 (256 ^ l.length)]
  omega
theorem rdB_cons (c : Int) (l : List Int) : rdB (c :: l) = c * 256 ^ l.length + rdB l := by
 show l.foldl _ (0 * 256 + c) = _
 rw [rdB_acc]
 simp
theorem rdB_fB (w : Nat) (n : Int) (h : 0 ≤ n) : rdB (fB w n) = n % 256 ^ w := by
 induction w with
 | zero => simp [fB, rdB, Int.emod_one]
 | succ w ih =>
  rw [fB, rdB_cons, ih, zah]
  obtain ⟨N, rfl⟩ := Int.eq_ofNat_of_zero_le h
  have e : N % (256 ^ w * 256) = N % 256 ^ w + 256 ^ w * (N / 256 ^ w % 256) := Nat.mod_mul
  generalize hP : (256 : Nat) ^ w = P at *
  have hP2 : (256 : Int) ^ w = (P : Int) := by rw [← hP]; simp
  rw [Int.pow_succ, hP2]
  have e2 : (N : Int) % ((P : Int) * 256) = ((N % (P * 256) : Nat) : Int) := by simp
  rw [e2, e]
  rw [Int.natCast_add, Int.natCast_mul, Int.mul_comm]
  simp only [Int.natCast_emod, Int.natCast_ediv]
  rw [Int.add_comm]
  rfl
theorem rU_back (p : Int) (rest : List Int) : ∀ (k : Nat) (m : Int) (i : Nat) (acc : Int), m < 2 ^ k → 0 ≤ m → 0 ≤ acc → acc + m * 128 ^ i < 18446744073709551616 → (0 < i → 0 < m) → i ≤ 9 →
  rU p (uB m ++ rest) i acc = (acc + m * 128 ^ i, p + i + (uB m).length, 0) := by
 intro k
 induction k with
 | zero =>
  intro m i acc hk h0 ha hb hi hi9
  obtain rfl : m = 0 := by simp at hk; omega
  obtain rfl : i = 0 := by
   rcases Nat.eq_zero_or_pos i with h | h
   ·exact h
   ·have := hi h; omega
  rw [uB_small (by omega)]
  simp [rU]
 | succ k ih =>
  intro m i acc hk h0 ha hb hi hi9
  have hpos : (0 : Int) < 128 ^ i := Int.pow_pos (by omega)
  by_cases hm : m < 128
  ·rw [uB_small hm, List.singleton_append, rU]
   have h9 : ¬ (i = 9 ∧ 1 < m) := by
    rintro ⟨rfl, h1⟩
    simp at hb
    omega
   rw [if_neg h9, if_neg (by omega), if_neg (by intro h; have := hi h.2; omega)]
   simp
  ·have hmlt : m < 18446744073709551616 := by
    have h1 : m ≤ m * 128 ^ i := by
     have := Int.mul_le_mul_of_nonneg_left (show (1 : Int) ≤ 128 ^ i by omega) h0
     omega
    omega
   have h9 : i < 9 := by
    rcases Nat.lt_or_ge i 9 with h | h
    ·exact h
    ·obtain rfl : i = 9 := by omega
     simp at hb
     omega
   rw [uB_step hm hmlt, List.cons_append, rU, if_neg (by omega), if_pos (by omega)]
   have e : acc + (m % 128 + 128 - 128) * 128 ^ i + m / 128 * 128 ^ (i + 1) = acc + m * 128 ^ i := by
    rw [Int.pow_succ, Int.mul_comm (128 ^ i) 128, ← Int.mul_assoc]
    have : m * 128 ^ i = (m % 128 + m / 128 * 128) * 128 ^ i := by rw [show m % 128 + m / 128 * 128 = m by omega]
    rw [this, Int.add_mul]
    have e3 : m % 128 + 128 - 128 = m % 128 := by omega
    rw [e3]
    omega
   have hd : 0 ≤ (m % 128 + 128 - 128) * 128 ^ i := Int.mul_nonneg (by omega) (Int.le_of_lt hpos)
   rw [ih (m / 128) (i + 1) _ (by rw [Int.pow_succ] at hk; omega) (by omega) (by omega) (by rw [e]; exact hb) (fun _ => by omega) (by omega), e]
   simp only [List.length_cons]
   push_cast
   rw [show p + (i + 1) + ((uB (m / 128)).length : Int) = p + i + ((uB (m / 128)).length + 1) by omega]
theorem rU_uB (p n : Int) (rest : List Int) (h0 : 0 ≤ n) (h : n < 18446744073709551616) : rU p (uB n ++ rest) 0 0 = (n, p + (uB n).length, 0) := by
 have := rU_back p rest 64 n 0 0 (by simp; omega) h0 (by omega) (by simp; omega) (fun h => by omega) (by omega)
 simpa using this
end Go.Proofs.YtbkhjeacmmbabaaGreatDoor
namespace Go.Proofs.YtbkhjeacmmbabaaGreatDoor
set_option maxRecDepth 100000
set_option maxHeartbeats 1000000
open Go.RowKit
theorem alike_any (ao bo : Option Addr) (n m c d : Nat) (la lb : List Int) (w : World) (ha : Sl w ao n c la) (hb : Sl w bo m d lb) :
  Calls Tryz.prog 160 #[.slice ao n c, .slice bo m d] w fun e w' => e = .returned (.int .i64 (lcp la lb)) ∧ ∃ q, w' = w.drewN q := by
 obtain ⟨hlen, hcap, hroom, hwf, hnil, hat⟩ := ha
 obtain ⟨hlen', hcap', hroom', hwf', hnil', hat'⟩ := hb
 by_cases hmn : n ≤ m
 all_goals
  go_enter Tryz.func160, Tryz.ntmps160
  go_wp2_with fail
  go_loopw [13] (fun i wr => ∃ k q : Nat, k ≤ n ∧ k ≤ m ∧ i = .int .i64 k ∧ wr = w.drewN q ∧ ∀ j, j < k → la.getD j 0 = lb.getD j 0) (fun i _ => n - (intOf i).toNat)
  case atStart => exact ⟨0, 0, by omega, by omega, rfl, rfl, fun j hj => by omega⟩
  case round =>
   obtain ⟨k, q, hk, hk', rfl, rfl, hal⟩ := hrel
   have HAL := zaa hal
   clear hal
   by_cases hlt : k < n ∧ k < m
   ·obtain ⟨hkn, hkm⟩ := hlt
    rcases hat with h | ⟨b, off, rfl, hbb, hc⟩
    ·omega
    rcases hat' with h | ⟨b', off', rfl, hbb', hc'⟩
    ·omega
    have hck := hc k hkn
    have hck' := hc' k hkm
    have hx : ∃ x, la.getD k 0 = x := ⟨_, rfl⟩
    have hy : ∃ y, lb.getD k 0 = y := ⟨_, rfl⟩
    obtain ⟨x, hx⟩ := hx
    obtain ⟨y, hy⟩ := hy
    rw [hx] at hck
    rw [hy] at hck'
    have HX := zaa hx
    have HY := zaa hy
    clear hx hy hc hc' 
    by_cases hxy : x = y
    ·have hb0 : (x != y) = false := by simp [hxy]
     have HXY := zaa hxy
     clear hxy
     go_wp2
     go_quiet (fail)
     go_wp2
     go_roundw
     case rel =>
      refine ⟨k + 1, _, by omega, by omega, by go_num, rfl, fun j hj => ?_⟩
      by_cases hjk : j < k
      ·exact HAL.out j hjk
      ·obtain rfl : j = k := by omega
       rw [HX.out, HY.out, HXY.out]
     case measure => simp [intOf]; omega
    ·have hb0 : (x != y) = true := by simp [hxy]
     have e := lcp_eq la lb k (by omega) (by omega) HAL.out (.inr (.inr (by rw [HX.out, HY.out]; exact hxy)))
     have HE := zaa e
     clear hxy e
     go_wp2
     go_quiet (fail)
     go_wp2
     go_ret
     exact ⟨zbo (by rw [HE.out]), _, World.drewN_drewN _ _ _⟩
   ·have e := lcp_eq la lb k (by omega) (by omega) HAL.out (by omega)
    have HE := zaa e
    clear e
    go_wp2
    go_ret
    exact ⟨zbo (by rw [HE.out]; omega), q, rfl⟩
theorem zct {w : World} {B g : Nat} {l : List Int} (h : w.heap[g]? = some (.cells (By l).toArray 5 (0, 0))) (hB : B ≤ g) (hl : l.length ≤ maxLen) : OwnB w B (.slice (some ⟨g, 0, none⟩) l.length l.length) l :=
 ⟨by simp [By], .inr ⟨g, l.length, (By l).toArray, rfl, hB, h, Lr, hl, by simp [By], List.take_of_length_le (by simp [By])⟩⟩
theorem Sl.take {w : World} {ao : Option Addr} {n cap : Nat} {l : List Int} (h : Sl w ao n cap l) (k : Nat) (hk : k ≤ n) : Sl w ao k cap (l.take k) := by
 obtain ⟨hlen, hcap, hroom, hwf, hnil, hat⟩ := h
 refine ⟨by simp; omega, by omega, by omega, hwf.take k, hnil, ?_⟩
 rcases hat with h0 | ⟨b, off, e, hlt, hc⟩
 ·exact .inl (by omega)
 ·refine .inr ⟨b, off, e, hlt, fun i hi => ?_⟩
  rw [hc i (by omega)]
  simp [List.getD, hi]
theorem Sl.drewN {w : World} {ao : Option Addr} {n cap : Nat} {l : List Int} (h : Sl w ao n cap l) (q : Nat) : Sl (w.drewN q) ao n cap l := by
 refine ⟨h.hlen, h.hcap, h.hroom, h.wf, h.hnil, ?_⟩
 rcases h.hat with h0 | ⟨b, off, e, hlt, hc⟩
 ·exact .inl h0
 ·exact .inr ⟨b, off, e, by simpa using hlt, fun i hi => by simpa using hc i hi⟩
structure SlS (w : World) (ao : Option Addr) (n cap : Nat) (ls : List (List Int)) : Prop where
 hlen : ls.length = n
 hcap : n ≤ cap
 hroom : n ≤ 140737488355328
 hnil : ao = none → cap = 0
 hat : n = 0 ∨ ∃ b off, ao = some ⟨b, off, none⟩ ∧ b < w.heap.size ∧ ∀ i, i < n → ∃ a m c, w.cell? ⟨b, off + i, none⟩ = some (.slice a m c) ∧ Sl w a m c (ls.getD i [])
def sumN (ls : List (List Int)) : Nat := 4294967295 ^^^ ls.foldl (fun r l => tk (l.map Int.toNat) r) 4294967295
theorem tk1_lt : ∀ (l : List Nat) (r : Nat), r < 4294967296 → (∀ x ∈ l, x < 256) → tk1 r l < 4294967296
 | [], _, h, _ => h
 | c :: l, r, h, hl => by
  show tk1 (tb (r ^^^ c)) l < _
  exact tk1_lt l _ (tb_lt (zam h (by have := hl c (by simp); omega))) (fun x hx => hl x (by simp [hx]))
theorem tk_lt : ∀ (l : List Nat) (r : Nat), r < 4294967296 → (∀ x ∈ l, x < 256) → tk l r < 4294967296
 | [], _, h, _ => h
 | [a], r, h, hl => tk1_lt [a] r h hl
 | [a, b], r, h, hl => tk1_lt [a, b] r h hl
 | [a, b, c], r, h, hl => tk1_lt [a, b, c] r h hl
 | a :: b :: c :: d :: l, r, _, hl => by
  show tk l (sh _) < _
  exact tk_lt l _ (sh_lt _) (fun x hx => hl x (by simp [hx]))
theorem nat_lt (l : List Int) (h : Wf l) : ∀ x ∈ l.map Int.toNat, x < 256 := by
 intro x hx
 obtain ⟨y, hy, rfl⟩ := List.mem_map.1 hx
 have := h y hy
 omega
theorem dropS (ls : List (List Int)) (k : Nat) (h : k < ls.length) : ls.drop k = ls.getD k [] :: ls.drop (k + 1) := by
 rw [List.drop_eq_getElem_cons h]
 simp [List.getD, zI h]
theorem sum_any (ao : Option Addr) (n cap : Nat) (ls : List (List Int)) (w : World) (hs : SlS w ao n cap ls) (ht : Tab w) :
  Calls Tryz.prog 118 #[.slice ao n cap] w fun e w' => e = .returned (.int .u32 (sumN ls)) ∧ ∃ q, w' = w.drewN q := by
 have HT := zaa ht
 clear ht
 obtain ⟨hlen, hcap, hroom, hnil, hat⟩ := hs
 unfold sumN
 generalize hF : ls.foldl (fun r l => tk (l.map Int.toNat) r) 4294967295 = F
 have HF := zaa hF
 clear hF
 go_enter Tryz.func118, Tryz.ntmps118
 go_wp2_with fail
 go_loopw [3, 8] (fun v i wr => ∃ (k q y : Nat), k ≤ n ∧ i = .int .i64 k ∧ v = .int .u32 y ∧ y < 4294967296 ∧ Hid ((ls.drop k).foldl (fun r l => tk (l.map Int.toNat) r) y = F) ∧ wr = w.drewN q) (fun _ i _ => n - (intOf i).toNat)
 case atStart => exact ⟨0, 0, 4294967295, by omega, rfl, rfl, by omega, HF, rfl⟩
 case round =>
  obtain ⟨k, q, y, hk, rfl, rfl, hy, HK, rfl⟩ := hrel
  clear HF
  by_cases hlt : k < n
  ·rcases hat with h | ⟨b, off, rfl, hbb, hc⟩
   ·omega
   obtain ⟨a, m, c, hck, hsl⟩ := hc k hlt
   clear hc
   have hT := taken_any a m c (ls.getD k []) y (w.drewN q) (hsl.drewN q) (HT.out.drewN q) hy
   have hlt2 := tk_lt _ y hy (nat_lt _ hsl.wf)
   have e := HK.out
   rw [dropS ls k (by omega), List.foldl_cons] at e
   clear HK hsl
   generalize tk ((ls.getD k []).map Int.toNat) y = y2 at *
   have HT2 := zaa hT
   have HE := zaa e
   clear hT e
   go_wp2_with fail
   refine zcs HT2.out ?_
   intro q2
   go_wp2
   go_roundw
   case rel => exact ⟨k + 1, _, y2, by omega, by go_num, rfl, hlt2, HE, rfl⟩
   case measure => simp [intOf]; omega
  ·have e : F = y := by
    rw [← HK.out, List.drop_eq_nil_of_le (by omega)]
    rfl
   have HE := zaa e
   have hx := u32_xor_nat 4294967295 y (by omega) hy
   have HX := zaa hx
   have hsg : IntKind.u32.signed = false := rfl
   clear e HK hx
   go_wp2
   go_ret
   exact ⟨zbo (by rw [HE.out]; exact HX.out), _, rfl⟩
end Go.Proofs.YtbkhjeacmmbabaaGreatDoor
namespace Go.Proofs.YtbkhjeacmmbabaaGreatDoor
set_option maxRecDepth 100000
set_option maxHeartbeats 1000000
def pw (n : Int) : Prop := n = 512 ∨ n = 1024 ∨ n = 2048 ∨ n = 4096 ∨ n = 8192 ∨ n = 16384 ∨ n = 32768 ∨ n = 65536
theorem pw_le {n : Int} (h : pw n) : 512 ≤ n ∧ n ≤ 65536 := by
 unfold pw at h
 omega
def zs (k : Nat) : List Int := List.replicate k 0
theorem zbg (k : Nat) : (zs k).length = k := by simp [zs]
theorem zs_wf (k : Nat) : Wf (zs k) := by
 intro x hx
 simp only [zs, List.mem_replicate] at hx
 omega
theorem zs_add (a b : Nat) : zs (a + b) = zs a ++ zs b := by
 unfold zs
 exact (List.replicate_append_replicate (n := a) (m := b)).symm
def sealB (l : List Int) : List Int := l ++ fB 4 (sumN [l])
theorem sealB_length (l : List Int) : (sealB l).length = l.length + 4 := by simp [sealB, zah]
theorem sealB_wf {l : List Int} (h : Wf l) : Wf (sealB l) := h.append (zbf _ _)
def rdN (l : List Int) (p w : Nat) : Int := rdB ((l.drop p).take w)
theorem zcu (A F C : List Int) (p w : Nat) (hp : A.length = p) (hw : F.length = w) : rdN (A ++ (F ++ C)) p w = rdB F := by
 subst hp hw
 unfold rdN
 rw [List.drop_left, List.take_left]
theorem zbh (l : List Int) (h : Wf l) (p w : Nat) : 0 ≤ rdN l p w ∧ rdN l p w < 256 ^ w := by
 have h1 := zdo ((l.drop p).take w) ((h.drop p).take w)
 refine ⟨h1.1, Int.lt_of_lt_of_le h1.2 ?_⟩
 have h2 : ((l.drop p).take w).length ≤ w := by simp; omega
 have h3 : (256 : Nat) ^ ((l.drop p).take w).length ≤ 256 ^ w := Nat.pow_le_pow_right (by omega) h2
 exact_mod_cast h3
theorem zco (w : Nat) (n : Int) (h0 : 0 ≤ n) (h : n < 256 ^ w) : rdB (fB w n) = n := by
 rw [rdB_fB w n h0]
 exact Int.emod_eq_of_lt h0 h
theorem sumN_lt (l : List Int) (h : Wf l) : sumN [l] < 4294967296 := by
 have := tk_lt (l.map Int.toNat) 4294967295 (by omega) (nat_lt l h)
 exact zam (by omega) this
end Go.Proofs.YtbkhjeacmmbabaaGreatDoor
namespace Go.Proofs.YtbkhjeacmmbabaaGreatDoor
set_option maxRecDepth 100000
set_option maxHeartbeats 1000000
structure Cl where
 key : List Int
 kd : Int
 val : List Int
 pg : Int
 ct : Int
deriving DecidableEq, Inhabited
def Cl.Wf (c : Cl) : Prop := Go.Proofs.YtbkhjeacmmbabaaGreatDoor.Wf c.key ∧ Go.Proofs.YtbkhjeacmmbabaaGreatDoor.Wf c.val
def zcg (c : Cl) : Prop := c.pg = 0 ∧ c.ct = 0
def zcc (c : Cl) (lo hi : Int) : Prop := (2 ≤ c.pg ∧ c.pg ≤ 65535) ∧ (lo ≤ c.ct ∧ c.ct ≤ hi)
def mayP (kind page : Int) (c : Cl) : Prop :=
 (c.key.length : Int) ≤ page / 8 ∧
 ((kind = 3 ∧ c.kd = 3 ∧ c.val = [] ∧ zcc c 1 1073741824) ∨
  (kind ≠ 3 ∧ 0 < c.key.length ∧
   ((c.kd = 1 ∧ (c.val.length : Int) ≤ page / 16 * 3 ∧ zcg c) ∨ (c.kd = 2 ∧ c.val = [] ∧ zcc c (page / 16 * 3 + 1) 65536) ∨ (c.kd = 4 ∧ c.val = [] ∧ (zcg c ∨ zcc c 1 1073741824)))))
instance (c : Cl) : Decidable (zcg c) := by unfold zcg; infer_instance
instance (c : Cl) (a b : Int) : Decidable (zcc c a b) := by unfold zcc; infer_instance
instance (k p : Int) (c : Cl) : Decidable (mayP k p c) := by unfold mayP; infer_instance
def ctk (c : Cl) : Nat := if c.kd = 1 then 7 + c.key.length + c.val.length else 13 + c.key.length
def cB (c : Cl) : List Int := [c.kd % 256] ++ (fB 2 c.key.length ++ (c.key ++ (if c.kd = 1 then fB 2 c.val.length ++ c.val else fB 4 c.pg ++ fB 4 c.ct)))
theorem cB_length (c : Cl) : (cB c).length + 2 = ctk c := by
 unfold cB ctk
 split <;> simp [zah] <;> omega
theorem cB_wf {c : Cl} (h : c.Wf) : Wf (cB c) := by
 unfold cB
 refine Wf.append (Wf.cons (by omega) Wf.nil) (Wf.append (zbf _ _) (Wf.append h.1 ?_))
 split
 ·exact Wf.append (zbf _ _) h.2
 ·exact Wf.append (zbf _ _) (zbf _ _)
def pNum (w : Nat) (l : List Int) : Option (Int × List Int) := if l.length < w then none else some (rdB (l.take w), l.drop w)
def zap (l : List Int) : Option (List Int × List Int) :=
 match pNum 2 l with
 | none => none
 | some (n, r) => if (r.length : Int) < n then none else some (r.take n.toNat, r.drop n.toNat)
def zaj (l : List Int) : Option (Cl × List Int) :=
 match pNum 1 l with
 | none => none
 | some (k, r) =>
  match zap r with
  | none => none
  | some (key, r) =>
   if k = 1 then
    match zap r with
    | none => none
    | some (val, r) => some (⟨key, k, val, 0, 0⟩, r)
   else
    match pNum 4 r with
    | none => none
    | some (p, r) =>
     match pNum 4 r with
     | none => none
     | some (c, r) => some (⟨key, k, [], p, c⟩, r)
structure Cl.fit (c : Cl) : Prop where
 kd : 0 ≤ c.kd ∧ c.kd < 256
 key : c.key.length < 65536
 val : c.val.length < 65536
 pg : 0 ≤ c.pg ∧ c.pg < 4294967296
 ct : 0 ≤ c.ct ∧ c.ct < 4294967296
 one : c.kd = 1 → c.pg = 0 ∧ c.ct = 0
 oth : c.kd ≠ 1 → c.val = []
theorem mayP.fit {k p : Int} {c : Cl} (h : mayP k p c) (hp : p ≤ 65536) : c.fit := by
 obtain ⟨h1, h2⟩ := h
 unfold zcc zcg at h2
 rcases h2 with ⟨e, h3, h4, h5⟩ | ⟨e, h3, ⟨h4, h5, h6⟩ | ⟨h4, h5, h6⟩ | ⟨h4, h5, h6⟩⟩
 ·exact ⟨by omega, by omega, by rw [h4]; decide, by omega, by omega, by omega, fun _ => h4⟩
 ·exact ⟨by omega, by omega, by omega, by omega, by omega, fun _ => h6, fun h => absurd h4 h⟩
 ·exact ⟨by omega, by omega, by rw [h5]; decide, by omega, by omega, by omega, fun _ => h5⟩
 ·exact ⟨by omega, by omega, by rw [h5]; decide, by omega, by omega, by omega, fun _ => h5⟩
theorem pNum_mid (w : Nat) (n : Int) (r : List Int) (h0 : 0 ≤ n) (h : n < 256 ^ w) : pNum w (fB w n ++ r) = some (n, r) := by
 unfold pNum
 rw [if_neg (by simp [zah]), List.take_left' (zah w n), List.drop_left' (zah w n), zco w n h0 h]
theorem pText_mid (t r : List Int) (h : t.length < 65536) : zap (fB 2 t.length ++ (t ++ r)) = some (t, r) := by
 unfold zap
 rw [pNum_mid 2 _ _ (by omega) (by omega)]
 simp only
 rw [if_neg (by rw [zG]; omega), Int.toNat_natCast, List.take_left, List.drop_left]
theorem pCell_mid (c : Cl) (r : List Int) (h : c.fit) : zaj (cB c ++ r) = some (c, r) := by
 obtain ⟨key, kd, val, pg, ct⟩ := c
 obtain ⟨h1, h2, h3, h4, h5, h6, h7⟩ := h
 simp only at h1 h2 h3 h4 h5 h6 h7
 unfold cB zaj
 simp only
 rw [zM, show ([kd % 256] : List Int) = fB 1 kd from by simp [fB], pNum_mid 1 kd _ h1.1 (by omega)]
 simp only
 rw [zM, zM, pText_mid _ _ h2]
 simp only
 by_cases e : kd = 1
 ·rw [if_pos e, if_pos e, zM, pText_mid _ _ h3]
  simp only
  obtain ⟨rfl, rfl⟩ := h6 e
  rfl
 ·rw [if_neg e, if_neg e, zM, pNum_mid 4 pg _ h4.1 (by omega)]
  simp only
  rw [pNum_mid 4 ct _ h5.1 (by omega)]
  simp only
  rw [h7 e]
theorem fB_rdB : ∀ (l : List Int), Wf l → fB l.length (rdB l) = l
 | [], _ => rfl
 | c :: l, h => by
  have hc := h c (by simp)
  have hl : Wf l := fun x hx => h x (by simp [hx])
  have hb := zdo l hl
  have ih := fB_rdB l hl
  have e : ∀ (j : Nat) (m : Int), fB j (c * 256 ^ l.length + m) = fB j m ∨ l.length < j := by
   intro j m
   by_cases hj : l.length < j
   ·exact .inr hj
   ·left
    induction j with
    | zero => rfl
    | succ j ihj =>
     rw [fB, fB, ihj (by omega)]
     congr 1
     obtain ⟨d, hd⟩ : ∃ d, l.length = j + 1 + d := ⟨l.length - (j + 1), by omega⟩
     rw [hd, show (256 : Int) ^ (j + 1 + d) = 256 ^ j * (256 * 256 ^ d) from by rw [Int.pow_add, Int.pow_succ, Int.mul_assoc],
      show c * (256 ^ j * (256 * 256 ^ d)) + m = m + (256 ^ j) * (256 * (c * 256 ^ d)) from by
       rw [Int.add_comm, ← Int.mul_assoc, Int.mul_comm c (256 ^ j), Int.mul_assoc, ← Int.mul_assoc c, Int.mul_comm c 256, Int.mul_assoc]]
     rw [Int.add_mul_ediv_left _ _ (by have : (0 : Int) < 256 ^ j := Int.pow_pos (by omega)
                                       omega)]
     omega
  rw [rdB_cons, List.length_cons, fB]
  rcases e l.length (rdB l) with e | e
  ·rw [e, ih]
   congr 1
   have hp : (0 : Int) < 256 ^ l.length := Int.pow_pos (by omega)
   rw [Int.add_comm, Int.add_mul_ediv_right _ _ (by omega), Int.ediv_eq_zero_of_lt hb.1 hb.2]
   omega
  ·omega
theorem pNum_inv {w : Nat} {l r : List Int} {n : Int} (hw : Wf l) (h : pNum w l = some (n, r)) : l = fB w n ++ r ∧ 0 ≤ n ∧ n < 256 ^ w ∧ Wf r := by
 unfold pNum at h
 split at h
 ·cases h
 ·next hl =>
  simp only [Option.some.injEq, Prod.mk.injEq] at h
  obtain ⟨rfl, rfl⟩ := h
  have ht : (l.take w).length = w := by rw [zJ]; omega
  have := fB_rdB (l.take w) (hw.take w)
  rw [ht] at this
  have hb := zdo (l.take w) (hw.take w)
  rw [ht] at hb
  exact ⟨by rw [this, List.take_append_drop], hb.1, hb.2, hw.drop w⟩
theorem pText_inv {l r t : List Int} (hw : Wf l) (h : zap l = some (t, r)) : l = fB 2 t.length ++ (t ++ r) ∧ t.length < 65536 ∧ Wf t ∧ Wf r := by
 unfold zap at h
 split at h
 ·cases h
 ·next n r' e =>
  obtain ⟨h1, h2, h3, h4⟩ := pNum_inv hw e
  split at h
  ·cases h
  ·next hl =>
   simp only [Option.some.injEq, Prod.mk.injEq] at h
   obtain ⟨rfl, rfl⟩ := h
   have ht : (r'.take n.toNat).length = n.toNat := by rw [zJ]; omega
   refine ⟨?_, by rw [ht]; omega, h4.take _, h4.drop _⟩
   rw [ht, Int.toNat_of_nonneg h2, List.take_append_drop]
   exact h1
theorem pCell_inv {l r : List Int} {c : Cl} (hw : Wf l) (h : zaj l = some (c, r)) : l = cB c ++ r ∧ c.fit ∧ c.Wf ∧ Wf r := by
 unfold zaj at h
 split at h
 ·cases h
 ·next k r1 e1 =>
  obtain ⟨h1, h2, h3, h4⟩ := pNum_inv hw e1
  split at h
  ·cases h
  ·next key r2 e2 =>
   obtain ⟨g1, g2, g3, g4⟩ := pText_inv h4 e2
   split at h
   ·next hk =>
    split at h
    ·cases h
    ·next val r3 e3 =>
     obtain ⟨f1, f2, f3, f4⟩ := pText_inv g4 e3
     simp only [Option.some.injEq, Prod.mk.injEq] at h
     obtain ⟨rfl, rfl⟩ := h
     refine ⟨?_, ⟨by simp only; omega, g2, f2, by simp, by simp, fun _ => ⟨rfl, rfl⟩, fun h => absurd hk h⟩, ⟨g3, f3⟩, f4⟩
     rw [h1, g1, f1]
     simp [cB, hk, fB]
   ·next hk =>
    split at h
    ·cases h
    ·next p r3 e3 =>
     obtain ⟨f1, f2, f3, f4⟩ := pNum_inv g4 e3
     split at h
     ·cases h
     ·next ct r4 e4 =>
      obtain ⟨d1, d2, d3, d4⟩ := pNum_inv f4 e4
      simp only [Option.some.injEq, Prod.mk.injEq] at h
      obtain ⟨rfl, rfl⟩ := h
      refine ⟨?_, ⟨by simp only; omega, g2, by simp, ⟨f2, by simp only; omega⟩, ⟨d2, by simp only; omega⟩, fun h => absurd h hk, fun _ => rfl⟩, ⟨g3, Wf.nil⟩, d4⟩
      rw [h1, g1, f1, d1]
      simp [cB, hk, fB]
end Go.Proofs.YtbkhjeacmmbabaaGreatDoor
namespace Go.Proofs.YtbkhjeacmmbabaaGreatDoor
set_option maxRecDepth 100000
set_option maxHeartbeats 1000000
open Go.RowKit
theorem zaq {w : World} {ao : Option Addr} {n cap : Nat} {l : List Int} (hs : Sl w ao n cap l) :
  (convert 22 9 (.slice ao n cap)).run Tryz.prog w = .ok (.string (strOfNums l)) w := by
 obtain ⟨hlen, hcap, hroom, hwf, hnil, hat⟩ := hs
 rcases hat with rfl | ⟨b, off, rfl, hb, hc⟩
 ·obtain rfl : l = [] := List.eq_nil_of_length_eq_zero hlen
  rw [run_convert_bytes_string w 22 9 5 ao 0 cap Tryz.underlying22 Tryz.underlying5 Tryz.underlying9]
  cases ao with
  | none => simp [Conv.bytesToString, Sem.run_pure, strOfNums]; rfl
  | some a =>
   rw [run_bytesToString w a 0 cap [] (by simpa using run_loadCells_list (P := Tryz.prog) w a [] (fun j v h => by cases h))]
   rfl
 ·exact run_convert_bytes_arg w 22 5 Tryz.underlying22 Tryz.underlying5 b off n cap l hlen hc 9 Tryz.underlying9
theorem byte_inj {x y : Int} (hx : 0 ≤ x ∧ x ≤ 255) (hy : 0 ≤ y ∧ y ≤ 255) (h : UInt8.ofNat x.toNat = UInt8.ofNat y.toNat) : x = y := by
 have h1 := congrArg UInt8.toNat h
 simp only [UInt8.toNat_ofNat'] at h1
 omega
theorem bytes_inj : ∀ (a b : List Int), Wf a → Wf b → (a.map fun n => UInt8.ofNat n.toNat) = (b.map fun n => UInt8.ofNat n.toNat) → a = b
 | [], [], _, _, _ => rfl
 | [], _ :: _, _, _, h => by simp at h
 | _ :: _, [], _, _, h => by simp at h
 | x :: a, y :: b, ha, hb, h => by
  simp only [List.map_cons, List.cons.injEq] at h
  rw [byte_inj (ha x (by simp)) (hb y (by simp)) h.1, bytes_inj a b (fun z hz => ha z (by simp [hz])) (fun z hz => hb z (by simp [hz])) h.2]
theorem str_beq {a b : List Int} (ha : Wf a) (hb : Wf b) : ((strOfNums a).toList == (strOfNums b).toList) = decide (a = b) := by
 rw [Bool.eq_iff_iff, beq_iff_eq, zQ, ByteArray.toList_eq, ByteArray.toList_eq, strOfNums_data, strOfNums_data]
 constructor
 ·exact bytes_inj a b ha hb
 ·rintro rfl; rfl
def ordL : List Int → List Int → Int
 | [], [] => 0
 | [], _ :: _ => -1
 | _ :: _, [] => 1
 | x :: a, y :: b => if x < y then -1 else if y < x then 1 else ordL a b
theorem ordL_self : ∀ (a : List Int), ordL a a = 0
 | [] => rfl
 | x :: a => by simp [ordL, ordL_self a]
theorem ordL_eq : ∀ (a b : List Int), ordL a b = 0 → a = b
 | [], [], _ => rfl
 | [], _ :: _, h => by simp [ordL] at h
 | _ :: _, [], h => by simp [ordL] at h
 | x :: a, y :: b, h => by
  simp only [ordL] at h
  split at h
  ·simp at h
  ·split at h
   ·simp at h
   ·rw [ordL_eq a b h, show x = y by omega]
theorem ordL_three (a b : List Int) : ordL a b = 0 ∨ ordL a b = -1 ∨ ordL a b = 1 := by
 induction a generalizing b with
 | nil => cases b <;> simp [ordL]
 | cons x a ih =>
  cases b with
  | nil => simp [ordL]
  | cons y b =>
   simp only [ordL]
   split
   ·simp
   ·split
    ·simp
    ·exact ih b
theorem order_any (ao bo : Option Addr) (n m c d : Nat) (la lb : List Int) (w : World) (ha : Sl w ao n c la) (hb : Sl w bo m d lb) :
  Calls Tryz.prog 140 #[.slice ao n c, .slice bo m d] w fun e w' => e = .returned (.int .i64 (ordL la lb)) ∧ ∃ q, w' = w.drewN q := by
 obtain ⟨hlen, hcap, hroom, hwf, hnil, hat⟩ := ha
 obtain ⟨hlen', hcap', hroom', hwf', hnil', hat'⟩ := hb
 generalize hF : ordL la lb = F
 have HF := zaa hF
 clear hF
 go_enter Tryz.func140, Tryz.ntmps140
 go_wp2_with fail
 go_loopw [5] (fun i wr => ∃ k q : Nat, k ≤ n ∧ k ≤ m ∧ i = .int .i64 k ∧ wr = w.drewN q ∧ Hid (ordL (la.drop k) (lb.drop k) = F)) (fun i _ => n - (intOf i).toNat)
 case atStart => exact ⟨0, 0, by omega, by omega, rfl, rfl, HF⟩
 case round =>
  obtain ⟨k, q, hk, hk', rfl, rfl, HK⟩ := hrel
  clear HF
  by_cases hkn : k < n
  ·by_cases hkm : k < m
   ·rcases hat with h | ⟨b, off, rfl, hbb, hc⟩
    ·omega
    rcases hat' with h | ⟨b', off', rfl, hbb', hc'⟩
    ·omega
    have hck := hc k hkn
    have hck' := hc' k hkm
    have e := HK.out
    rw [zbz la k (by omega), zbz lb k (by omega), ordL] at e
    clear hc hc' HK
    generalize la.getD k 0 = x at *
    generalize lb.getD k 0 = y at *
    by_cases hxy : x < y
    ·rw [if_pos hxy] at e
     have HE := zaa e
     clear e
     go_wp2_with fail
     go_quiet (fail)
     go_wp2
     go_ret
     exact ⟨zbo HE.out, _, World.drewN_drewN _ _ _⟩
    ·rw [if_neg hxy] at e
     by_cases hyx : y < x
     ·rw [if_pos hyx] at e
      have HE := zaa e
      clear e
      go_wp2_with fail
      go_quiet (fail)
      go_wp2_with fail
      go_quiet (fail)
      go_wp2
      go_ret
      exact ⟨zbo HE.out, _, by simp only [World.drewN_drewN]; rfl⟩
     ·rw [if_neg hyx] at e
      have HE := zaa e
      clear e
      go_wp2_with fail
      go_quiet (fail)
      go_wp2_with fail
      go_quiet (fail)
      go_wp2
      go_roundw
      case rel => exact ⟨k + 1, _, by omega, by omega, by go_num, rfl, HE⟩
      case measure => simp [intOf]; omega
   ·have e := HK.out
    rw [List.drop_eq_nil_of_le (show lb.length ≤ k by omega), zbz la k (by omega), ordL] at e
    have HE := zaa e
    clear e HK
    have hmn : ¬ n < m := by omega
    have hmn' : m < n := by omega
    go_wp2
    go_ret
    exact ⟨zbo HE.out, _, rfl⟩
  ·have e := HK.out
   rw [List.drop_eq_nil_of_le (show la.length ≤ k by omega)] at e
   by_cases hkm : k < m
   ·rw [zbz lb k (by omega), ordL] at e
    have HE := zaa e
    clear e HK
    have hmn' : n < m := by omega
    go_wp2
    go_ret
    exact ⟨zbo HE.out, _, rfl⟩
   ·rw [List.drop_eq_nil_of_le (show lb.length ≤ k by omega), ordL] at e
    have HE := zaa e
    clear e HK
    have hmn' : ¬ n < m := by omega
    have hmn : ¬ m < n := by omega
    go_wp2
    go_ret
    exact ⟨zbo HE.out, _, rfl⟩
end Go.Proofs.YtbkhjeacmmbabaaGreatDoor
namespace Go.Proofs.YtbkhjeacmmbabaaGreatDoor
set_option maxRecDepth 100000
set_option maxHeartbeats 1000000
def kl (a b : List Int) : Prop := ordL a b = -1
instance (a b : List Int) : Decidable (kl a b) := by unfold kl; infer_instance
def zar : Option (List Int) → List Int → Prop
 | none, _ => True
 | some p, k => kl p k
instance (p : Option (List Int)) (k : List Int) : Decidable (zar p k) := by cases p <;> (unfold zar; infer_instance)
def chk (k p : Int) : Option (List Int) → List Cl → Int
 | _, [] => 0
 | pr, c :: r => if mayP k p c then (if zar pr c.key then chk k p (some c.key) r else 63) else 62
theorem zcv {k p : Int} : ∀ {pr : Option (List Int)} {cs : List Cl}, chk k p pr cs = 0 → ∀ c ∈ cs, mayP k p c
 | _, [], _, c, hc => by cases hc
 | pr, d :: r, h, c, hc => by
  unfold chk at h
  split at h
  ·next h1 =>
   split at h
   ·rcases List.mem_cons.1 hc with e | e
    ·rw [e]; exact h1
    ·exact zcv h c e
   ·simp at h
  ·simp at h
def bdy (cs : List Cl) : List Int := cs.flatMap cB
def sts : Nat → List Cl → List Nat
 | _, [] => []
 | b, c :: r => b :: sts (b + (cB c).length) r
theorem zbu (c : Cl) (cs : List Cl) : bdy (c :: cs) = cB c ++ bdy cs := by simp [bdy]
theorem zbl (a b : List Cl) : bdy (a ++ b) = bdy a ++ bdy b := by simp [bdy]
theorem zak : ∀ (b : Nat) (cs : List Cl), (sts b cs).length = cs.length
 | _, [] => rfl
 | b, c :: r => by simp [sts, zak _ r]
theorem sts_shift : ∀ (a b : Nat) (cs : List Cl), sts (a + b) cs = (sts b cs).map (a + ·)
 | _, _, [] => rfl
 | a, b, c :: r => by
  simp only [sts, List.map_cons, List.cons.injEq, true_and]
  rw [Nat.add_assoc]
  exact sts_shift a _ r
theorem zdp : ∀ (b : Nat) (x y : List Cl), sts b (x ++ y) = sts b x ++ sts (b + (bdy x).length) y
 | _, [], _ => rfl
 | b, c :: r, y => by
  simp only [List.cons_append, sts, zbu, zG, List.cons.injEq, true_and]
  rw [zdp, Nat.add_assoc]
theorem zch : ∀ (b i : Nat) (cs : List Cl), i < cs.length → (sts b cs).getD i 0 = b + (bdy (cs.take i)).length
 | _, _, [], h => by simp at h
 | b, 0, c :: r, _ => by simp [sts, bdy]
 | b, i + 1, c :: r, h => by
  have := zch (b + (cB c).length) i r (by simpa using h)
  simp only [sts, List.getD_cons_succ, List.take_succ_cons, zbu, zG]
  rw [this]
  omega
theorem bdy_wf : ∀ {cs : List Cl}, (∀ c ∈ cs, c.Wf) → Wf (bdy cs)
 | [], _ => Wf.nil
 | c :: r, h => by
  rw [zbu]
  exact (cB_wf (h c (by simp))).append (bdy_wf fun d hd => h d (by simp [hd]))
def szN (cs : List Cl) : Nat := 8 + (cs.map ctk).sum
theorem zbb (cs : List Cl) : szN cs = 8 + 2 * cs.length + (bdy cs).length := by
 unfold szN
 induction cs with
 | nil => rfl
 | cons c r ih =>
  have := cB_length c
  simp only [List.map_cons, List.sum_cons, List.length_cons, zbu, zG]
  omega
def sloB (l : List Nat) : List Int := l.flatMap fun (s : Nat) => fB 2 (s : Int)
theorem zbq (l : List Nat) : (sloB l).length = 2 * l.length := by
 induction l with
 | nil => rfl
 | cons x r ih => simp only [sloB, List.flatMap_cons, zG, zah, List.length_cons] at ih ⊢; omega
theorem sloB_wf (l : List Nat) : Wf (sloB l) := by
 induction l with
 | nil => exact Wf.nil
 | cons x r ih => simp only [sloB, List.flatMap_cons]; exact (zbf _ _).append ih
def layP (k : Int) (n : Nat) (cs : List Cl) (i : Nat) : List Int := [k, 1] ++ (fB 2 cs.length ++ (sloB ((sts (n - 4 - (bdy cs).length) cs).take i) ++ zs (n - 4 - 2 * i)))
def pgH (k : Int) (n : Nat) (cs : List Cl) : List Int := [k, 1] ++ (fB 2 cs.length ++ (sloB (sts (n - 4 - (bdy cs).length) cs) ++ (zs (n - szN cs) ++ bdy cs)))
def pgB (k : Int) (n : Nat) (cs : List Cl) : List Int := sealB (pgH k n cs)
theorem pgH_length (k : Int) (n : Nat) (cs : List Cl) (h : szN cs ≤ n) : (pgH k n cs).length = n - 4 := by
 have := zbb cs
 simp only [pgH, zG, List.length_cons, List.length_nil, zah, zbq, zak, zbg]
 omega
theorem zdq (k : Int) (n : Nat) (cs : List Cl) (h : szN cs ≤ n) : (pgB k n cs).length = n := by
 have := zbb cs
 rw [pgB, sealB_length, pgH_length k n cs h]
 omega
theorem pgH_wf {k : Int} {n : Nat} {cs : List Cl} (hk : 0 ≤ k ∧ k ≤ 255) (h : ∀ c ∈ cs, c.Wf) : Wf (pgH k n cs) :=
 Wf.append (Wf.cons hk (Wf.cons (by omega) Wf.nil)) (Wf.append (zbf _ _) (Wf.append (sloB_wf _) (Wf.append (zs_wf _) (bdy_wf h))))
theorem pgB_wf {k : Int} {n : Nat} {cs : List Cl} (hk : 0 ≤ k ∧ k ≤ 255) (h : ∀ c ∈ cs, c.Wf) : Wf (pgB k n cs) := sealB_wf (pgH_wf hk h)
def part (k p : Int) : Nat → Option (List Int) → List Int → Option (List Cl)
 | 0, _, l => if l = [] then some [] else none
 | n + 1, pr, l =>
  match zaj l with
  | none => none
  | some (c, r) => if mayP k p c ∧ zar pr c.key then (part k p n (some c.key) r).map (c :: ·) else none
theorem part_of {k p : Int} (hp : p ≤ 65536) : ∀ (cs : List Cl) (pr : Option (List Int)), chk k p pr cs = 0 → part k p cs.length pr (bdy cs) = some cs
 | [], _, _ => rfl
 | c :: r, pr, h => by
  unfold chk at h
  split at h
  ·next h1 =>
   split at h
   ·next h2 =>
    simp only [List.length_cons, part, zbu]
    rw [pCell_mid c _ (h1.fit hp)]
    simp only [h1, h2, and_self, if_true]
    rw [part_of hp r _ h]
    rfl
   ·simp at h
  ·simp at h
theorem part_inv {k p : Int} : ∀ (n : Nat) (pr : Option (List Int)) (l : List Int) (cs : List Cl), Wf l → part k p n pr l = some cs → cs.length = n ∧ l = bdy cs ∧ chk k p pr cs = 0 ∧ ∀ c ∈ cs, c.Wf
 | 0, pr, l, cs, hw, h => by
  unfold part at h
  split at h
  ·next e =>
   cases h
   exact ⟨rfl, e, rfl, fun c hc => by cases hc⟩
  ·cases h
 | n + 1, pr, l, cs, hw, h => by
  unfold part at h
  split at h
  ·cases h
  ·next c r e =>
   split at h
   ·next hm =>
    obtain ⟨e1, _, e3, e4⟩ := pCell_inv hw e
    cases hq : part k p n (some c.key) r with
    | none => rw [hq] at h; cases h
    | some ds =>
     rw [hq] at h
     simp only [Option.map_some, Option.some.injEq] at h
     subst h
     obtain ⟨f1, f2, f3, f4⟩ := part_inv n _ r ds e4 hq
     refine ⟨by simp [f1], by rw [zbu, ← f2]; exact e1, ?_, ?_⟩
     ·rw [chk, if_pos hm.1, if_pos hm.2]; exact f3
     ·intro d hd
      rcases List.mem_cons.1 hd with e | e
      ·rw [e]; exact e3
      ·exact f4 d e
   ·cases h
def isKd (k : Int) : Prop := k = 2 ∨ k = 3
instance (k : Int) : Decidable (isKd k) := by unfold isKd; infer_instance
instance (k : Int) : Decidable (pw k) := by unfold pw; infer_instance
structure Is (k : Int) (n : Nat) (cs : List Cl) (b : List Int) : Prop where
 kd : isKd k
 sz : pw n
 ok : chk k n none cs = 0
 fit : szN cs ≤ n
 eq : pgB k n cs = b
def frst (b : List Int) : Int := if 0 < rdN b 2 2 then rdN b 4 2 else (b.length : Int) - 4
def zav (b : List Int) : Option (List Cl) :=
 if pw b.length ∧ isKd (b.getD 0 0) then
  (if frst b < 4 + rdN b 2 2 * 2 ∨ (b.length : Int) - 4 < frst b then none else part (b.getD 0 0) b.length (rdN b 2 2).toNat none ((b.drop (frst b).toNat).take (b.length - 4 - (frst b).toNat)))
 else none
theorem zao {n : Nat} (h : pw n) : 512 ≤ n ∧ n ≤ 65536 := by
 have := pw_le h
 omega
theorem readM_inv {b : List Int} {cs : List Cl} (hw : Wf b) (h : zav b = some cs) : isKd (b.getD 0 0) ∧ pw b.length ∧ chk (b.getD 0 0) b.length none cs = 0 ∧ szN cs ≤ b.length ∧ (∀ c ∈ cs, c.Wf) ∧ (cs.length : Int) = rdN b 2 2 ∧ bdy cs = (b.drop (frst b).toNat).take (b.length - 4 - (frst b).toNat) ∧ frst b = (b.length : Int) - 4 - (bdy cs).length ∧ 4 + rdN b 2 2 * 2 ≤ frst b := by
 unfold zav at h
 split at h
 ·next h1 =>
  split at h
  ·cases h
  ·next h2 =>
   have hn := (zbh b hw 2 2).1
   have hp := zao h1.1
   obtain ⟨e1, e2, e3, e4⟩ := part_inv _ _ _ _ ((hw.drop _).take _) h
   have hl := congrArg List.length e2
   rw [zJ, zK] at hl
   have hz := zbb cs
   refine ⟨h1.2, h1.1, e3, ?_, e4, ?_, e2.symm, ?_, ?_⟩ <;> omega
 ·cases h
theorem pgB_split (k : Int) (n : Nat) (cs : List Cl) : ∃ U : List Int, U.length = 4 ∧ pgB k n cs = [k, 1] ++ (fB 2 cs.length ++ (sloB (sts (n - 4 - (bdy cs).length) cs) ++ (zs (n - szN cs) ++ (bdy cs ++ U)))) :=
 ⟨fB 4 (sumN [pgH k n cs]), zah _ _, by rw [pgB, sealB]; conv => lhs; arg 1; rw [pgH]
                                        simp only [zM]⟩
theorem readM_of {k : Int} {n : Nat} {cs : List Cl} {b : List Int} (h : Is k n cs b) : zav b = some cs ∧ b.length = n ∧ b.getD 0 0 = k := by
 obtain ⟨h1, h2, h3, h4, h5⟩ := h
 have hp := zao h2
 have hz := zbb cs
 have hlen : b.length = n := by rw [← h5, zdq k n cs h4]
 have hg : b.getD 0 0 = k := by rw [← h5]; rfl
 obtain ⟨U, hU, hsp⟩ := pgB_split k n cs
 rw [h5] at hsp
 obtain ⟨F, hF⟩ : ∃ F, n - 4 - (bdy cs).length = F := ⟨_, rfl⟩
 rw [hF] at hsp
 have hr : rdN b 2 2 = (cs.length : Int) := by
  rw [hsp, zcu _ _ _ 2 2 rfl (zah _ _), zco 2 _ (by omega) (by omega)]
 have hf : frst b = (F : Int) := by
  unfold frst
  rw [hr, hlen]
  cases cs with
  | nil =>
   simp [bdy] at hF
   simp
   omega
  | cons c r =>
   have e : b = ([k, 1] ++ fB 2 ((c :: r).length : Nat)) ++ (fB 2 (F : Int) ++ (sloB (sts (F + (cB c).length) r) ++ (zs (n - szN (c :: r)) ++ (bdy (c :: r) ++ U)))) := by
    rw [hsp, show sloB (sts F (c :: r)) = fB 2 (F : Int) ++ sloB (sts (F + (cB c).length) r) from by simp [sloB, sts]]
    simp only [zM]
   rw [if_pos (by simp only [List.length_cons]; omega), e, zcu _ _ _ 4 2 (by simp [zah]) (zah _ _), zco 2 _ (by omega) (by omega)]
 have hb : (b.drop F).take (n - 4 - F) = bdy cs := by
  have e : b = ([k, 1] ++ (fB 2 cs.length ++ (sloB (sts F cs) ++ zs (n - szN cs)))) ++ (bdy cs ++ U) := by
   rw [hsp]
   simp only [zM]
  have hA : ([k, 1] ++ (fB 2 cs.length ++ (sloB (sts F cs) ++ zs (n - szN cs)))).length = F := by
   simp only [zG, List.length_cons, List.length_nil, zah, zbq, zak, zbg]
   omega
  rw [e, List.drop_left' hA, List.take_left' (by omega)]
 refine ⟨?_, hlen, hg⟩
 unfold zav
 rw [hg, hlen, hr, hf, if_pos ⟨h2, h1⟩, if_neg (by omega), Int.toNat_natCast, Int.toNat_natCast, hb]
 exact part_of (by omega) cs none h3
theorem is_iff {b : List Int} (hw : Wf b) (cs : List Cl) : Is (b.getD 0 0) b.length cs b ↔ zav b = some cs ∧ pgB (b.getD 0 0) b.length cs = b := by
 constructor
 ·intro h
  exact ⟨(readM_of h).1, h.eq⟩
 ·rintro ⟨h1, h2⟩
  obtain ⟨a1, a2, a3, a4, _⟩ := readM_inv hw h1
  exact ⟨a1, a2, a3, a4, h2⟩
theorem Is.one {k j : Int} {n m : Nat} {cs ds : List Cl} {b : List Int} (h : Is k n cs b) (g : Is j m ds b) : k = j ∧ n = m ∧ cs = ds := by
 obtain ⟨h1, h2, h3⟩ := readM_of h
 obtain ⟨g1, g2, g3⟩ := readM_of g
 exact ⟨h3.symm.trans g3, h2.symm.trans g2, Option.some.inj (h1.symm.trans g1)⟩
theorem set_two (A Z : List Int) (x y : Int) (p : Nat) (hp : A.length = p) : ((A ++ ([0, 0] ++ Z)).set p x).set (p + 1) y = A ++ ([x, y] ++ Z) := by
 subst hp
 rw [List.set_append_right _ _ Lr, List.set_append_right _ _ (by omega)]
 simp
theorem layP_set (k : Int) (n : Nat) (cs : List Cl) (i : Nat) (hi : i < cs.length) (hf : szN cs ≤ n) (x y : Int) (hxy : [x, y] = fB 2 ((n : Int) - 4 - (bdy cs).length + (sts 0 cs).getD i 0)) :
  ((layP k n cs i).set (4 + i * 2) x).set (4 + i * 2 + 1) y = layP k n cs (i + 1) := by
 have hz := zbb cs
 obtain ⟨F, hF⟩ : ∃ F, n - 4 - (bdy cs).length = F := ⟨_, rfl⟩
 have hFs : sts F cs = (sts 0 cs).map (F + ·) := by
  have := sts_shift F 0 cs
  rwa [Nat.add_zero] at this
 have hg : (sts F cs).take (i + 1) = (sts F cs).take i ++ [F + (sts 0 cs).getD i 0] := by
  rw [List.take_add_one, hFs]
  congr 1
  have hl : i < (sts 0 cs).length := by rw [zak]; exact hi
  simp [List.getElem?_map, List.getD, zI hl]
 have hs : sloB ((sts F cs).take (i + 1)) = sloB ((sts F cs).take i) ++ [x, y] := by
  rw [hg, hxy, show (n : Int) - 4 - (bdy cs).length + (((sts 0 cs).getD i 0 : Nat) : Int) = ((F + (sts 0 cs).getD i 0 : Nat) : Int) by omega]
  simp [sloB]
 unfold layP
 rw [hF, hs, show n - 4 - 2 * i = 2 + (n - 4 - 2 * (i + 1)) by omega, zs_add]
 obtain ⟨A, hA⟩ : ∃ A, [k, 1] ++ (fB 2 cs.length ++ sloB ((sts F cs).take i)) = A := ⟨_, rfl⟩
 have hAl : A.length = 4 + i * 2 := by
  rw [← hA]
  simp only [zG, List.length_cons, List.length_nil, zah, zbq, zJ, zak]
  omega
 generalize zs (n - 4 - 2 * (i + 1)) = Z
 have h2 := set_two A Z x y (4 + i * 2) hAl
 rw [← hA] at h2
 simpa [zM, zs] using h2
end Go.Proofs.YtbkhjeacmmbabaaGreatDoor
namespace Go.Proofs.YtbkhjeacmmbabaaGreatDoor
set_option maxRecDepth 100000
set_option maxHeartbeats 1000000
open Go.RowKit
theorem isWidth_yes (x : Int) (w : World) (h1 : 1 ≤ x) (h2 : x ≤ 8) : Calls Tryz.prog 156 #[.int .i64 x] w fun e w' => e = .returned (.bool true) ∧ w' = w := by
 go_enter Tryz.func156, Tryz.ntmps156
 go_wp2
 go_ret
 exact ⟨rfl, rfl⟩
theorem zdz (ao : Option Addr) (n cap : Nat) (x : Int) (w : World) (h1 : 0 ≤ x) (h2 : x ≤ n) : Calls Tryz.prog 176 #[.slice ao n cap, .int .i64 x] w fun e w' => e = .returned (.bool true) ∧ w' = w := by
 go_enter Tryz.func176, Tryz.ntmps176
 go_wp2
 go_ret
 exact ⟨rfl, rfl⟩
end Go.Proofs.YtbkhjeacmmbabaaGreatDoor
