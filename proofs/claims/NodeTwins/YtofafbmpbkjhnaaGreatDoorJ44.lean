import Derived.Test.YtofafbmpbkjhnaaGreatDoorJ43
import Derived.Deep.QuietTactic
import Derived.Handy
import Derived.BigQuiet
import Derived.Deep.DeepAppendWide
import Derived.Deep.OwnRows
import Derived.Laws.CopyOwn
import Derived.Test.YtofafbmpbkjhnaaGreatDoorJ27
import Derived.Lib.LazyBuf
namespace Go.Proofs.YtofafbmpbkjhnaaGreatDoor
set_option maxRecDepth 100000
open Go.RowKit
theorem szN_cons6 (d : Cl) (r : List Cl) : szN (d :: r) = ctk d + szN r := by unfold szN; simp; omega
theorem szN_sub {fs cs : List Cl} (h : fs.Sublist cs) : szN fs ≤ szN cs := by
 induction h with
 | slnil => exact Lr
 | cons a _ ih => rw [szN_cons6]; omega
 | cons_cons a _ ih => rw [szN_cons6, szN_cons6]; omega
end Go.Proofs.YtofafbmpbkjhnaaGreatDoor
namespace Go.Proofs.YtofafbmpbkjhnaaGreatDoor
set_option maxRecDepth 100000
def noKey (c : Cl) : Cl := ⟨[], c.kd, c.val, c.pg, c.ct⟩
def rsd (k : Int) (cs : List Cl) : List Cl := if k = 3 then cs.take 1 |>.map noKey |> (· ++ cs.drop 1) else cs
def rtL (k : Int) (cs : List Cl) (i : Nat) : List Cl := rsd k (cs.drop i)
theorem rsd_nil (k : Int) : rsd k [] = [] := by unfold rsd; split <;> rfl
theorem zcz (k : Int) (c : Cl) (r : List Cl) : rsd k (c :: r) = (if k = 3 then noKey c else c) :: r := by unfold rsd; split <;> simp
theorem rsd_length (k : Int) : ∀ cs : List Cl, (rsd k cs).length = cs.length
 | [] => by rw [rsd_nil]
 | c :: r => by rw [zcz]; simp
theorem rsd_tail (k : Int) (cs : List Cl) : (rsd k cs).drop 1 = cs.drop 1 := by
 cases cs with
 | nil => rw [rsd_nil]
 | cons c r => rw [zcz]; rfl
theorem rtL_next (k : Int) (cs : List Cl) (i : Nat) : rtL k (rtL k cs i) 1 = rtL k cs (i + 1) := by
 unfold rtL
 rw [rsd_tail, List.drop_drop]
theorem zdg (k : Int) (cs : List Cl) (i : Nat) : (rtL k cs i).length = cs.length - i := by unfold rtL; rw [rsd_length, zK]
structure Gd (k : Int) (n : Nat) (cs : List Cl) : Prop where
 may : ∀ c ∈ cs, mayP k n c
 rs : Rs cs
theorem Gd.take {k : Int} {n : Nat} {cs : List Cl} (h : Gd k n cs) (i : Nat) : Gd k n (cs.take i) := by
 refine ⟨fun c hc => h.may c (List.mem_of_mem_take hc), ?_⟩
 have := h.rs
 unfold Rs at *
 exact this.sublist (List.take_sublist _ _)
theorem kl_nil {a b : List Int} (h : kl a b) : kl [] b := by
 cases b with
 | nil => cases a <;> simp [kl, ordL] at h
 | cons x r => simp [kl, ordL]
theorem noKey_may {n : Nat} {c : Cl} (h : mayP 3 n c) : mayP 3 n (noKey c) := by
 obtain ⟨h1, h2⟩ := h
 unfold mayP noKey leadsP at *
 simp only at *
 refine ⟨by simp; omega, ?_⟩
 rcases h2 with h2 | h2
 ·exact .inl h2
 ·exact absurd rfl h2.1
theorem Gd.rsd {k : Int} {n : Nat} {cs : List Cl} (h : Gd k n cs) : Gd k n (rsd k cs) := by
 cases cs with
 | nil => rw [rsd_nil]; exact h
 | cons c r =>
  rw [zcz]
  by_cases hk : k = 3
  ·rw [if_pos hk]
   subst hk
   refine ⟨fun d hd => ?_, ?_⟩
   ·rcases List.mem_cons.1 hd with rfl | hd
    ·exact noKey_may (h.may c (by simp))
    ·exact h.may d (by simp [hd])
   ·have h2 := h.rs
    unfold Rs at *
    rw [List.pairwise_cons] at *
    exact ⟨fun d hd => kl_nil (h2.1 d hd), h2.2⟩
  ·rw [if_neg hk]
   exact h
theorem Gd.drop {k : Int} {n : Nat} {cs : List Cl} (h : Gd k n cs) (i : Nat) : Gd k n (cs.drop i) := by
 refine ⟨fun c hc => h.may c (List.mem_of_mem_drop hc), ?_⟩
 have := h.rs
 unfold Rs at *
 exact this.sublist (List.drop_sublist _ _)
theorem Gd.rt {k : Int} {n : Nat} {cs : List Cl} (h : Gd k n cs) (i : Nat) : Gd k n (rtL k cs i) := (h.drop i).rsd
theorem Gd.chk {k : Int} {n : Nat} {cs : List Cl} (h : Gd k n cs) : chk k n none cs = 0 := chk_of none cs h.may h.rs (fun _ _ => trivial)
theorem tL_mono {x y : Nat} (h : x ≤ y) : tL x ≤ tL y := by
 unfold tL
 have := uBf_mono 9 (x : Int) (y : Int) (by omega) (by omega)
 unfold uB
 omega
theorem qtk_mono {m m' : Nat} (c : Cl) (h : m ≤ m') : qtk m' c ≤ qtk m c := by
 have := tL_mono (show c.key.length - m' ≤ c.key.length - m by omega)
 unfold qtk
 omega
theorem qtk_noKey (m : Nat) (c : Cl) : qtk 0 (noKey c) ≤ qtk m c := by
 have := tL_mono (show 0 ≤ c.key.length - m by omega)
 unfold qtk noKey
 simp only [List.length_nil, Nat.sub_zero]
 omega
theorem qsm_flag (m : Nat) : ∀ (f : Bool) (l : List Cl), qsm m false l ≤ qsm m f l
 | _, [] => by simp [qsm]
 | true, c :: r => by
  have := qtk_mono c (Nat.zero_le m)
  simp only [qsm]
  simp only [Bool.false_eq_true, if_false, if_true]
  omega
 | false, c :: r => Lr
theorem qsm_drop (m : Nat) : ∀ (i : Nat) (f : Bool) (l : List Cl), qsm m false (l.drop i) ≤ qsm m f l
 | 0, f, l => by simpa using qsm_flag m f l
 | i + 1, f, [] => by simp [qsm]
 | i + 1, f, c :: r => by
  have := qsm_drop m i false r
  simp only [List.drop_succ_cons, qsm]
  omega
theorem qsm_tk9 (m : Nat) : ∀ (i : Nat) (f : Bool) (l : List Cl), qsm m f (l.take i) ≤ qsm m f l
 | 0, f, l => by simp [qsm]
 | i + 1, f, [] => by simp [qsm]
 | i + 1, f, c :: r => by
  have := qsm_tk9 m i false r
  simp only [List.take_succ_cons, qsm]
  omega
theorem qsm_rsd (m : Nat) (k : Int) (l : List Cl) : qsm m (whl k) (rsd k l) ≤ qsm m false l := by
 cases l with
 | nil => rw [rsd_nil]; simp [qsm]
 | cons c r =>
  rw [zcz]
  by_cases hk : k = 3
  ·have := qtk_noKey m c
   simp only [qsm, whl, hk, decide_true, if_true]
   simp only [Bool.false_eq_true, if_false]
   omega
  ·simp only [qsm, whl, hk, decide_false, if_false]
   simp
theorem qsm_rt (m : Nat) (k : Int) (cs : List Cl) (i : Nat) : qsm m (whl k) (rtL k cs i) ≤ qsm m (whl k) cs :=
 zN (qsm_rsd m k _) (qsm_drop m i _ cs)
theorem zcf {k : Int} {cs : List Cl} {d : Cl} : d ∈ ktl k cs ↔ d ∈ cs.drop (if k = 3 then 1 else 0) := by
 unfold ktl
 split <;> simp
theorem Beg.take {k : Int} {P : List Int} {cs : List Cl} (h : Beg k P cs) (i : Nat) : Beg k P (cs.take i) := fun c hc => by
 rw [zcf, List.drop_take] at hc
 exact h c (zcf.2 (List.mem_of_mem_take hc))
theorem Beg.rt {k : Int} {P : List Int} {cs : List Cl} (h : Beg k P cs) (i : Nat) : Beg k P (rtL k cs i) := fun c hc => by
 rw [zcf] at hc
 unfold rtL at hc
 by_cases hk : k = 3
 ·rw [if_pos hk, rsd_tail, List.drop_drop] at hc
  refine h c (zcf.2 ?_)
  rw [if_pos hk]
  rw [show i + 1 = 1 + i by omega, ← List.drop_drop] at hc
  exact List.mem_of_mem_drop hc
 ·unfold rsd at hc
  rw [if_neg hk, if_neg hk, List.drop_zero] at hc
  refine h c (zcf.2 ?_)
  rw [if_neg hk, List.drop_zero]
  exact List.mem_of_mem_drop hc
def szE (e : Int) (k : Int) (cs : List Cl) : Nat := if e = 1 then szN cs else szQ k (shP k cs).length cs
theorem sum_sub {l m : List Nat} (h : l.Sublist m) : l.sum ≤ m.sum := by
 induction h with
 | slnil => simp
 | cons a _ ih => simp; omega
 | cons_cons a _ ih => simp; omega
theorem szN_subl {a b : List Cl} (h : a.Sublist b) : szN a ≤ szN b := by
 have := sum_sub (h.map ctk)
 unfold szN
 omega
theorem ctk_noKey (c : Cl) : ctk (noKey c) ≤ ctk c := by
 unfold ctk noKey
 simp only [List.length_nil]
 split <;> omega
theorem szN_rsd (k : Int) (cs : List Cl) : szN (rsd k cs) ≤ szN cs := by
 cases cs with
 | nil => rw [rsd_nil]; exact Lr
 | cons c r =>
  rw [zcz]
  have := ctk_noKey c
  unfold szN
  split <;> simp <;> omega
theorem zbm (e k : Int) (cs : List Cl) (i : Nat) : szE e k (cs.take i) ≤ szE e k cs := by
 unfold szE
 split
 ·exact szN_subl (List.take_sublist _ _)
 ·have h1 := szQ_less ((zbz k cs).take i)
  have h2 := qsm_tk9 (shP k cs).length i (whl k) cs
  unfold szQ at *
  omega
theorem zbn (e k : Int) (cs : List Cl) (i : Nat) : szE e k (rtL k cs i) ≤ szE e k cs := by
 unfold szE
 split
 ·exact zN (szN_rsd k _) (szN_subl (List.drop_sublist _ _))
 ·have h1 := szQ_less ((zbz k cs).rt i)
  have h2 := qsm_rt (shP k cs).length k cs i
  unfold szQ at *
  omega
theorem szE_takes (e k : Int) (cs : List Cl) {i j : Nat} (h : i ≤ j) : szE e k (cs.take i) ≤ szE e k (cs.take j) := by
 have := zbm e k (cs.take j) i
 rwa [List.take_take, Nat.min_eq_left h] at this
theorem szE_rts (e k : Int) (cs : List Cl) {i j : Nat} (h : i ≤ j) : szE e k (rtL k cs j) ≤ szE e k (rtL k cs i) := by
 obtain ⟨d, rfl⟩ := Nat.exists_eq_add_of_le h
 induction d with
 | zero => exact Lr
 | succ d ih =>
  have h1 := zbn e k (rtL k cs (i + d)) 1
  rw [rtL_next] at h1
  exact zN h1 (ih (by omega))
theorem uB_two9 (x : Int) (h0 : 0 ≤ x) (h : x < 16384) : (uB x).length ≤ 2 := by
 unfold uB
 rw [uBf]
 split
 ·simp
 ·rw [uBf, if_pos (by omega)]
  simp
theorem qtk_may9 {k : Int} {n : Nat} {c : Cl} (h : mayP k n c) (hn : pw n) : qtk 0 c ≤ 7 + n / 8 + 3 * (n / 16) := by
 have hp := zak hn
 have hf := h.fit (by omega)
 unfold mayP at h
 have hk : c.key.length ≤ n / 8 := by omega
 have a1 := uB_two9 ((c.key.length : Nat) : Int) (by omega) (by omega)
 unfold qtk tL
 rw [Nat.sub_zero]
 by_cases e : c.kd = 1
 ·rw [if_pos e]
  have hv : c.val.length ≤ 3 * (n / 16) := by omega
  have a2 := uB_two9 ((c.val.length : Nat) : Int) (by omega) (by omega)
  omega
 ·rw [if_neg e]
  have a3 := (zas (c.pg % 18446744073709551616)).1
  have a4 := (zas (c.ct % 18446744073709551616)).1
  omega
theorem ctk_may9 {k : Int} {n : Nat} {c : Cl} (h : mayP k n c) (hn : pw n) : ctk c ≤ 7 + n / 8 + 3 * (n / 16) := by
 have hp := zak hn
 unfold mayP at h
 unfold ctk
 split <;> omega
theorem qsm_zero : ∀ (f : Bool) (l : List Cl), qsm 0 f l = (l.map (qtk 0)).sum
 | _, [] => rfl
 | f, c :: r => by
  have := qsm_zero false r
  simp [qsm, this]
theorem three_sum {f : Cl → Nat} {l : List Cl} {M : Nat} (h : ∀ c ∈ l, f c ≤ M) (hl : l.length ≤ 3) : (l.map f).sum ≤ 3 * M := by
 match l, hl, h with
 | [], _, _ => simp
 | [a], _, h => have := h a (by simp); simp; omega
 | [a, b], _, h => have := h a (by simp); have := h b (by simp); simp; omega
 | [a, b, c], _, h => have := h a (by simp); have := h b (by simp); have := h c (by simp); simp; omega
theorem szE_three {e k : Int} {n : Nat} {cs : List Cl} (h : Gd k n cs) (hn : pw n) (hl : cs.length ≤ 3) : szE e k cs ≤ n := by
 have hp := zak hn
 have hp8 : n = 512 ∨ n = 1024 ∨ n = 2048 ∨ n = 4096 ∨ n = 8192 ∨ n = 16384 ∨ n = 32768 ∨ n = 65536 := by unfold pw at hn; omega
 unfold szE
 split
 ·have := three_sum (f := ctk) (fun c hc => ctk_may9 (h.may c hc) hn) hl
  unfold szN
  omega
 ·have hb : Beg k [] cs := fun c _ => by simp
  have h1 := szQ_less hb
  have h2 := three_sum (f := qtk 0) (fun c hc => qtk_may9 (h.may c hc) hn) hl
  unfold szQ at *
  rw [List.length_nil, qsm_zero] at h1
  omega
theorem qsm_app (m : Nat) : ∀ (f : Bool) (x y : List Cl), qsm m f (x ++ y) = qsm m f x + qsm m (f && x.isEmpty) y
 | f, [], y => by simp [qsm]
 | f, c :: r, y => by
  have ih := qsm_app m false r y
  simp only [List.cons_append, qsm, ih, List.isEmpty_cons, Bool.and_false, Bool.false_and]
  omega
theorem begin_between {P a b c : List Int} (h1 : kl a b) (h2 : kl b c) (ha : a.take P.length = P) (hc : c.take P.length = P) : b.take P.length = P := by
 have h3 := lcp_between a b c h1 h2
 have h4 : P.length ≤ lcp a c := by
  have := shn_most a P ha [⟨c, 0, [], 0, 0⟩] (by simpa using hc)
  unfold shn at this
  have h5 := (lcp_le a c).1
  simp only at this
  omega
 have h5 := congrArg (List.take P.length) (lcp_take_eq a b)
 rw [List.take_take, List.take_take, Nat.min_eq_left (by omega), ha] at h5
 exact h5.symm
theorem cut_is {e k : Int} {n : Nat} {a : List Cl} {c : Cl} {i : Nat} (hn : pw n) (hi : i ≤ a.length) (hg : Gd k n (a.take i ++ [c] ++ a.drop i)) (hf : szE e k a ≤ n) (hno : n < szE e k (a.take i ++ [c] ++ a.drop i)) :
  ∃ K, 2 ≤ K ∧ K + 2 ≤ a.length + 1 ∧ szE e k ((a.take i ++ [c] ++ a.drop i).take K) ≤ n ∧ szE e k (rtL k (a.take i ++ [c] ++ a.drop i) K) ≤ n := by
 have hp := zak hn
 have hp8 : n = 512 ∨ n = 1024 ∨ n = 2048 ∨ n = 4096 ∨ n = 8192 ∨ n = 16384 ∨ n = 32768 ∨ n = 65536 := by unfold pw at hn; omega
 have hti : (a.take i).length = i := by rw [zJ]; omega
 have hlen : (a.take i ++ [c] ++ a.drop i).length = a.length + 1 := by simp; omega
 have h4 : 4 ≤ a.length + 1 := by
  rcases Nat.lt_or_ge 3 (a.length + 1) with h | h
  ·exact h
  ·have := szE_three (e := e) hg hn (by omega)
   omega
 obtain ⟨l, hl⟩ : ∃ l, a.take i ++ [c] ++ a.drop i = l := ⟨_, rfl⟩
 have hdr : ∀ K, i < K → l.drop K = a.drop (K - 1) := by
  intro K hK
  rw [← hl, zM, List.drop_append, hti, List.drop_eq_nil_of_le (by omega), List.nil_append, show K - i = 1 + (K - i - 1) by omega, ← List.drop_drop]
  simp only [List.singleton_append, List.drop_succ_cons, List.drop_drop]
  congr 1
  omega
 have htk : ∀ K, K ≤ i → l.take K = a.take K := by
  intro K hK
  rw [← hl, zM, List.take_append_of_le_length (by omega), List.take_take, Nat.min_eq_left hK]
 have hti1 : l.take (i + 1) = a.take i ++ [c] := by
  rw [← hl, List.take_append_of_le_length (by simp; omega), List.take_of_length_le (by simp; omega)]
 have hdi : l.drop i = c :: a.drop i := by
  rw [← hl, zM, List.drop_append, hti, List.drop_eq_nil_of_le (by omega), List.nil_append, Nat.sub_self]
  rfl
 have hdi1 : l.drop (i + 1) = a.drop i := hdr (i + 1) (by omega)
 rw [hl] at hg hno hlen ⊢
 have h2cells : ∀ K, K + 2 = a.length + 1 → szE e k (rtL k l K) ≤ n := fun K hK => szE_three (hg.rt K) hn (by rw [zdg]; omega)
 have h2left : szE e k (l.take 2) ≤ n := szE_three (hg.take 2) hn (by rw [zJ]; omega)
 by_cases h1 : i ≤ 1
 ·refine ⟨2, by omega, by omega, h2left, ?_⟩
  unfold rtL
  rw [hdr 2 (by omega)]
  exact zN (zbn e k a 1) hf
 by_cases h3 : a.length ≤ i + 1
 ·obtain ⟨K, hK⟩ : ∃ K, K + 2 = a.length + 1 := ⟨a.length - 1, by omega⟩
  refine ⟨K, by omega, by omega, ?_, h2cells K hK⟩
  rw [htk K (by omega)]
  exact zN (zbm e k a K) hf
 by_cases hL : szE e k (l.take (i + 1)) ≤ n
 ·refine ⟨i + 1, by omega, by omega, hL, ?_⟩
  unfold rtL
  rw [hdi1]
  exact zN (zbn e k a i) hf
 ·refine ⟨i, by omega, by omega, ?_, ?_⟩
  ·rw [htk i (by omega)]
   exact zN (zbm e k a i) hf
  ·rw [hti1] at hL
   unfold rtL
   rw [hdi]
   have hcm : mayP k n c := hg.may c (by rw [← hl]; simp)
   unfold szE at *
   by_cases he : e = 1
   ·rw [if_pos he] at *
    have g1 := szN_rsd k (c :: a.drop i)
    have g2 := ctk_may9 hcm hn
    have g3 : (a.map ctk).sum = ((a.take i).map ctk).sum + ((a.drop i).map ctk).sum := by
     conv => lhs; rw [← List.take_append_drop i a]
     rw [List.map_append, List.sum_append]
    unfold szN at *
    simp only [List.map_append, List.sum_append, List.map_cons, List.sum_cons, List.map_nil, List.sum_nil] at *
    omega
   ·rw [if_neg he] at *
    have hb := zbz k a
    obtain ⟨P, hP⟩ : ∃ P, shP k a = P := ⟨_, rfl⟩
    rw [hP] at hb hf
    -- the cell's key begins so too
    have hx : ∀ j d, a[j]? = some d → 1 ≤ j → d.key.take P.length = P := fun j d hd hj => hb d (zcf.2 (by
     refine List.mem_of_getElem? (i := j - (if k = 3 then 1 else 0)) ?_
     rw [List.getElem?_drop]
     rw [show (if k = 3 then 1 else 0) + (j - (if k = 3 then 1 else 0)) = j by split <;> omega]
     exact hd))
    obtain ⟨x, hxi⟩ : ∃ x, a[i - 1]? = some x := ⟨_, zI (by omega)⟩
    obtain ⟨z, hzi⟩ : ∃ z, a[i]? = some z := ⟨_, zI (by omega)⟩
    have hlx : l[i - 1]? = some x := by rw [← hl, zM, zL (by omega), List.getElem?_take_of_lt (by omega), hxi]
    have hlc : l[i]? = some c := by rw [← hl, zM, List.getElem?_append_right (by omega), hti, Nat.sub_self]; rfl
    have hlz : l[i + 1]? = some z := by
     have : (l.drop (i + 1))[0]? = a[i]? := by rw [hdi1, List.getElem?_drop]; rfl
     rw [List.getElem?_drop] at this
     simpa [hzi] using this
    have hrs : ∀ (p q : Nat) (x y : Cl), p < q → l[p]? = some x → l[q]? = some y → kl x.key y.key := by
     intro p q x y hpq h1 h2
     have h3 := hg.rs
     unfold Rs at h3
     rw [List.pairwise_iff_getElem] at h3
     obtain ⟨g1, e1⟩ := zH.1 h1
     obtain ⟨g2, e2⟩ := zH.1 h2
     have := h3 p q g1 g2 hpq
     rwa [e1, e2] at this
    have hcP : c.key.take P.length = P := begin_between (hrs _ _ _ _ (by omega) hlx hlc) (hrs _ _ _ _ (by omega) hlc hlz) (hx _ _ hxi (by omega)) (hx _ _ hzi (by omega))
    have hcl := beg_len hcP
    have b1 : Beg k P (a.take i ++ [c]) := fun d hd => by
     rw [zcf] at hd
     rcases List.mem_append.1 ((List.drop_append ▸ hd : d ∈ (a.take i).drop _ ++ [c].drop _)) with h | h
     ·exact (hb.take i) d (zcf.2 h)
     ·have := List.mem_of_mem_drop h
      rw [List.mem_singleton] at this
      rw [this]
      exact hcP
    have b2 : Beg k P (rsd k (c :: a.drop i)) := fun d hd => by
     rw [zcf] at hd
     by_cases hk : k = 3
     ·rw [if_pos hk, rsd_tail] at hd
      simp only [List.drop_succ_cons, List.drop_zero] at hd
      obtain ⟨j, hj⟩ := List.getElem?_of_mem hd
      rw [List.getElem?_drop] at hj
      exact hx _ d hj (by omega)
     ·unfold rsd at hd
      rw [if_neg hk, if_neg hk, List.drop_zero] at hd
      rcases List.mem_cons.1 hd with rfl | hd
      ·exact hcP
      ·obtain ⟨j, hj⟩ := List.getElem?_of_mem hd
       rw [List.getElem?_drop] at hj
       exact hx _ d hj (by omega)
    have s1 := szQ_less b1
    have s2 := szQ_less b2
    have s3 := qsm_rsd P.length k (c :: a.drop i)
    have s4 := qtk_less 0 P.length c (Nat.zero_le _) hcl
    have s5 := qtk_may9 hcm hn
    have hne : (a.take i).isEmpty = false := by
     rw [List.isEmpty_eq_false_iff]
     intro h
     rw [h] at hti
     simp at hti
     omega
    have s6 := qsm_app P.length (whl k) (a.take i) [c]
    have s7 := qsm_app P.length (whl k) (a.take i) (a.drop i)
    rw [List.take_append_drop] at s7
    rw [hne, Bool.and_false] at s6 s7
    simp only [qsm, Bool.false_eq_true, if_false, Nat.add_zero] at s6 s3
    unfold szQ at *
    omega
end Go.Proofs.YtofafbmpbkjhnaaGreatDoor
namespace Go.Proofs.YtofafbmpbkjhnaaGreatDoor
set_option maxRecDepth 100000
open Go.RowKit
def OwK (w0 : World) (B : Nat) (w : World) (v : Value) (cs : List Cl) : Prop := ∃ vs, w.ownsRow B 43 5 v cs.length vs ∧ Row5 w0 vs cs
theorem OwK.nil (w0 : World) (B : Nat) (w : World) : OwK w0 B w (.slice none 0 0) [] := ⟨[], World.ownsRow_nil _ _ _ _, rfl⟩
theorem OwK.keep {w0 w w' : World} {B : Nat} {v : Value} {cs : List Cl} {K : Nat → Prop} (h : OwK w0 B w v cs) (hc : Cf K w w') (hk : ∀ g, v.ownBlock = some g → ¬ K g) : OwK w0 B w' v cs := by
 obtain ⟨vs, h1, h2⟩ := h
 refine ⟨vs, ⟨h1.1, ?_⟩, h2⟩
 rcases h1.2 with h3 | ⟨g, cap, cur, e, hg, hh, r⟩
 ·exact .inl h3
 ·exact .inr ⟨g, cap, cur, e, hg, (hc.block g (zah hh) (hk g (by rw [e]; rfl))).trans hh, r⟩
theorem OwK.go {w0 w w' : World} {B : Nat} {v : Value} {cs : List Cl} (h : OwK w0 B w v cs) (hb : Below w.heap.size w w') : OwK w0 B w' v cs := h.keep (K := fun _ => False) (Cf.of_below hb) (fun _ _ e => e)
structure SrK (w0 w : World) (ao : Option Addr) (n cap : Nat) (cs : List Cl) : Prop where
 hlen : cs.length = n
 hcap : n ≤ cap
 hnil : ao = none → cap = 0
 hat : n = 0 ∨ ∃ b off us, ao = some ⟨b, off, none⟩ ∧ b < w.heap.size ∧ Row5 w0 us cs ∧ ∀ j u, us[j]? = some u → w.cell? ⟨b, off + j, none⟩ = some u
theorem SrK.on {w0 w w' : World} {ao : Option Addr} {n cap : Nat} {cs : List Cl} (h : SrK w0 w ao n cap cs) (hb : Below w.heap.size w w') : SrK w0 w' ao n cap cs := by
 refine ⟨h.hlen, h.hcap, h.hnil, ?_⟩
 rcases h.hat with h0 | ⟨b, off, us, e, hlt, hr, hc⟩
 ·exact .inl h0
 ·exact .inr ⟨b, off, us, e, zO hlt hb.size, hr, fun j u hu => (hb.cell (p := ⟨b, off + j, none⟩) hlt).trans (hc j u hu)⟩
theorem OwK.src {w0 w : World} {B : Nat} {v : Value} {cs : List Cl} (h : OwK w0 B w v cs) : ∃ ao cap, v = .slice ao cs.length cap ∧ SrK w0 w ao cs.length cap cs ∧ (0 < cs.length → ∃ g, ao = some ⟨g, 0, none⟩) := by
 obtain ⟨vs, h1, h2⟩ := h
 rcases h1.2 with ⟨rfl, h0⟩ | ⟨g, cap, cur, rfl, hg, hh, hnc, hm, hs, ht⟩
 ·rw [h0]
  exact ⟨none, 0, rfl, ⟨h0, Lr, fun _ => rfl, .inl rfl⟩, fun h => absurd h (by omega)⟩
 ·refine ⟨_, cap, rfl, ⟨rfl, hnc, (by intro h; cases h), .inr ⟨g, 0, vs, rfl, zah hh, h2, fun j u hu => ?_⟩⟩, fun _ => ⟨g, rfl⟩⟩
  have := World.ownsRow.cells h1 (g := g) rfl j u hu
  simpa [Addr.add_lit] using this
theorem SrK.slc {w0 w : World} {ao : Option Addr} {n cap : Nat} {cs : List Cl} (h : SrK w0 w ao n cap cs) (hb : Below w0.heap.size w0 w) (hl : n ≤ 140737488355328) : SlC w ao n cap cs := by
 refine ⟨h.hlen, h.hcap, hl, h.hnil, ?_⟩
 rcases h.hat with h0 | ⟨b, off, us, e, hlt, hr, hc⟩
 ·exact .inl h0
 ·exact .inr ⟨b, off, e, hlt, Row5.cat hb off hr hc⟩
theorem Row5.take {w : World} : ∀ {vs : List Value} {cs : List Cl} (i : Nat), Row5 w vs cs → Row5 w (vs.take (i * 5)) (cs.take i)
 | vs, [], i, h => by
  unfold Row5 at h
  subst h
  simp [Row5]
 | vs, c :: r, 0, h => by simp [Row5]
 | vs, c :: r, i + 1, h => by
  obtain ⟨ka, kc, va, vc, t, rfl, h1, h2, h3⟩ := h
  have ih := Row5.take i h3
  rw [show (i + 1) * 5 = i * 5 + 1 + 1 + 1 + 1 + 1 by omega]
  simp only [List.take_succ_cons]
  exact ⟨ka, kc, va, vc, _, rfl, h1, h2, ih⟩
theorem Row5.drop {w : World} : ∀ {vs : List Value} {cs : List Cl} (i : Nat), Row5 w vs cs → Row5 w (vs.drop (i * 5)) (cs.drop i)
 | vs, [], i, h => by
  unfold Row5 at h
  subst h
  simp [Row5]
 | vs, c :: r, 0, h => by simpa using h
 | vs, c :: r, i + 1, h => by
  obtain ⟨ka, kc, va, vc, t, rfl, h1, h2, h3⟩ := h
  have ih := Row5.drop i h3
  rw [show (i + 1) * 5 = i * 5 + 1 + 1 + 1 + 1 + 1 by omega]
  simp only [List.drop_succ_cons]
  exact ih
theorem Row5.item {w : World} : ∀ {vs : List Value} {cs : List Cl} (i : Nat) (c : Cl), Row5 w vs cs → cs[i]? = some c → ∃ ka kc va vc, vs[i * 5]? = some (.slice ka c.key.length kc) ∧ vs[i * 5 + 1]? = some (.int .i64 c.kd) ∧ vs[i * 5 + 2]? = some (.slice va c.val.length vc) ∧ vs[i * 5 + 3]? = some (.int .i64 c.pg) ∧ vs[i * 5 + 4]? = some (.int .i64 c.ct) ∧ Sl w ka c.key.length kc c.key ∧ Sl w va c.val.length vc c.val
 | vs, [], i, c, h, hi => by simp at hi
 | vs, d :: r, 0, c, h, hi => by
  obtain ⟨ka, kc, va, vc, t, rfl, h1, h2, h3⟩ := h
  simp at hi
  subst hi
  exact ⟨ka, kc, va, vc, rfl, rfl, rfl, rfl, rfl, h1, h2⟩
 | vs, d :: r, i + 1, c, h, hi => by
  obtain ⟨ka, kc, va, vc, t, rfl, h1, h2, h3⟩ := h
  obtain ⟨ka', kc', va', vc', e0, e1, e2, e3, e4, s1, s2⟩ := Row5.item i c h3 (by simpa using hi)
  rw [show (i + 1) * 5 = i * 5 + 1 + 1 + 1 + 1 + 1 by omega]
  simp only [List.getElem?_cons_succ]
  exact ⟨ka', kc', va', vc', e0, e1, e2, e3, e4, s1, s2⟩
theorem SrK.item {w0 w : World} {ao : Option Addr} {n cap : Nat} {cs : List Cl} (h : SrK w0 w ao n cap cs) (i : Nat) (hi : i < n) : ∃ b off c ka kc va vc, ao = some ⟨b, off, none⟩ ∧ b < w.heap.size ∧ cs[i]? = some c ∧
  w.cell? ⟨b, off + i * 5, none⟩ = some (.slice ka c.key.length kc) ∧ w.cell? ⟨b, off + i * 5 + 1, none⟩ = some (.int .i64 c.kd) ∧ w.cell? ⟨b, off + i * 5 + 2, none⟩ = some (.slice va c.val.length vc) ∧ w.cell? ⟨b, off + i * 5 + 3, none⟩ = some (.int .i64 c.pg) ∧ w.cell? ⟨b, off + i * 5 + 4, none⟩ = some (.int .i64 c.ct) ∧ Sl w0 ka c.key.length kc c.key ∧ Sl w0 va c.val.length vc c.val := by
 have hl := h.hlen
 rcases h.hat with h0 | ⟨b, off, us, e, hlt, hr, hc⟩
 ·omega
 ·obtain ⟨c, hci⟩ : ∃ c, cs[i]? = some c := ⟨_, zI (by omega)⟩
  obtain ⟨ka, kc, va, vc, e0, e1, e2, e3, e4, s1, s2⟩ := hr.item i c hci
  exact ⟨b, off, c, ka, kc, va, vc, e, hlt, hci, hc _ _ e0, by have := hc _ _ e1; rwa [← Nat.add_assoc] at this, by have := hc _ _ e2; rwa [← Nat.add_assoc] at this, by have := hc _ _ e3; rwa [← Nat.add_assoc] at this, by have := hc _ _ e4; rwa [← Nat.add_assoc] at this, s1, s2⟩
theorem five_at {w : World} {y : World} {x0 x1 x2 x3 x4 : Value} (hy : w.alloc (.cells #[x0, x1, x2, x3, x4] 43) = y) : ∀ (j : Nat) (u : Value), ([x0, x1, x2, x3, x4] : List Value)[j]? = some u → y.cell? ⟨w.heap.size, 0 + j, none⟩ = some u := by
 obtain ⟨f0, f1, f2, f3, f4⟩ := (C5.box w x0 x1 x2 x3 x4).cells
 rw [hy] at f0 f1 f2 f3 f4
 intro j u hu
 have hj5 : j < 5 := (zH.1 hu).1
 have hj' : j = 0 ∨ j = 1 ∨ j = 2 ∨ j = 3 ∨ j = 4 := by omega
 rcases hj' with rfl | rfl | rfl | rfl | rfl <;> (simp only [List.getElem?_cons_zero, List.getElem?_cons_succ, Option.some.injEq] at hu; subst hu; assumption)
theorem app_k {ops : Array Oper} {rest : List Oper} {o : Oper} {a : Act} {Q : Exit → Act → World → Prop} (w0 w : World) (B : Nat) (hgd : o.guard = none) (s x : Operand)
  (ho : o.op = .call { callee := .builtin .append, args := #[s, x], argTypes := #[32, 32] }) (cs : List Cl) (c : Cl) (v : Value) (g : Nat) (us : List Value) (hs : a.eval s = v) (hx : a.eval x = .slice (some ⟨g, 0, none⟩) 1 1)
  (hown : OwK w0 B w v cs) (hr : Row5 w0 us [c]) (hc : ∀ j u, us[j]? = some u → w.cell? ⟨g, 0 + j, none⟩ = some u) (hb : cs.length + 1 ≤ 1000000) (hbase : B ≤ w.heap.size)
  (h : ∀ v' w', Hid (OwK w0 B w' v' (cs ++ [c])) → Hid (Below B w w') → wpList Tryz.prog ops Q rest (a.put o.dst v') w') : wpList Tryz.prog ops Q (o :: rest) a w := by
 obtain ⟨i0, hi, hz0, hz1, hz2⟩ := info_parts infoC
 obtain ⟨vs, h1, h2⟩ := hown
 refine wpList_append_own_at w hgd s x 32 ho B 43 i0 _ 5 72 Tryz.underlying32 hi hz0 hz1 hz2 rfl (by decide) v cs.length vs hs h1 ⟨g, 0, none⟩ 1 1 us hx (by rw [hr.len]; rfl)
  (fun j u hu => by
   rw [Addr.add_lit]
   exact hc j u hu) hr.one (by unfold maxLen; omega) (by omega) hbase ?_
 intro v' w' g1 g2 _ _
 refine h v' w' (zaa ⟨vs ++ us, ?_, Row5.append hr h2⟩) (zaa (zcq h1 hbase g2))
 rw [zG]
 exact g1
theorem take_snocC (cs : List Cl) (j : Nat) (c : Cl) (h : cs[j]? = some c) : cs.take (j + 1) = cs.take j ++ [c] := by rw [List.take_add_one, h]; rfl
theorem SlC.srk {w : World} {ao : Option Addr} {m cap : Nat} {cs : List Cl} (h : SlC w ao m cap cs) : SrK w w ao m cap cs := by
 refine ⟨h.hlen, h.hcap, h.hnil, ?_⟩
 rcases h.hat with h0 | ⟨b, off, e, hb, hc⟩
 ·exact .inl h0
 ·obtain ⟨us, h1, h2⟩ := row5_of cs off hc
  exact .inr ⟨b, off, us, e, hb, h1, h2⟩
theorem app_ks {ops : Array Oper} {rest : List Oper} {o : Oper} {a : Act} {Q : Exit → Act → World → Prop} (w0 w : World) (B : Nat) (hgd : o.guard = none) (s x : Operand)
  (ho : o.op = .call { callee := .builtin .append, args := #[s, x], argTypes := #[32, 32] }) (cs ds : List Cl) (v : Value) (b off n c : Nat) (us : List Value) (hs : a.eval s = v) (hx : a.eval x = .slice (some ⟨b, off, none⟩) n c)
  (hown : OwK w0 B w v cs) (hn : ds.length = n) (hr : Row5 w0 us ds) (hc : ∀ j u, us[j]? = some u → w.cell? ⟨b, off + j, none⟩ = some u) (hb : cs.length + n ≤ 1000000) (hbase : B ≤ w.heap.size)
  (h : ∀ v' w', Hid (OwK w0 B w' v' (cs ++ ds)) → Hid (Below B w w') → wpList Tryz.prog ops Q rest (a.put o.dst v') w') : wpList Tryz.prog ops Q (o :: rest) a w := by
 obtain ⟨i0, hi, hz0, hz1, hz2⟩ := info_parts infoC
 obtain ⟨vs, h1, h2⟩ := hown
 refine wpList_append_own_at w hgd s x 32 ho B 43 i0 _ 5 72 Tryz.underlying32 hi hz0 hz1 hz2 rfl (by decide) v cs.length vs hs h1 ⟨b, off, none⟩ n c us hx (by rw [hr.len, hn])
  (fun j u hu => by
   rw [Addr.add_lit]
   exact hc j u hu) hr.one (by unfold maxLen; omega) (by omega) hbase ?_
 intro v' w' g1 g2 _ _
 refine h v' w' (zaa ⟨vs ++ us, ?_, Row5.append hr h2⟩) (zaa (zcq h1 hbase g2))
 rw [zG, hn]
 exact g1
theorem owk_empty (w0 w : World) (B : Nat) (hB : B ≤ w.heap.size) : OwK w0 B (w.alloc (.cells #[] 43)) (.slice (some ⟨w.heap.size, 0, none⟩) 0 0) [] :=
 ⟨[], ⟨rfl, .inr ⟨w.heap.size, 0, #[], rfl, hB, heap_alloc_last w _, Lr, by unfold maxLen; decide, by simp, by simp⟩⟩, rfl⟩
theorem clone9_any (w : World) (b off m cap : Nat) (cs : List Cl) (hs : SlC w (some ⟨b, off, none⟩) m cap cs) (hm : m ≤ 100000) :
  Calls Tryz.prog 127 #[.slice (some ⟨b, off, none⟩) m cap] w fun e w' => ∃ v', e = .returned v' ∧ Hid (OwK w w.heap.size w' v' cs) ∧ Hid (Below w.heap.size w w') := by
 have hlen := hs.hlen
 obtain ⟨us, hr, hc, hbl⟩ : ∃ us, Row5 w us cs ∧ (∀ j u, us[j]? = some u → w.cell? ⟨b, off + j, none⟩ = some u) ∧ (m = 0 ∨ b < w.heap.size) := by
  rcases hs.srk.hat with h0 | ⟨b', off', us, e, hb, h1, h2⟩
  ·subst h0
   have : cs = [] := List.eq_nil_of_length_eq_zero hlen
   subst this
   exact ⟨[], rfl, fun j u hu => by simp at hu, .inl rfl⟩
  ·injection e with e
   injection e with e1 e2
   subst e1 e2
   exact ⟨us, h1, h2, .inr hb⟩
 obtain ⟨x, hx⟩ : ∃ x, w.alloc (.cells #[] 43) = x := ⟨_, rfl⟩
 have hbx : Below w.heap.size w x := by rw [← hx]; exact zac Br Lr _
 have HR := zaa hr
 have HC : Hid (∀ j u, us[j]? = some u → x.cell? ⟨b, off + j, none⟩ = some u) := zaa fun j u hu => by
  rcases hbl with h0 | hb
  ·have : us = [] := by
    have := hr.len
    rw [hlen, h0] at this
    exact List.eq_nil_of_length_eq_zero (by omega)
   subst this
   simp at hu
  ·exact (hbx.cell (p := ⟨b, off + j, none⟩) hb).trans (hc j u hu)
 have HLN := zaa hlen
 have HO : Hid (OwK w w.heap.size x (.slice (some ⟨w.heap.size, 0, none⟩) 0 0) []) := zaa (by rw [← hx]; exact owk_empty w w w.heap.size Lr)
 have HB0 := zaa hbx
 have he : (binOp .eql 32 (.slice (some ⟨b, off, none⟩) m cap) (.slice none 0 0)).run Tryz.prog w = .ok (.bool false) w := run_eql_slice_nil (P := Tryz.prog) w 32 43 (some ⟨b, off, none⟩) m cap Tryz.underlying32
 clear hs hr hc hbl hlen hbx
 go_enter Tryz.func127, Tryz.ntmps127
 go_wp2_with (at_builtin; refine app_ks w _ w.heap.size rfl _ _ rfl [] cs _ b off m cap us rfl rfl HO.out HLN.out HR.out HC.out (by simp; omega) HB0.out.size ?_; intro v2 u2 HO2 HBU2; refine Hid.out ?_)
 apply zaa
 go_wp2
 go_ret
 exact ⟨v2, rfl, by simpa using HO2, zaa (HB0.out.trans HBU2.out)⟩
theorem rside_any (w : World) (k : Int) (b off m cap : Nat) (cs : List Cl) (hs : SlC w (some ⟨b, off, none⟩) m cap cs) (hm : m ≤ 65536) (h0 : 0 < m) :
  Calls Tryz.prog 66 #[.int .i64 k, .slice (some ⟨b, off, none⟩) m cap] w fun e w' => ∃ g o c, e = .returned (.slice (some ⟨g, o, none⟩) m c) ∧ Hid (SlC w' (some ⟨g, o, none⟩) m c (rsd k cs)) ∧ Hid (Below w.heap.size w w') := by
 by_cases hk : k = 3
 ·subst hk
  have HC := zaa (clone9_any w b off m cap cs hs (by omega))
  have hlen := hs.hlen
  have HLN := zaa hlen
  have hmI : (0 : Int) < (m : Int) := by omega
  have hm0 : ((m : Int) == 0) = false := by simp; omega
  have hmJ : ¬ (m : Int) = 0 := by omega
  have HM : Hid (m ≤ 65536 ∧ 0 < m) := zaa ⟨hm, h0⟩
  clear hs hlen
  go_enter Tryz.func66, Tryz.ntmps66
  go_wp2_with (go_at_call 127; refine HC.out.mono ?_; rintro e w2 ⟨v2, rfl, HO, HB⟩; refine Hid.out ?_)
  apply zaa
  obtain ⟨c, r, hcr⟩ : ∃ c r, cs = c :: r := by
   have h1 := HLN.out
   have h2 := HM.out.2
   cases cs with
   | nil => simp at h1; omega
   | cons c r => exact ⟨c, r, rfl⟩
  obtain ⟨g, cap2, rfl, hgw, hrow⟩ : ∃ g cap2, v2 = .slice (some ⟨g, 0, none⟩) m cap2 ∧ w.heap.size ≤ g ∧ ∃ vs cur, Row5 w vs cs ∧ w2.heap[g]? = some (.cells cur 43 (0, 0)) ∧ m ≤ cap2 ∧ cur.size = cap2 * 5 ∧ cur.toList.take (m * 5) = vs := by
   obtain ⟨vs, h1, h2⟩ := HO.out
   rcases h1.2 with ⟨rfl, h3⟩ | ⟨g, cap2, cur, rfl, hg, hh, hnc, hmx, hss, ht⟩
   ·rw [HLN.out] at h3
    have := HM.out.2
    omega
   ·rw [HLN.out] at hnc ht ⊢
    exact ⟨g, cap2, rfl, hg, vs, cur, h2, hh, hnc, by omega, ht⟩
  obtain ⟨vs, cur, hr5, hh, hcap2, hsz, htk⟩ := hrow
  have HG := zaa hgw
  have HROW := zaa (And.intro hr5 (And.intro hh (And.intro hcap2 (And.intro hsz htk))))
  have f0 : w2.frozen? ⟨g, 0, none⟩ = false := by simp [World.frozen?, hh]
  have c0' : (w2.cell? ⟨g, 0, none⟩).isSome = true := by simp [World.cell?, hh]; have := HM.out; omega
  obtain ⟨x0, hx0⟩ := Option.isSome_iff_exists.1 c0'
  clear hr5 hh hsz htk HC HO c0' hgw
  go_wp2
  go_ret
  obtain ⟨hr5, hh, hcap2, hsz, htk⟩ := HROW.out
  have hset : (w2.setCell ⟨g, 0, none⟩ (.slice none 0 0)).heap[g]? = some (.cells (cur.setIfInBounds 0 (.slice none 0 0)) 43 (0, 0)) := by
   first | exact Lib.heap_setCell_same (i := 0) hh _ | exact World.heap_setCell_same hh _
  have hbe : Below w.heap.size w (w2.setCell ⟨g, 0, none⟩ (.slice none 0 0)) := HB.out.setCell (p := ⟨g, 0, none⟩) HG.out _
  refine ⟨g, 0, cap2, rfl, zaa ?_, zaa hbe⟩
  subst hcr
  rw [zcz, if_pos rfl]
  obtain ⟨ka, kc, va, vc, t, rfl, g1, g2, g3⟩ := hr5
  have hm := HM.out
  have hlen := HLN.out
  refine ⟨by simpa using hlen, hcap2, by omega, (fun e => by cases e), .inr ⟨g, 0, rfl, zah hset, ?_⟩⟩
  refine Row5.cat hbe 0 (vs := .slice none 0 0 :: .int .i64 c.kd :: .slice va c.val.length vc :: .int .i64 c.pg :: .int .i64 c.ct :: t) (cs := noKey c :: r) ⟨none, 0, va, vc, t, rfl, Sl.nil_any _ _ _ (fun _ => rfl), g2, g3⟩ ?_
  intro j u hu
  rw [Nat.zero_add]
  have hcell : ∀ j, (w2.setCell ⟨g, 0, none⟩ (.slice none 0 0)).cell? ⟨g, j, none⟩ = (cur.setIfInBounds 0 (.slice none 0 0))[j]? := fun j => by simp [World.cell?, hset]
  rw [hcell, Array.getElem?_setIfInBounds]
  by_cases hj : j = 0
  ·subst hj
   simp at hu
   subst hu
   rw [if_pos rfl, if_pos (by omega)]
  ·rw [if_neg (by omega)]
   have h5 : (cur.toList.take (m * 5))[j]? = some u := by
    rw [htk]
    obtain ⟨i, rfl⟩ : ∃ i, j = i + 1 := ⟨j - 1, by omega⟩
    simpa using hu
   have h6 := (zH.1 h5).1
   rw [zJ] at h6
   rw [List.getElem?_take_of_lt (by omega)] at h5
   simpa using h5
 ·have hkb : (k != 3) = true := by simpa using hk
  have HS : Hid (SlC w (some ⟨b, off, none⟩) m cap (rsd k cs)) := zaa (by unfold rsd; rw [if_neg hk]; exact hs)
  clear hs
  go_enter Tryz.func66, Tryz.ntmps66
  go_wp2
  go_ret
  exact ⟨b, off, cap, rfl, HS, zaa Br⟩
def B8 (t : TypeId) (w : World) (g : Nat) (x0 x1 x2 x3 x4 x5 x6 x7 : Value) : Prop := w.heap[g]? = some (.cells #[x0, x1, x2, x3, x4, x5, x6, x7] t (0, 0))
section
variable {t : TypeId} {w w' : World} {g : Nat} {x0 x1 x2 x3 x4 x5 x6 x7 : Value}
theorem B8.cells (h : B8 t w g x0 x1 x2 x3 x4 x5 x6 x7) :
  w.cell? ⟨g, 0, none⟩ = some x0 ∧ w.cell? ⟨g, 1, none⟩ = some x1 ∧ w.cell? ⟨g, 2, none⟩ = some x2 ∧ w.cell? ⟨g, 3, none⟩ = some x3 ∧ w.cell? ⟨g, 4, none⟩ = some x4 ∧ w.cell? ⟨g, 5, none⟩ = some x5 ∧ w.cell? ⟨g, 6, none⟩ = some x6 ∧ w.cell? ⟨g, 7, none⟩ = some x7 := by
 unfold B8 at h
 refine ⟨?_, ?_, ?_, ?_, ?_, ?_, ?_, ?_⟩ <;> (rw [cell_of_row _ _ _ _ _ _ h]; rfl)
theorem B8.free (h : B8 t w g x0 x1 x2 x3 x4 x5 x6 x7) : w.frozen? ⟨g, 0, none⟩ = false ∧ w.frozen? ⟨g, 1, none⟩ = false ∧ w.frozen? ⟨g, 2, none⟩ = false ∧ w.frozen? ⟨g, 3, none⟩ = false ∧ w.frozen? ⟨g, 4, none⟩ = false ∧ w.frozen? ⟨g, 5, none⟩ = false ∧ w.frozen? ⟨g, 6, none⟩ = false ∧ w.frozen? ⟨g, 7, none⟩ = false := by
 unfold B8 at h
 simp [World.frozen?, h]
theorem B8.cf {F : Nat → Prop} (h : B8 t w g x0 x1 x2 x3 x4 x5 x6 x7) (hc : Cf F w w') (hg : ¬ F g) : B8 t w' g x0 x1 x2 x3 x4 x5 x6 x7 := (hc.block g (zah h) hg).trans h
end
theorem B8.set {t : TypeId} {w : World} {g : Nat} {x0 x1 x2 x3 x4 x5 x6 x7 : Value} (h : B8 t w g x0 x1 x2 x3 x4 x5 x6 x7) (y : Value) :
  B8 t (w.setCell ⟨g, 0, none⟩ y) g y x1 x2 x3 x4 x5 x6 x7 ∧ B8 t (w.setCell ⟨g, 1, none⟩ y) g x0 y x2 x3 x4 x5 x6 x7 ∧ B8 t (w.setCell ⟨g, 2, none⟩ y) g x0 x1 y x3 x4 x5 x6 x7 ∧ B8 t (w.setCell ⟨g, 3, none⟩ y) g x0 x1 x2 y x4 x5 x6 x7 ∧ B8 t (w.setCell ⟨g, 4, none⟩ y) g x0 x1 x2 x3 y x5 x6 x7 ∧ B8 t (w.setCell ⟨g, 5, none⟩ y) g x0 x1 x2 x3 x4 y x6 x7 ∧ B8 t (w.setCell ⟨g, 6, none⟩ y) g x0 x1 x2 x3 x4 x5 y x7 ∧ B8 t (w.setCell ⟨g, 7, none⟩ y) g x0 x1 x2 x3 x4 x5 x6 y := by
 unfold B8 at *
 refine ⟨?_, ?_, ?_, ?_, ?_, ?_, ?_, ?_⟩
 ·simpa using zam (w := w) (a := g) (i := 0) (cs := [x0, x1, x2, x3, x4, x5, x6, x7]) (u := y) h
 ·simpa using zam (w := w) (a := g) (i := 1) (cs := [x0, x1, x2, x3, x4, x5, x6, x7]) (u := y) h
 ·simpa using zam (w := w) (a := g) (i := 2) (cs := [x0, x1, x2, x3, x4, x5, x6, x7]) (u := y) h
 ·simpa using zam (w := w) (a := g) (i := 3) (cs := [x0, x1, x2, x3, x4, x5, x6, x7]) (u := y) h
 ·simpa using zam (w := w) (a := g) (i := 4) (cs := [x0, x1, x2, x3, x4, x5, x6, x7]) (u := y) h
 ·simpa using zam (w := w) (a := g) (i := 5) (cs := [x0, x1, x2, x3, x4, x5, x6, x7]) (u := y) h
 ·simpa using zam (w := w) (a := g) (i := 6) (cs := [x0, x1, x2, x3, x4, x5, x6, x7]) (u := y) h
 ·simpa using zam (w := w) (a := g) (i := 7) (cs := [x0, x1, x2, x3, x4, x5, x6, x7]) (u := y) h
def put8 (w : World) (g : Nat) (y0 y1 y2 y3 y4 y5 y6 y7 : Value) : World := (((((((w.setCell ⟨g, 0, none⟩ y0).setCell ⟨g, 1, none⟩ y1).setCell ⟨g, 2, none⟩ y2).setCell ⟨g, 3, none⟩ y3).setCell ⟨g, 4, none⟩ y4).setCell ⟨g, 5, none⟩ y5).setCell ⟨g, 6, none⟩ y6).setCell ⟨g, 7, none⟩ y7
theorem B8.put {t : TypeId} {w : World} {g : Nat} {x0 x1 x2 x3 x4 x5 x6 x7 : Value} (h : B8 t w g x0 x1 x2 x3 x4 x5 x6 x7) (y0 y1 y2 y3 y4 y5 y6 y7 : Value) : B8 t (put8 w g y0 y1 y2 y3 y4 y5 y6 y7) g y0 y1 y2 y3 y4 y5 y6 y7 :=
 (((((((((h.set y0).1).set y1).2.1.set y2).2.2.1.set y3).2.2.2.1.set y4).2.2.2.2.1.set y5).2.2.2.2.2.1.set y6).2.2.2.2.2.2.1.set y7).2.2.2.2.2.2.2
theorem zca (w : World) (g : Nat) (y0 y1 y2 y3 y4 y5 y6 y7 : Value) : Cf (· = g) w (put8 w g y0 y1 y2 y3 y4 y5 y6 y7) := (((((((Cf.set _ _ _ _).go (Cf.set _ _ _ _)).go (Cf.set _ _ _ _)).go (Cf.set _ _ _ _)).go (Cf.set _ _ _ _)).go (Cf.set _ _ _ _)).go (Cf.set _ _ _ _)).go (Cf.set _ _ _ _)
theorem sizeAn : (Tryz.prog.info? 66).map (·.size) = some 8 := by kernel_rfl
abbrev opV (kd x : Int) (c : Cl) (ka : Option Addr) (kc : Nat) (va : Option Addr) (vc : Nat) (qa : Option Addr) (qn qc : Nat) : Value := .agg #[.int .i64 kd, .int .i64 x, .slice ka c.key.length kc, .int .i64 c.kd, .slice va c.val.length vc, .int .i64 c.pg, .int .i64 c.ct, .slice qa qn qc]
end Go.Proofs.YtofafbmpbkjhnaaGreatDoor
