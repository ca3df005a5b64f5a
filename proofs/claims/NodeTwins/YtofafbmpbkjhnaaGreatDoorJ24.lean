import Derived.Test.YtofafbmpbkjhnaaGreatDoorJ15
import Derived.Lib.SlBytesConst
import Derived.Test.YtofafbmpbkjhnaaGreatDoorJ22
import Derived.Test.YtofafbmpbkjhnaaGreatDoorJ23
import Derived.Deep.MidRow
import Derived.Deep.Upon
import Derived.Laws.IdiomCopy
import Derived.Deep.RegionLaw
namespace Go.Proofs.YtofafbmpbkjhnaaGreatDoor
set_option maxRecDepth 100000
set_option maxHeartbeats 2000000
open Go.RowKit
theorem pw512 : pw 512 := by decide
theorem isKd2 : isKd 2 := by decide
theorem conv6H (w : World) (C : Array Value) (n c H : Nat) (hH : w.heap.size = H) : (convert 41 41 (.slice (some ⟨H, 0, none⟩) n c)).run Tryz.prog (w.alloc (.cells C 5)) = .ok (.slice (some ⟨H, 0, none⟩) n c) (w.alloc (.cells C 5 (C.size, C.size + 1))) := by
 subst hH
 exact Lib.run_convert_bytes_const (P := Tryz.prog) w 41 5 C n c Tryz.underlying41 Tryz.underlying5
theorem sl_lit (u : World) (C : List Int) (n : Nat) (fr : Nat × Nat) (g : Nat) (h : u.heap[g]? = some (.cells (By C).toArray 5 fr)) (hn : C.length = n) (hw : Wf C) (hb : n ≤ 65536) : Sl u (some ⟨g, 0, none⟩) n n C := by
 refine ⟨hn, Lr, by omega, hw, (by intro h; cases h), .inr ⟨g, 0, rfl, zah h, fun i hi => ?_⟩⟩
 rw [Nat.zero_add, cell_of_row _ _ i _ _ _ h]
 simp [By, List.getD, zI (show i < C.length by omega)]
theorem sameCell_self (c : Cl) (ka ka' va va' : Option Addr) (kc kc' vc vc' : Nat) (w : World) (h1 : Sl w ka c.key.length kc c.key) (h2 : Sl w ka' c.key.length kc' c.key) (h3 : Sl w va c.val.length vc c.val) (h4 : Sl w va' c.val.length vc' c.val) :
  Calls Tryz.prog 36 #[.agg #[.slice ka c.key.length kc, .int .i64 c.kd, .slice va c.val.length vc, .int .i64 c.pg, .int .i64 c.ct], .agg #[.slice ka' c.key.length kc', .int .i64 c.kd, .slice va' c.val.length vc', .int .i64 c.pg, .int .i64 c.ct]] w fun e w' => e = .returned (.bool true) ∧ Below w.heap.size w w' := by
 obtain ⟨x, hx⟩ : ∃ x, ((w.alloc (.cells #[.slice ka c.key.length kc, .int .i64 c.kd, .slice va c.val.length vc, .int .i64 c.pg, .int .i64 c.ct] 43)).alloc (.cells #[.slice ka' c.key.length kc', .int .i64 c.kd, .slice va' c.val.length vc', .int .i64 c.pg, .int .i64 c.ct] 43)) = x := ⟨_, rfl⟩
 have hb : Below w.heap.size w x := by rw [← hx]; exact zac (zac Br Lr _) Lr _
 have k1 : ∀ q, (convert 41 9 (.slice ka c.key.length kc)).run Tryz.prog (x.drewN q) = .ok (.string (strOfNums c.key)) (x.drewN q) := fun q => zbo ((h1.on Lr hb).drewN q)
 have k2 : ∀ q, (convert 41 9 (.slice ka' c.key.length kc')).run Tryz.prog (x.drewN q) = .ok (.string (strOfNums c.key)) (x.drewN q) := fun q => zbo ((h2.on Lr hb).drewN q)
 have k3 : ∀ q, (convert 41 9 (.slice va c.val.length vc)).run Tryz.prog (x.drewN q) = .ok (.string (strOfNums c.val)) (x.drewN q) := fun q => zbo ((h3.on Lr hb).drewN q)
 have k4 : ∀ q, (convert 41 9 (.slice va' c.val.length vc')).run Tryz.prog (x.drewN q) = .ok (.string (strOfNums c.val)) (x.drewN q) := fun q => zbo ((h4.on Lr hb).drewN q)
 have j1 := zbo (h1.on Lr hb)
 have j2 := zbo (h2.on Lr hb)
 have j3 := zbo (h3.on Lr hb)
 have j4 := zbo (h4.on Lr hb)
 have hz1 : (w.alloc (.cells #[.slice ka c.key.length kc, .int .i64 c.kd, .slice va c.val.length vc, .int .i64 c.pg, .int .i64 c.ct] 43)).heap.size = w.heap.size + 1 := by simp
 have b1 : C5 x w.heap.size (.slice ka c.key.length kc) (.int .i64 c.kd) (.slice va c.val.length vc) (.int .i64 c.pg) (.int .i64 c.ct) := by
  rw [← hx]
  exact zaf (C5.box w _ _ _ _ _) (zac Br Lr _)
 have b2 : C5 x (w.heap.size + 1) (.slice ka' c.key.length kc') (.int .i64 c.kd) (.slice va' c.val.length vc') (.int .i64 c.pg) (.int .i64 c.ct) := by
  rw [← hx, ← hz1]
  exact C5.box _ _ _ _ _ _
 obtain ⟨c0, c1, c2, c3, c4⟩ := b1.cells
 obtain ⟨d0, d1, d2, d3, d4⟩ := b2.cells
 have HB := zaa hb
 clear h1 h2 h3 h4 hb b1 b2 hz1
 go_enter Tryz.func36, Tryz.ntmps36
 go_wp2
 go_ret
 exact ⟨rfl, HB.out⟩
theorem sameCells_self (ao bo : Option Addr) (n c d : Nat) (cs : List Cl) (w : World) (ha : SlC w ao n c cs) (hb : SlC w bo n d cs) :
  Calls Tryz.prog 19 #[.slice ao n c, .slice bo n d] w fun e w' => e = .returned (.bool true) ∧ Hid (Below w.heap.size w w') := by
 have HA := zaa ha
 have HC := zaa hb
 have hn := ha.hroom
 clear ha hb
 go_enter Tryz.func19, Tryz.ntmps19
 go_wp2_with fail
 go_loopw [5] (fun i wr => ∃ j : Nat, j ≤ n ∧ i = .int .i64 j ∧ Hid (Below w.heap.size w wr)) (fun i _ => n - (intOf i).toNat)
 case atStart => exact ⟨0, by omega, rfl, zaa Br⟩
 case round =>
  obtain ⟨j, hj, rfl, HB⟩ := hrel
  have bj : (j : Int) ≤ 140737488355328 := by omega
  by_cases hlt : j < n
  ·have hltI : (j : Int) < (n : Int) := by omega
   obtain ⟨b, off, x, ka, kc, va, vc, rfl, hb, hci, c0, c1, c2, c3, c4, hk, hv⟩ := (HA.out.on HB.out).item j hlt
   obtain ⟨b', off', x', ka', kc', va', vc', rfl, hb', hci', d0, d1, d2, d3, d4, hk', hv'⟩ := (HC.out.on HB.out).item j hlt
   rw [hci] at hci'
   injection hci' with hxx
   subst hxx
   have HS : Hid (∀ u, Below wr.heap.size wr u → Calls Tryz.prog 36 #[.agg #[.slice ka x.key.length kc, .int .i64 x.kd, .slice va x.val.length vc, .int .i64 x.pg, .int .i64 x.ct], .agg #[.slice ka' x.key.length kc', .int .i64 x.kd, .slice va' x.val.length vc', .int .i64 x.pg, .int .i64 x.ct]] u fun e w' => e = .returned (.bool true) ∧ Below wr.heap.size wr w') :=
    zaa fun u hu => (sameCell_self x ka ka' va va' kc kc' vc vc' u (hk.on Lr hu) (hk'.on Lr hu) (hv.on Lr hu) (hv'.on Lr hu)).mono fun e w' h => ⟨h.1, zab hu Lr h.2⟩
   clear hk hk' hv hv' hci
   go_wp2_with fail
   go_region_with (first | (go_at_call 36; refine (HS.out _ ?_).mono ?_; (repeat (first | exact Br | apply Below.drew | apply below_drewN)); rintro e w1 ⟨rfl, hb1⟩))
   all_goals
    go_wp2
    go_roundw
    case rel => exact ⟨j + 1, by omega, by go_num, zaa (zab HB.out Lr hb1)⟩
    case measure => simp [intOf]; omega
  ·obtain rfl : j = n := by omega
   have hlI : ¬ (j : Int) < (j : Int) := by omega
   go_wp2
   go_ret
   exact ⟨rfl, HB⟩
def Rs (cs : List Cl) : Prop := cs.Pairwise fun c d => kl c.key d.key
theorem chk_of {k p : Int} : ∀ (pr : Option (List Int)) (ds : List Cl), (∀ c ∈ ds, mayP k p c) → Rs ds → (∀ c ∈ ds, zat pr c.key) → chk k p pr ds = 0
 | _, [], _, _, _ => rfl
 | pr, c :: r, h1, h2, h3 => by
  unfold Rs at h2
  rw [List.pairwise_cons] at h2
  rw [chk, if_pos (h1 c (by simp)), if_pos (h3 c (by simp))]
  exact chk_of _ r (fun d hd => h1 d (by simp [hd])) h2.2 (fun d hd => h2.1 d hd)
def Row5 (w : World) : List Value → List Cl → Prop
 | vs, [] => vs = []
 | vs, c :: r => ∃ ka kc va vc t, vs = .slice ka c.key.length kc :: .int .i64 c.kd :: .slice va c.val.length vc :: .int .i64 c.pg :: .int .i64 c.ct :: t ∧ Sl w ka c.key.length kc c.key ∧ Sl w va c.val.length vc c.val ∧ Row5 w t r
theorem Row5.append {w : World} {us : List Value} {ds : List Cl} (g : Row5 w us ds) : ∀ {vs : List Value} {cs : List Cl}, Row5 w vs cs → Row5 w (vs ++ us) (cs ++ ds)
 | vs, [], h => by
  unfold Row5 at h
  subst h
  exact g
 | vs, c :: r, h => by
  obtain ⟨ka, kc, va, vc, t, rfl, h1, h2, h3⟩ := h
  exact ⟨ka, kc, va, vc, t ++ us, rfl, h1, h2, Row5.append g h3⟩
theorem Row5.len {w : World} : ∀ {vs : List Value} {cs : List Cl}, Row5 w vs cs → vs.length = cs.length * 5
 | vs, [], h => by
  unfold Row5 at h
  subst h
  rfl
 | vs, c :: r, h => by
  obtain ⟨ka, kc, va, vc, t, rfl, h1, h2, h3⟩ := h
  have := h3.len
  simp only [List.length_cons]
  omega
theorem Row5.one {w : World} : ∀ {vs : List Value} {cs : List Cl}, Row5 w vs cs → ∀ u ∈ vs, u.oneCell' = true
 | vs, [], h, u, hu => by
  unfold Row5 at h
  subst h
  cases hu
 | vs, c :: r, h, u, hu => by
  obtain ⟨ka, kc, va, vc, t, rfl, h1, h2, h3⟩ := h
  simp only [List.mem_cons] at hu
  rcases hu with rfl | rfl | rfl | rfl | rfl | hu
  ·rfl
  ·rfl
  ·rfl
  ·rfl
  ·rfl
  ·exact h3.one u hu
theorem Row5.cat {w w' : World} {b : Nat} (hB : Below w.heap.size w w') : ∀ {vs : List Value} {cs : List Cl} (off : Nat), Row5 w vs cs → (∀ j u, vs[j]? = some u → w'.cell? ⟨b, off + j, none⟩ = some u) → ∀ i c, cs[i]? = some c → CAt w' b (off + i * 5) c
 | vs, [], off, h, hc, i, c, hi => by simp at hi
 | vs, d :: r, off, h, hc, 0, c, hi => by
  obtain ⟨ka, kc, va, vc, t, rfl, h1, h2, h3⟩ := h
  simp at hi
  subst hi
  exact ⟨ka, kc, va, vc, hc 0 _ rfl, hc 1 _ rfl, hc 2 _ rfl, hc 3 _ rfl, hc 4 _ rfl, h1.on Lr hB, h2.on Lr hB⟩
 | vs, d :: r, off, h, hc, i + 1, c, hi => by
  obtain ⟨ka, kc, va, vc, t, rfl, h1, h2, h3⟩ := h
  have := Row5.cat hB (off + 5) h3 (fun j u hu => by
   have := hc (j + 5) u (by simpa using hu)
   rwa [show off + (j + 5) = off + 5 + j by omega] at this) i c (by simpa using hi)
  rwa [show off + 5 + i * 5 = off + (i + 1) * 5 by omega] at this
theorem row5_of {w : World} {b : Nat} : ∀ (cs : List Cl) (off : Nat), (∀ i c, cs[i]? = some c → CAt w b (off + i * 5) c) → ∃ vs, Row5 w vs cs ∧ ∀ j u, vs[j]? = some u → w.cell? ⟨b, off + j, none⟩ = some u
 | [], off, _ => ⟨[], rfl, fun j u hu => by simp at hu⟩
 | c :: r, off, h => by
  obtain ⟨t, h1, h2⟩ := row5_of r (off + 5) fun i d hd => by
   have := h (i + 1) d (by simpa using hd)
   rwa [show off + (i + 1) * 5 = off + 5 + i * 5 by omega] at this
  obtain ⟨ka, kc, va, vc, c0, c1, c2, c3, c4, hk, hv⟩ := h 0 c rfl
  refine ⟨_, ⟨ka, kc, va, vc, t, rfl, hk, hv, h1⟩, fun j u hu => ?_⟩
  match j, hu with
  | 0, hu => simp at hu; subst hu; simpa using c0
  | 1, hu => simp at hu; subst hu; simpa using c1
  | 2, hu => simp at hu; subst hu; simpa using c2
  | 3, hu => simp at hu; subst hu; simpa using c3
  | 4, hu => simp at hu; subst hu; simpa using c4
  | j + 5, hu =>
   have := h2 j u (by simpa using hu)
   rwa [show off + 5 + j = off + (j + 5) by omega] at this
end Go.Proofs.YtofafbmpbkjhnaaGreatDoor
namespace Go.Proofs.YtofafbmpbkjhnaaGreatDoor
set_option maxRecDepth 100000
set_option maxHeartbeats 2000000
theorem lcp_take : ∀ (a b : List Int) (n : Nat), n ≤ a.length → lcp (a.take n) b = min n (lcp a b)
 | a, b, 0, _ => by simp [lcp]
 | [], b, n + 1, h => by simp at h
 | x :: a, [], n + 1, _ => by simp [lcp]
 | x :: a, y :: b, n + 1, h => by
  have ih := lcp_take a b n (by simpa using h)
  simp only [List.take_succ_cons, lcp]
  split
  ·rw [ih]; omega
  ·omega
theorem lcp_self : ∀ (a : List Int), lcp a a = a.length
 | [] => rfl
 | x :: a => by simp [lcp, lcp_self a]
theorem lcp_take_eq : ∀ (a b : List Int), a.take (lcp a b) = b.take (lcp a b)
 | [], _ => by simp [lcp]
 | _ :: _, [] => by simp [lcp]
 | x :: a, y :: b => by
  simp only [lcp]
  split
  ·next h => subst h; simp [lcp_take_eq a b]
  ·simp
theorem lcp_between : ∀ (a b c : List Int), kl a b → kl b c → lcp a c ≤ lcp a b
 | [], _, _, _, _ => by simp [lcp]
 | _ :: _, [], _, h, _ => by simp [kl, ordL] at h
 | _ :: _, _ :: _, [], _, h => by simp [kl, ordL] at h
 | x :: a, y :: b, z :: c, h, g => by
  have ih := lcp_between a b c
  unfold kl at *
  simp only [ordL, lcp] at *
  by_cases e : x = z
  ·subst e
   by_cases h1 : x < y
   ·have : ¬ y < x := by omega
    rw [if_neg this, if_pos h1] at g
    cases g
   ·rw [if_neg h1] at h
    by_cases h2 : y < x
    ·rw [if_pos h2] at h
     cases h
    ·obtain rfl : x = y := by omega
     simp only [if_true]
     rw [if_neg h1, if_neg h2] at g
     rw [if_neg h2] at h
     have := ih h g
     omega
  ·rw [if_neg e]
   omega
def shn (a : List Int) : List Cl → Nat
 | [] => a.length
 | d :: r => min (lcp a d.key) (shn a r)
theorem shn_le (a : List Int) : ∀ (r : List Cl), shn a r ≤ a.length
 | [] => Lr
 | d :: r => by have := shn_le a r; unfold shn; omega
theorem shn_key (a : List Int) : ∀ (r : List Cl) (d : Cl), d ∈ r → shn a r ≤ d.key.length ∧ d.key.take (shn a r) = a.take (shn a r)
 | [], d, h => by cases h
 | e :: r, d, h => by
  have h1 := lcp_le a e.key
  have h2 := lcp_take_eq a e.key
  unfold shn
  rcases List.mem_cons.1 h with rfl | h
  ·refine ⟨by omega, ?_⟩
   have e1 := congrArg (List.take (min (lcp a d.key) (shn a r))) h2
   rw [List.take_take, List.take_take, Nat.min_eq_left (by omega)] at e1
   exact e1.symm
  ·have ih := shn_key a r d h
   refine ⟨by omega, ?_⟩
   have e1 := congrArg (List.take (min (lcp a e.key) (shn a r))) ih.2
   rw [List.take_take, List.take_take, Nat.min_eq_left (by omega)] at e1
   exact e1
theorem shn_most (a P : List Int) (ha : a.take P.length = P) : ∀ (r : List Cl), (∀ d ∈ r, d.key.take P.length = P) → P.length ≤ shn a r
 | [], _ => by
  unfold shn
  have := congrArg List.length ha
  rw [zJ] at this
  omega
 | d :: r, h => by
  have ih := shn_most a P ha r fun e he => h e (by simp [he])
  have hd := h d (by simp)
  unfold shn
  have l1 := congrArg List.length ha
  have l2 := congrArg List.length hd
  rw [zJ] at l1 l2
  have key : P.length ≤ lcp a d.key := by
   rcases Nat.lt_or_ge (lcp a d.key) P.length with hlt | hge
   ·exfalso
    have hn := lcp_next a d.key (by omega) (by omega)
    apply hn
    have e : a.take P.length = d.key.take P.length := by rw [ha, hd]
    have e2 := congrArg (fun l => List.getD l (lcp a d.key) 0) e
    simp only [List.getD_eq_getElem?_getD] at e2 ⊢
    rwa [List.getElem?_take_of_lt hlt, List.getElem?_take_of_lt hlt] at e2
   ·exact hge
  omega
theorem shn_last (a : List Int) : ∀ (r : List Cl) (z : Cl), r.getLast? = some z → (∀ d ∈ r, kl a d.key) → Rs r → shn a r = lcp a z.key
 | [], z, h, _, _ => by simp at h
 | [d], z, h, _, _ => by
  simp at h
  subst h
  have := (lcp_le a d.key).1
  unfold shn shn
  omega
 | d :: e :: r, z, h, ha, hr => by
  unfold Rs at hr
  rw [List.pairwise_cons] at hr
  have hz : (e :: r).getLast? = some z := by simpa using h
  have ih := shn_last a (e :: r) z hz (fun x hx => ha x (by simp [List.mem_cons.1 hx])) hr.2
  have hzm : z ∈ e :: r := List.mem_of_getLast? hz
  have := lcp_between a d.key z.key (ha d (by simp)) (hr.1 z hzm)
  rw [shn, ih]
  omega
def ktl (k : Int) (cs : List Cl) : List Cl := if k = 3 then cs.tail else cs
def shr : List Cl → List Int
 | [] => []
 | c :: r => c.key.take (shn c.key r)
def shP (k : Int) (cs : List Cl) : List Int := shr (ktl k cs)
def Beg (k : Int) (P : List Int) (cs : List Cl) : Prop := ∀ c ∈ ktl k cs, c.key.take P.length = P
theorem shr_beg : ∀ (l : List Cl), ∀ c ∈ l, c.key.take (shr l).length = shr l
 | [], c, h => by cases h
 | d :: r, c, h => by
  have hl : (shr (d :: r)).length = shn d.key r := by
   have := shn_le d.key r
   unfold shr
   rw [zJ]
   omega
  rw [hl]
  rcases List.mem_cons.1 h with rfl | h
  ·rfl
  ·exact (shn_key d.key r c h).2
theorem zbz (k : Int) (cs : List Cl) : Beg k (shP k cs) cs := fun c hc => shr_beg _ c hc
theorem shP_most {k : Int} {P : List Int} {cs : List Cl} (h : Beg k P cs) (hn : ktl k cs ≠ []) : P.length ≤ (shP k cs).length := by
 unfold Beg at h
 unfold shP
 cases hk : ktl k cs with
 | nil => exact absurd hk hn
 | cons c r =>
  rw [hk] at h
  have := shn_most c.key P (h c (by simp)) r fun d hd => h d (by simp [hd])
  have h2 := shn_le c.key r
  unfold shr
  rw [zJ]
  omega
theorem shP_nil {k : Int} {cs : List Cl} (h : ktl k cs = []) : shP k cs = [] := by unfold shP; rw [h]; rfl
theorem uBf_mono (f : Nat) : ∀ a b : Int, 0 ≤ a → a ≤ b → (uBf f a).length ≤ (uBf f b).length := by
 induction f with
 | zero => intro a b _ _; simp [uBf]
 | succ f ih =>
  intro a b h0 h
  rw [uBf, uBf]
  by_cases h1 : a < 128
  ·rw [if_pos h1]
   split
   ·simp
   ·have := (uBf_length f (b / 128)).2
    simp only [List.length_cons, List.length_nil]
    omega
  ·rw [if_neg h1, if_neg (by omega)]
   have := ih (a / 128) (b / 128) (by omega) (by omega)
   simp only [List.length_cons]
   omega
theorem tL_less (x d : Nat) (h : d ≤ x) : tL (x - d) + d ≤ tL x := by
 unfold tL
 have := uBf_mono 9 ((x - d : Nat) : Int) (x : Int) (by omega) (by omega)
 unfold uB
 omega
theorem qtk_less (m m' : Nat) (c : Cl) (h : m ≤ m') (hm : m' ≤ c.key.length) : qtk m' c + (m' - m) ≤ qtk m c := by
 have := tL_less (c.key.length - m) (m' - m) (by omega)
 rw [show c.key.length - m - (m' - m) = c.key.length - m' by omega] at this
 unfold qtk
 omega
def qbd (m : Nat) : Bool → List Cl → List Int
 | _, [] => []
 | f, c :: r => qB (if f then 0 else m) c ++ qbd m false r
def qst (m : Nat) : Bool → Nat → List Cl → List Nat
 | _, _, [] => []
 | f, b, c :: r => b :: qst m false (b + (qB (if f then 0 else m) c).length) r
def qsm (m : Nat) : Bool → List Cl → Nat
 | _, [] => 0
 | f, c :: r => qtk (if f then 0 else m) c + qsm m false r
def whl (k : Int) : Bool := decide (k = 3)
def szQ (k : Int) (m : Nat) (cs : List Cl) : Nat := 10 + m + qsm m (whl k) cs
theorem qsm_eq (m : Nat) : ∀ (f : Bool) (cs : List Cl), qsm m f cs = 2 * cs.length + (qbd m f cs).length
 | _, [] => rfl
 | f, c :: r => by
  have h1 := qB_length (if f then 0 else m) c
  have h2 := qsm_eq m false r
  simp only [qsm, qbd, List.length_cons, zG]
  omega
theorem zcn (m : Nat) : ∀ (f : Bool) (b : Nat) (cs : List Cl), (qst m f b cs).length = cs.length
 | _, _, [] => rfl
 | f, b, c :: r => by simp [qst, zcn m false _ r]
theorem qst_shift (m : Nat) : ∀ (f : Bool) (a b : Nat) (cs : List Cl), qst m f (a + b) cs = (qst m f b cs).map (a + ·)
 | _, _, _, [] => rfl
 | f, a, b, c :: r => by
  simp only [qst, List.map_cons, List.cons.injEq, true_and]
  rw [Nat.add_assoc]
  exact qst_shift m false a _ r
theorem qsm_less (m m' : Nat) (h : m ≤ m') : ∀ (cs : List Cl), (∀ c ∈ cs, m' ≤ c.key.length) → qsm m' false cs + (m' - m) * cs.length ≤ qsm m false cs
 | [], _ => by simp [qsm]
 | c :: r, hc => by
  have h1 := qsm_less m m' h r fun d hd => hc d (by simp [hd])
  have h2 := qtk_less m m' c h (hc c (by simp))
  simp only [qsm, List.length_cons, Nat.mul_add, Nat.mul_one]
  simp only [Bool.false_eq_true, if_false]
  omega
theorem beg_len {P : List Int} {c : Cl} (h : c.key.take P.length = P) : P.length ≤ c.key.length := by
 have := congrArg List.length h
 rw [zJ] at this
 omega
theorem szQ_less {k : Int} {P : List Int} {cs : List Cl} (h : Beg k P cs) : szQ k (shP k cs).length cs ≤ szQ k P.length cs := by
 have hs := zbz k cs
 by_cases hn : ktl k cs = []
 ·rw [shP_nil hn]
  unfold szQ ktl at *
  by_cases hk : k = 3
  ·rw [if_pos hk] at hn
   match cs, hn with
   | [], _ => simp [qsm]
   | [c], _ => simp [qsm, whl, hk]
  ·rw [if_neg hk] at hn
   subst hn
   simp [qsm]
 ·have hm := shP_most h hn
  have hc : ∀ c ∈ ktl k cs, (shP k cs).length ≤ c.key.length := fun c hc => beg_len (hs c hc)
  generalize (shP k cs).length = m' at *
  have hq := qsm_less P.length m' hm (ktl k cs) hc
  have h1 : 1 ≤ (ktl k cs).length := List.length_pos_iff.2 hn
  have h2 : m' - P.length ≤ (m' - P.length) * (ktl k cs).length := Nat.le_mul_of_pos_right _ h1
  unfold szQ ktl at *
  by_cases hk : k = 3
  ·rw [if_pos hk] at *
   match cs, hn with
   | c :: r, _ =>
    simp only [List.tail_cons] at hq h2
    simp only [qsm, whl, hk, decide_true, if_true]
    omega
  ·rw [if_neg hk] at *
   simp only [whl, hk, decide_false]
   omega
end Go.Proofs.YtofafbmpbkjhnaaGreatDoor
namespace Go.Proofs.YtofafbmpbkjhnaaGreatDoor
set_option maxRecDepth 100000
set_option maxHeartbeats 2000000
def pkL (k : Int) (n : Nat) (P : List Int) (cs : List Cl) : List Int := [k, 2] ++ (fB 2 cs.length ++ (fB 2 P.length ++ (P ++ (sloB (qst P.length (whl k) (6 + P.length + 2 * cs.length) cs) ++ (qbd P.length (whl k) cs ++ zs (n - szQ k P.length cs))))))
def pkH (k : Int) (n : Nat) (cs : List Cl) : List Int := pkL k n (shP k cs) cs
def pkB (k : Int) (n : Nat) (cs : List Cl) : List Int := sealB (pkH k n cs)
theorem szQ_eq (k : Int) (m : Nat) (cs : List Cl) : szQ k m cs = 10 + m + 2 * cs.length + (qbd m (whl k) cs).length := by
 unfold szQ
 rw [qsm_eq]
 omega
theorem qbd_wf (m : Nat) : ∀ (f : Bool) (cs : List Cl), (∀ c ∈ cs, c.Wf ∧ c.fit) → Wf (qbd m f cs)
 | _, [], _ => Wf.nil
 | f, c :: r, h => by
  have hc := h c (by simp)
  have h1 := hc.2.key
  have h2 := hc.2.val
  exact (qB_wf hc.1 (by omega) (by omega)).append (qbd_wf m false r fun d hd => h d (by simp [hd]))
theorem ktl_mem {k : Int} {cs : List Cl} {c : Cl} (h : c ∈ ktl k cs) : c ∈ cs := by
 unfold ktl at h
 split at h
 ·exact List.mem_of_mem_tail h
 ·exact h
end Go.Proofs.YtofafbmpbkjhnaaGreatDoor
namespace Go.Proofs.YtofafbmpbkjhnaaGreatDoor
set_option maxRecDepth 100000
set_option maxHeartbeats 2000000
open Go.RowKit
theorem or_one (n : Int) (h0 : 0 ≤ n) (h1 : n < 18446744073709551616) : bits .or .u64 n 1 = n / 2 * 2 + 1 := by
 obtain ⟨m, rfl⟩ := Int.eq_ofNat_of_zero_le h0
 have hm : m < 18446744073709551616 := by omega
 have e : m ||| 1 = m / 2 * 2 + 1 := by
  have h2 : m % 2 ||| m / 2 * 2 ^ 1 = m % 2 + m / 2 * 2 ^ 1 := or_nat (m % 2) (m / 2) 1 (by omega)
  have h3 : 1 ||| m / 2 * 2 ^ 1 = 1 + m / 2 * 2 ^ 1 := or_nat 1 (m / 2) 1 (by omega)
  have h4 : m % 2 ||| 1 = 1 := by rcases Nat.mod_two_eq_zero_or_one m with e | e <;> rw [e] <;> rfl
  have h5 : m = m % 2 ||| m / 2 * 2 ^ 1 := by rw [h2]; omega
  conv => lhs; rw [h5]
  rw [Nat.or_assoc, Nat.or_comm (m / 2 * 2 ^ 1) 1, ← Nat.or_assoc, h4, h3]
  omega
 rw [u64_or _ _ (by omega) (by omega) (by omega) (by omega), Int.toNat_natCast, show (1 : Int).toNat = 1 from rfl, e]
 omega
theorem bl_small : ∀ n : Fin 128, n.val ≠ 0 → 1 ≤ Lib.bitLen n.val ∧ Lib.bitLen n.val ≤ 7 := by decide +kernel
theorem uB_bits : ∀ (f : Nat) (m : Nat), m ≠ 0 → m < 18446744073709551616 → m < 128 ^ f → (Lib.bitLen m + 6) / 7 = (uB (m : Int)).length
 | 0, m, h0, _, h => by simp at h; omega
 | f + 1, m, h0, h1, h => by
  by_cases hm : m < 128
  ·have := bl_small ⟨m, hm⟩ h0
   rw [zcr (by omega)]
   simp only [List.length_cons, List.length_nil] at *
   omega
  ·have e := Lib.bitLen_shift 7 m (by omega) (by omega)
   have ih := uB_bits f (m / 128) (by omega) (by omega) (by rw [Nat.pow_succ] at h; omega)
   rw [uB_step (by omega) (by omega), List.length_cons, e, show (2 : Nat) ^ 7 = 128 from rfl]
   rw [show ((m : Int) / 128) = ((m / 128 : Nat) : Int) by omega, ← ih]
   omega
theorem uB_odd (n : Int) (h0 : 0 ≤ n) (h1 : n < 18446744073709551616) : (uB (n / 2 * 2 + 1)).length = (uB n).length := by
 by_cases h : n < 128
 ·rw [zcr h, zcr (by omega)]
  rfl
 ·rw [uB_step h h1, uB_step (n := n / 2 * 2 + 1) (by omega) (by omega), show (n / 2 * 2 + 1) / 128 = n / 128 by omega]
  simp
theorem zba (k i : Int) (w : World) : Calls Tryz.prog 153 #[.int .i64 k, .int .i64 i] w fun e w' => e = .returned (.bool (decide (k = 3 ∧ i = 0))) ∧ w' = w := by
 by_cases h1 : k = 3
 ·by_cases h2 : i = 0
  ·subst h1 h2
   go_enter Tryz.func153, Tryz.ntmps153
   go_wp2
   go_ret
   exact ⟨rfl, rfl⟩
  ·have d2 : (i == 0) = false := by simpa using h2
   subst h1
   go_enter Tryz.func153, Tryz.ntmps153
   go_wp2
   go_ret
   simp [h2]
 ·have d1 : (k == 3) = false := by simpa using h1
  go_enter Tryz.func153, Tryz.ntmps153
  go_wp2
  go_ret
  simp [h1]
theorem uintLen_any (n : Int) (w : World) (h0 : 0 ≤ n) (h1 : n < 18446744073709551616) : Calls Tryz.prog 196 #[.int .u64 n] w fun e w' => e = .returned (.int .i64 ((uB n).length : Int)) ∧ w' = w := by
 have ho := or_one n h0 h1
 obtain ⟨m, hm⟩ : ∃ m : Nat, n / 2 * 2 + 1 = (m : Int) := ⟨(n / 2 * 2 + 1).toNat, by omega⟩
 have hl := uB_bits 10 m (by omega) (by omega) (by omega)
 have hlu := uB_odd n h0 h1
 rw [hm] at ho hlu
 have HB := zaa (Tryz.bits_Len64 (m : Int) w (by omega) (by omega))
 rw [Int.toNat_natCast] at HB
 have hb : Lib.bitLen m ≤ 64 := Lib.bitLen_le m 64 (by omega) (by omega)
 have e1 : ((uB n).length : Int) = ((Lib.bitLen m : Int) + 6) / 7 := by rw [← hlu, ← hl]; omega
 rw [e1]
 generalize Lib.bitLen m = x at *
 clear hl hlu e1
 go_enter Tryz.func196, Tryz.ntmps196
 go_wp2_with (go_at_call 225; refine zae HB.out ?_)
 go_ret
 exact ⟨rfl, rfl⟩
theorem textLen_any (n : Nat) (w : World) (h : n ≤ 140737488355328) : Calls Tryz.prog 154 #[.int .i64 (n : Int)] w fun e w' => e = .returned (.int .i64 (tL n : Int)) ∧ w' = w := by
 have HU := zaa (uintLen_any (n : Int) w (by omega) (by omega))
 have hw : IntKind.u64.wrap (n : Int) = (n : Int) := by rw [IntKind.wrap_u64]; omega
 have hu := (zas (n : Int)).1
 have e1 : (tL n : Int) = ((uB (n : Int)).length : Int) + (n : Int) := by unfold tL; omega
 rw [e1]
 generalize (uB (n : Int)).length = x at *
 clear e1
 go_enter Tryz.func154, Tryz.ntmps154
 go_wp2_with (go_at_call 196; refine zae HU.out ?_)
 go_ret
 exact ⟨rfl, rfl⟩
def tlN (kd : Int) (vn : Nat) (pg ct : Int) : Nat := if kd = 1 then tL vn else (uB (pg % 18446744073709551616)).length + (uB (ct % 18446744073709551616)).length
theorem tailLen_any (ka : Option Addr) (kn kc : Nat) (kd : Int) (va : Option Addr) (vn vc : Nat) (pg ct : Int) (w : World) (hv : vn ≤ 140737488355328) :
  Calls Tryz.prog 155 #[.agg #[.slice ka kn kc, .int .i64 kd, .slice va vn vc, .int .i64 pg, .int .i64 ct]] w fun e w' => e = .returned (.int .i64 (tlN kd vn pg ct : Int)) ∧ Below w.heap.size w w' := by
 obtain ⟨x, hx⟩ : ∃ x, w.alloc (.cells #[.slice ka kn kc, .int .i64 kd, .slice va vn vc, .int .i64 pg, .int .i64 ct] 43) = x := ⟨_, rfl⟩
 have hbx : Below w.heap.size w x := by rw [← hx]; exact zac Br Lr _
 have hc5 : C5 x w.heap.size (.slice ka kn kc) (.int .i64 kd) (.slice va vn vc) (.int .i64 pg) (.int .i64 ct) := by rw [← hx]; exact C5.box w _ _ _ _ _
 obtain ⟨c0, c1, c2, c3, c4⟩ := hc5.cells
 have HBX := zaa hbx
 clear hc5 hbx
 unfold tlN
 by_cases h : kd = 1
 ·subst h
  rw [if_pos rfl]
  have HT := zaa (textLen_any vn x hv)
  go_enter Tryz.func155, Tryz.ntmps155
  go_wp2_with (go_at_call 154; refine zae HT.out ?_)
  go_ret
  exact ⟨rfl, HBX.out⟩
 ·rw [if_neg h]
  have hk1b : (kd == 1) = false := by simpa using h
  obtain ⟨P, hP⟩ : ∃ P, pg % 18446744073709551616 = P := ⟨_, rfl⟩
  obtain ⟨C, hC⟩ : ∃ C, ct % 18446744073709551616 = C := ⟨_, rfl⟩
  have hPw : IntKind.u64.wrap pg = P := by rw [IntKind.wrap_u64, hP]
  have hCw : IntKind.u64.wrap ct = C := by rw [IntKind.wrap_u64, hC]
  have HU : Hid (∀ z q, (z = P ∨ z = C) → Calls Tryz.prog 196 #[.int .u64 z] (x.drewN q) fun e w' => e = .returned (.int .i64 ((uB z).length : Int)) ∧ w' = x.drewN q) := zaa fun z q hz => uintLen_any z _ (by omega) (by omega)
  have u1 := (zas P).1
  have u2 := (zas C).1
  rw [hP, hC]
  have b1 : ((uB P).length : Int) ≤ 10 := by omega
  have b2 : ((uB C).length : Int) ≤ 10 := by omega
  have b3 : IntKind.i64.wrap (((uB P).length : Int) + ((uB C).length : Int)) = ((uB P).length : Int) + ((uB C).length : Int) := by rw [IntKind.wrap_i64]; omega
  clear hP hC
  go_enter Tryz.func155, Tryz.ntmps155
  go_wp2_with fail
  go_quiet (first | (go_at_call 196; exact Calls.quiet_of_same (HU.out _ _ (by simp))))
  go_wp2
  go_ret
  exact ⟨by simp, zad HBX.out _⟩
theorem SlC.piece {w : World} {b off n cap : Nat} {cs : List Cl} (h : SlC w (some ⟨b, off, none⟩) n cap cs) (i k c : Nat) (hk : i + k ≤ n) (hc : k ≤ c) : SlC w (some ⟨b, off + i * 5, none⟩) k c ((cs.drop i).take k) := by
 have hl := h.hlen
 refine ⟨by rw [zJ, zK]; omega, hc, by have := h.hroom; omega, (by intro h; cases h), ?_⟩
 rcases h.hat with h0 | ⟨b', off', e, hb, hcs⟩
 ·exact .inl (by omega)
 ·injection e with e
  injection e with e1 e2
  subst e1 e2
  refine .inr ⟨b, off + i * 5, rfl, hb, fun j c hj => ?_⟩
  have hjl := (zH.1 hj).1
  rw [zJ, zK] at hjl
  rw [List.getElem?_take_of_lt (by omega), List.getElem?_drop] at hj
  have := hcs (i + j) c hj
  rwa [show off + (i + j) * 5 = off + i * 5 + j * 5 by omega] at this
def cmN : List (List Int) → Nat
 | [] => 0
 | t :: r => r.foldl (fun n x => lcp (t.take n) x) t.length
theorem common_any (ao : Option Addr) (n cap : Nat) (t : List Int) (ls : List (List Int)) (w : World) (hs : SlS w ao n cap (t :: ls)) :
  Calls Tryz.prog 195 #[.slice ao n cap] w fun e w' => e = .returned (.int .i64 (cmN (t :: ls))) ∧ ∃ q, w' = w.drewN q := by
 obtain ⟨hlen, hcap, hroom, hnil, hat⟩ := hs
 obtain ⟨N, rfl⟩ : ∃ N, n = N + 1 := ⟨n - 1, by simp at hlen; omega⟩
 have hlen' : ls.length = N := by simpa using hlen
 clear hlen
 rcases hat with h | ⟨b, off, rfl, hbb, hc⟩
 ·omega
 obtain ⟨a0, m0, c0, hck0, hsl0⟩ := hc 0 (by omega)
 simp only [Nat.add_zero, List.getD_cons_zero] at hck0 hsl0
 have hm0 := hsl0.hlen
 have hr0 := hsl0.hroom
 have hcc0 := hsl0.hcap
 have HS0 := zaa hsl0
 have HC := zaa hc
 clear hsl0 hc
 show Calls Tryz.prog 195 #[.slice (some ⟨b, off, none⟩) (N + 1) cap] w fun e w' => e = .returned (.int .i64 ((ls.foldl (fun n x => lcp (t.take n) x) t.length : Nat) : Int)) ∧ ∃ q, w' = w.drewN q
 rw [hm0]
 generalize hF : ls.foldl (fun n x => lcp (t.take n) x) m0 = F
 have HF := zaa hF
 clear hF
 have hc1 : ((N : Int) + 1 == 0) = false := by simp; omega
 by_cases hcap1 : cap = 1
 ·obtain rfl : N = 0 := by omega
  obtain rfl : ls = [] := List.eq_nil_of_length_eq_zero hlen'
  have e : m0 = F := HF.out
  subst e
  clear HF HC
  go_enter Tryz.func195, Tryz.ntmps195
  go_wp2_with fail
  refine wp_loop_rounds 1 ?_
  rw [rounds_succ]
  go_wp2
  go_ret
  exact ⟨rfl, 0, rfl⟩
 ·go_enter Tryz.func195, Tryz.ntmps195
  go_wp2_with fail
  go_loopw [3, 16] (fun v i wr => ∃ (k q y : Nat), k ≤ N ∧ y ≤ m0 ∧ i = .int .i64 k ∧ v = .int .i64 y ∧ Hid ((ls.drop k).foldl (fun n x => lcp (t.take n) x) y = F) ∧ wr = w.drewN q) (fun _ i _ => N - (intOf i).toNat)
  case atStart => exact ⟨0, 0, m0, by omega, by omega, rfl, rfl, HF, rfl⟩
  case round =>
   obtain ⟨k, q, y, hk, hy, rfl, rfl, HK, rfl⟩ := hrel
   clear HF
   by_cases hlt : k < N
   ·obtain ⟨a, m, c, hck, hsl⟩ := HC.out (k + 1) (by omega)
    have hck' : w.cell? ⟨b, off + 1 + k, none⟩ = some (.slice a m c) := by rw [show off + 1 + k = off + (k + 1) by omega]; exact hck
    rw [show (t :: ls).getD (k + 1) [] = ls.getD k [] by simp [List.getD]] at hsl
    have e := HK.out
    rw [dropS ls k (by omega), List.foldl_cons] at e
    have hle := (lcp_le (t.take y) (ls.getD k [])).1
    have hty : (t.take y).length ≤ y := by simp; omega
    have hal2 := alike_any a0 a y m c0 c (t.take y) (ls.getD k []) (w.drewN q) ((HS0.out.take y hy).drewN q) (hsl.drewN q)
    generalize lcp (t.take y) (ls.getD k []) = y2 at *
    have HE := zaa e
    have HA := zaa hal2
    clear hal2 e HK hck
    go_wp2_with fail
    refine quiet_call' HA.out ?_
    intro q2
    go_wp2
    go_roundw
    case rel => exact ⟨k + 1, _, y2, by omega, by omega, by go_num, rfl, HE, rfl⟩
    case measure => simp [intOf]; omega
   ·have e : y = F := by rw [← HK.out, List.drop_eq_nil_of_le (by omega)]; rfl
    have HE := zaa e
    clear e HK
    go_wp2
    go_ret
    exact ⟨zcc (by rw [HE.out]), _, rfl⟩
theorem shn_take (a : List Int) : ∀ (r : List Cl) (j : Nat) (d : Cl), r[j]? = some d → shn a (r.take (j + 1)) = min (shn a (r.take j)) (lcp a d.key)
 | [], j, d, h => by simp at h
 | e :: r, 0, d, h => by
  simp at h
  subst h
  have := (lcp_le a e.key).1
  simp only [List.take_succ_cons, List.take_zero, shn]
  omega
 | e :: r, j + 1, d, h => by
  have ih := shn_take a r j d (by simpa using h)
  simp only [List.take_succ_cons, shn]
  rw [ih]
  omega
theorem cmN_two (t x : List Int) : cmN [t, x] = lcp t x := by
 unfold cmN
 simp
theorem sls_two {w : World} {g : Nat} {a1 a2 : Option Addr} {n1 c1 n2 c2 : Nat} {l1 l2 : List Int} (hg : w.heap[g]? = some (.cells #[.slice a1 n1 c1, .slice a2 n2 c2] 41 (0, 0))) (h1 : Sl w a1 n1 c1 l1) (h2 : Sl w a2 n2 c2 l2) : SlS w (some ⟨g, 0, none⟩) 2 2 [l1, l2] := by
 refine ⟨rfl, Lr, by omega, (by intro h; cases h), .inr ⟨g, 0, rfl, zah hg, fun i hi => ?_⟩⟩
 have hi' : i = 0 ∨ i = 1 := by omega
 rcases hi' with rfl | rfl
 ·exact ⟨a1, n1, c1, by rw [cell_of_row _ _ _ _ _ _ hg]; rfl, h1⟩
 ·exact ⟨a2, n2, c2, by rw [cell_of_row _ _ _ _ _ _ hg]; rfl, h2⟩
theorem palike_any (k : Int) (ao : Option Addr) (n cap : Nat) (cs : List Cl) (w : World) (hs : SlC w ao n cap cs) :
  Calls Tryz.prog 152 #[.int .i64 k, .slice ao n cap] w fun e w' => e = .returned (.int .i64 ((shP k cs).length : Int)) ∧ Hid (Below w.heap.size w w') := by
 have hn := hs.hroom
 have hcap := hs.hcap
 have hlen := hs.hlen
 by_cases h0 : n = 0
 ·subst h0
  obtain rfl : cs = [] := List.eq_nil_of_length_eq_zero hlen
  have hz : (shP k []).length = 0 := by unfold shP ktl; split <;> rfl
  rw [hz]
  clear hs
  go_enter Tryz.func152, Tryz.ntmps152
  go_wp2
  go_ret
  exact ⟨rfl, zaa Br⟩
 ·have hn0 : 0 < n := by omega
  have hnI : 0 < (n : Int) := by omega
  have d0 : ((n : Int) == 0) = false := by simp; omega
  obtain ⟨b, off, rfl⟩ : ∃ b off, ao = some ⟨b, off, none⟩ := by
   rcases hs.hat with h | ⟨b, off, e, _⟩
   ·exact absurd h h0
   ·exact ⟨b, off, e⟩
  by_cases hk : k = 3
  ·have hd : decide (k = 3 ∧ (0 : Int) = 0) = true := by simp [hk]
   have HSW : Hid (∀ u, Calls Tryz.prog 153 #[.int .i64 k, .int .i64 0] u fun e w' => e = .returned (.bool true) ∧ w' = u) := zaa (fun u => by have := zba k 0 u; rwa [hd] at this)
   clear hd
   have hkt : ktl k cs = cs.drop 1 := by unfold ktl; rw [if_pos hk, List.drop_one]
   clear hk
   unfold shP
   rw [hkt]
   by_cases h1 : n = 1
   ·subst h1
    have hz : (shr (cs.drop 1)).length = 0 := by rw [List.drop_eq_nil_of_le (by omega)]; rfl
    rw [hz]
    have hc1 : (1 : Int) ≤ (cap : Int) := by omega
    clear hs
    by_cases hcc : cap = 1
    ·subst hcc
     go_enter Tryz.func152, Tryz.ntmps152
     go_wp2_with (go_at_call 153; refine zae (HSW.out _) ?_)
     go_ret
     exact ⟨rfl, zaa Br⟩
    ·have hcc2 : 1 < cap := by omega
     have hcc3 : cap - 1 ≠ 0 := by omega
     go_enter Tryz.func152, Tryz.ntmps152
     go_wp2_with (go_at_call 153; refine zae (HSW.out _) ?_)
     go_ret
     exact ⟨rfl, zaa Br⟩
   ·have h2 := hs.piece 1 (n - 1) (cap - 1) (by omega) (by omega)
    have e2 : (cs.drop 1).take (n - 1) = cs.drop 1 := List.take_of_length_le (by rw [zK]; omega)
    rw [e2, Nat.one_mul] at h2
    generalize cs.drop 1 = ds at *
    have hc1 : (1 : Int) ≤ (cap : Int) := by omega
    have hcc3 : cap - 1 ≠ 0 := by omega
    have hcc4 : 1 < cap := by omega
    have hn3 : (1 : Int) ≤ (n : Int) := by omega
    have hn4 : 1 ≤ n := by omega
    obtain ⟨n', hn'⟩ : ∃ n', n - 1 = n' := ⟨_, rfl⟩
    obtain ⟨cap', hcap'⟩ : ∃ c', cap - 1 = c' := ⟨_, rfl⟩
    obtain ⟨off', hoff'⟩ : ∃ o', off + 5 = o' := ⟨_, rfl⟩
    rw [hn', hcap', hoff'] at h2
    have hnn : (n : Int) - 1 = (n' : Int) := by omega
    have hn0' : 0 < n' := by omega
    have hnI' : 0 < (n' : Int) := by omega
    have d0' : ((n' : Int) == 0) = false := by simp; omega
    clear hs hlen hkt e2
    have HSC := zaa h2
    obtain ⟨b1, off1, c, ka, kc, va, vc, hbo, hbl, hci, c0, c1, c2, c3, c4, hkS, hvS⟩ := h2.item 0 hn0'
    injection hbo with hbo
    injection hbo with hb1 hb2
    subst hb1 hb2
    simp only [Nat.zero_mul, Nat.add_zero] at c0
    obtain ⟨r, hds⟩ : ∃ r, ds = c :: r := by
     match ds, hci with
     | x :: r, hci => simp at hci; subst hci; exact ⟨r, rfl⟩
    have HKS := zaa hkS
    have hklr := hkS.hroom
    have hkcr := hkS.hcap
    have hll := h2.hlen
    rw [hds] at hll
    simp only [List.length_cons] at hll
    have HEND : Hid ((shr ds).length = shn c.key r) := zaa (by
     rw [hds]
     unfold shr
     rw [zJ]
     have := shn_le c.key r
     omega)
    have HR : Hid (∀ j u, j < n' - 1 → Below w.heap.size w u → ∃ d da dc dva dvc, r[j]? = some d ∧ u.cell? ⟨b, off' + 5 + j * 5, none⟩ = some (.slice da d.key.length dc) ∧ u.cell? ⟨b, off' + 5 + j * 5 + 1, none⟩ = some (.int .i64 d.kd) ∧ u.cell? ⟨b, off' + 5 + j * 5 + 2, none⟩ = some (.slice dva d.val.length dvc) ∧ u.cell? ⟨b, off' + 5 + j * 5 + 3, none⟩ = some (.int .i64 d.pg) ∧ u.cell? ⟨b, off' + 5 + j * 5 + 4, none⟩ = some (.int .i64 d.ct) ∧ Sl u da d.key.length dc d.key) := zaa (by
     intro j u hj hu
     obtain ⟨b2, off2, d, da, dc, dva, dvc, hbo2, _, hdi, e0, e1, e2, e3, e4, hdk, _⟩ := (HSC.out.on hu).item (j + 1) (by omega)
     injection hbo2 with hbo2
     injection hbo2 with g1 g2
     subst g1 g2
     rw [hds] at hdi
     rw [show off' + (j + 1) * 5 = off' + 5 + j * 5 by omega] at e0 e1 e2 e3 e4
     exact ⟨d, da, dc, dva, dvc, by simpa using hdi, e0, e1, e2, e3, e4, hdk⟩)
    have HLR : Hid (r.length = n' - 1) := zaa (by omega)
    obtain ⟨M, hM⟩ : ∃ M, n' - 1 = M := ⟨_, rfl⟩
    rw [hM] at HR HLR
    have hMI : (n' : Int) - 1 = (M : Int) := by omega
    have hMb : (M : Int) ≤ 140737488355328 := by omega
    rw [HEND.out]
    have cN1 : (1 : Int) ≤ (n' : Int) := by omega
    have cC1 : (1 : Int) ≤ (cap' : Int) := by omega
    have HSH0 : Hid (shn c.key (r.take 0) = c.key.length) := zaa (by simp [shn])
    clear h2 hkS hvS hci c1 c2 c3 c4 hds hll
    by_cases hcc : cap' = 1
    ·have hN1 : n' = 1 := by omega
     obtain rfl : M = 0 := by omega
     have hr0 : r = [] := List.eq_nil_of_length_eq_zero HLR.out
     have HFIN : Hid (shn c.key r = c.key.length) := zaa (by rw [hr0]; rfl)
     clear hr0
     rw [HFIN.out]
     subst hcc hN1
     go_enter Tryz.func152, Tryz.ntmps152
     go_wp2_with (go_at_call 153; refine zae (HSW.out _) ?_)
     go_loopw [5, 27] (fun sh i wr => sh = .slice ka c.key.length kc ∧ i = .int .i64 0 ∧ wr = w) (fun _ _ _ => 0)
     case atStart => exact ⟨rfl, rfl, rfl⟩
     case round =>
      obtain ⟨rfl, rfl, rfl⟩ := hrel
      go_wp2
      go_ret
      exact ⟨rfl, zaa Br⟩
    ·have hcc1 : 1 < cap' := by omega
     have hcc2 : cap' - 1 ≠ 0 := by omega
     go_enter Tryz.func152, Tryz.ntmps152
     go_wp2_with (go_at_call 153; refine zae (HSW.out _) ?_)
     go_loopw [5, 27] (fun sh i wr => ∃ j p : Nat, j ≤ M ∧ p ≤ c.key.length ∧ i = .int .i64 j ∧ sh = .slice ka p kc ∧ Hid (p = shn c.key (r.take j)) ∧ Hid (Below w.heap.size w wr)) (fun _ i _ => M - (intOf i).toNat)
     case atStart => exact ⟨0, c.key.length, by omega, by omega, rfl, rfl, zaa HSH0.out.symm, zaa Br⟩
     case round =>
      obtain ⟨j, p, hj, hp, rfl, rfl, HP, HB⟩ := hrel
      have bj : (j : Int) ≤ 140737488355328 := by omega
      have bp : (p : Int) ≤ 140737488355328 := by omega
      by_cases hlt : j < M
      ·have hltI : (j : Int) < (M : Int) := by omega
       obtain ⟨d, da, dc, dva, dvc, hdi, e0, e1, e2, e3, e4, hdk⟩ := HR.out j wr hlt HB.out
       have HDI := zaa hdi
       obtain ⟨x, hx⟩ : ∃ x, (wr.alloc (.cells #[.slice da d.key.length dc, .int .i64 d.kd, .slice dva d.val.length dvc, .int .i64 d.pg, .int .i64 d.ct] 43)).alloc (.cells #[.slice ka p kc, .slice da d.key.length dc] 41) = x := ⟨_, rfl⟩
       have hbx : Below wr.heap.size wr x := by rw [← hx]; exact zac (zac Br Lr _) Lr _
       have hg : x.heap[wr.heap.size + 1]? = some (.cells #[.slice ka p kc, .slice da d.key.length dc] 41 (0, 0)) := by
        have h1 := heap_alloc_last (wr.alloc (.cells #[.slice da d.key.length dc, .int .i64 d.kd, .slice dva d.val.length dvc, .int .i64 d.pg, .int .i64 d.ct] 43)) (.cells #[.slice ka p kc, .slice da d.key.length dc] 41)
        rw [hx] at h1
        simpa using h1
       have hsk : Sl x ka p kc (c.key.take p) := ((HKS.out.on Lr HB.out).on Lr hbx).take p (by omega)
       have HCM := zaa (common_any (some ⟨wr.heap.size + 1, 0, none⟩) 2 2 (c.key.take p) [d.key] x (sls_two hg hsk (hdk.on Lr hbx)))
       rw [cmN_two, lcp_take _ _ _ hp] at HCM
       have HNX := zaa (shn_take c.key r j d hdi)
       obtain ⟨q, hq⟩ : ∃ q, min p (lcp c.key d.key) = q := ⟨_, rfl⟩
       rw [hq] at HCM
       have hqp : q ≤ p := by omega
       have hqI : (q : Int) ≤ (p : Int) := by omega
       have hqc : (q : Int) ≤ (kc : Int) := by omega
       have HQ := zaa hq
       have HBX := zaa hbx
       clear hdk hdi hg hsk hbx hq
       go_wp2_with (go_at_call 195; refine HCM.out.mono ?_; rintro e w2 ⟨rfl, q2, rfl⟩)
       go_roundw
       case rel => exact ⟨j + 1, q, by omega, by omega, by go_num, rfl, zaa (by rw [HNX.out, ← HP.out]; exact HQ.out.symm), zaa (zad (zab HB.out Lr HBX.out) _)⟩
       case measure => simp [intOf]; omega
      ·obtain rfl : j = M := by omega
       have hlI : ¬ (j : Int) < (j : Int) := by omega
       have HT : Hid (p = shn c.key r) := zaa (by rw [HP.out, List.take_of_length_le (by rw [HLR.out]; exact Lr)])
       go_wp2
       go_ret
       rw [← HT.out]
       exact ⟨rfl, HB⟩
  ·have hd : decide (k = 3 ∧ (0 : Int) = 0) = false := by simp [hk]
   have HSW : Hid (∀ u, Calls Tryz.prog 153 #[.int .i64 k, .int .i64 0] u fun e w' => e = .returned (.bool false) ∧ w' = u) := zaa (fun u => by have := zba k 0 u; rwa [hd] at this)
   clear hd
   have hkt : ktl k cs = cs := by unfold ktl; rw [if_neg hk]
   clear hk
   unfold shP
   rw [hkt]
   have h2 := hs
   clear hkt
   have HSC := zaa h2
   obtain ⟨b1, off1, c, ka, kc, va, vc, hbo, hbl, hci, c0, c1, c2, c3, c4, hkS, hvS⟩ := h2.item 0 hn0
   injection hbo with hbo
   injection hbo with hb1 hb2
   subst hb1 hb2
   simp only [Nat.zero_mul, Nat.add_zero] at c0
   obtain ⟨r, hds⟩ : ∃ r, cs = c :: r := by
    match cs, hci with
    | x :: r, hci => simp at hci; subst hci; exact ⟨r, rfl⟩
   have HKS := zaa hkS
   have hklr := hkS.hroom
   have hkcr := hkS.hcap
   have hll := h2.hlen
   rw [hds] at hll
   simp only [List.length_cons] at hll
   have HEND : Hid ((shr cs).length = shn c.key r) := zaa (by
    rw [hds]
    unfold shr
    rw [zJ]
    have := shn_le c.key r
    omega)
   have HR : Hid (∀ j u, j < n - 1 → Below w.heap.size w u → ∃ d da dc dva dvc, r[j]? = some d ∧ u.cell? ⟨b, off + 5 + j * 5, none⟩ = some (.slice da d.key.length dc) ∧ u.cell? ⟨b, off + 5 + j * 5 + 1, none⟩ = some (.int .i64 d.kd) ∧ u.cell? ⟨b, off + 5 + j * 5 + 2, none⟩ = some (.slice dva d.val.length dvc) ∧ u.cell? ⟨b, off + 5 + j * 5 + 3, none⟩ = some (.int .i64 d.pg) ∧ u.cell? ⟨b, off + 5 + j * 5 + 4, none⟩ = some (.int .i64 d.ct) ∧ Sl u da d.key.length dc d.key) := zaa (by
    intro j u hj hu
    obtain ⟨b2, off2, d, da, dc, dva, dvc, hbo2, _, hdi, e0, e1, e2, e3, e4, hdk, _⟩ := (HSC.out.on hu).item (j + 1) (by omega)
    injection hbo2 with hbo2
    injection hbo2 with g1 g2
    subst g1 g2
    rw [hds] at hdi
    rw [show off + (j + 1) * 5 = off + 5 + j * 5 by omega] at e0 e1 e2 e3 e4
    exact ⟨d, da, dc, dva, dvc, by simpa using hdi, e0, e1, e2, e3, e4, hdk⟩)
   have HLR : Hid (r.length = n - 1) := zaa (by omega)
   obtain ⟨M, hM⟩ : ∃ M, n - 1 = M := ⟨_, rfl⟩
   rw [hM] at HR HLR
   have hMI : (n : Int) - 1 = (M : Int) := by omega
   have hMb : (M : Int) ≤ 140737488355328 := by omega
   rw [HEND.out]
   have cN1 : (1 : Int) ≤ (n : Int) := by omega
   have cC1 : (1 : Int) ≤ (cap : Int) := by omega
   have HSH0 : Hid (shn c.key (r.take 0) = c.key.length) := zaa (by simp [shn])
   clear h2 hkS hvS hci c1 c2 c3 c4 hds hll
   by_cases hcc : cap = 1
   ·have hN1 : n = 1 := by omega
    obtain rfl : M = 0 := by omega
    have hr0 : r = [] := List.eq_nil_of_length_eq_zero HLR.out
    have HFIN : Hid (shn c.key r = c.key.length) := zaa (by rw [hr0]; rfl)
    clear hr0
    rw [HFIN.out]
    subst hcc hN1
    go_enter Tryz.func152, Tryz.ntmps152
    go_wp2_with (go_at_call 153; refine zae (HSW.out _) ?_)
    go_loopw [5, 27] (fun sh i wr => sh = .slice ka c.key.length kc ∧ i = .int .i64 0 ∧ wr = w) (fun _ _ _ => 0)
    case atStart => exact ⟨rfl, rfl, rfl⟩
    case round =>
     obtain ⟨rfl, rfl, rfl⟩ := hrel
     go_wp2
     go_ret
     exact ⟨rfl, zaa Br⟩
   ·have hcc1 : 1 < cap := by omega
    have hcc2 : cap - 1 ≠ 0 := by omega
    go_enter Tryz.func152, Tryz.ntmps152
    go_wp2_with (go_at_call 153; refine zae (HSW.out _) ?_)
    go_loopw [5, 27] (fun sh i wr => ∃ j p : Nat, j ≤ M ∧ p ≤ c.key.length ∧ i = .int .i64 j ∧ sh = .slice ka p kc ∧ Hid (p = shn c.key (r.take j)) ∧ Hid (Below w.heap.size w wr)) (fun _ i _ => M - (intOf i).toNat)
    case atStart => exact ⟨0, c.key.length, by omega, by omega, rfl, rfl, zaa HSH0.out.symm, zaa Br⟩
    case round =>
     obtain ⟨j, p, hj, hp, rfl, rfl, HP, HB⟩ := hrel
     have bj : (j : Int) ≤ 140737488355328 := by omega
     have bp : (p : Int) ≤ 140737488355328 := by omega
     by_cases hlt : j < M
     ·have hltI : (j : Int) < (M : Int) := by omega
      obtain ⟨d, da, dc, dva, dvc, hdi, e0, e1, e2, e3, e4, hdk⟩ := HR.out j wr hlt HB.out
      have HDI := zaa hdi
      obtain ⟨x, hx⟩ : ∃ x, (wr.alloc (.cells #[.slice da d.key.length dc, .int .i64 d.kd, .slice dva d.val.length dvc, .int .i64 d.pg, .int .i64 d.ct] 43)).alloc (.cells #[.slice ka p kc, .slice da d.key.length dc] 41) = x := ⟨_, rfl⟩
      have hbx : Below wr.heap.size wr x := by rw [← hx]; exact zac (zac Br Lr _) Lr _
      have hg : x.heap[wr.heap.size + 1]? = some (.cells #[.slice ka p kc, .slice da d.key.length dc] 41 (0, 0)) := by
       have h1 := heap_alloc_last (wr.alloc (.cells #[.slice da d.key.length dc, .int .i64 d.kd, .slice dva d.val.length dvc, .int .i64 d.pg, .int .i64 d.ct] 43)) (.cells #[.slice ka p kc, .slice da d.key.length dc] 41)
       rw [hx] at h1
       simpa using h1
      have hsk : Sl x ka p kc (c.key.take p) := ((HKS.out.on Lr HB.out).on Lr hbx).take p (by omega)
      have HCM := zaa (common_any (some ⟨wr.heap.size + 1, 0, none⟩) 2 2 (c.key.take p) [d.key] x (sls_two hg hsk (hdk.on Lr hbx)))
      rw [cmN_two, lcp_take _ _ _ hp] at HCM
      have HNX := zaa (shn_take c.key r j d hdi)
      obtain ⟨q, hq⟩ : ∃ q, min p (lcp c.key d.key) = q := ⟨_, rfl⟩
      rw [hq] at HCM
      have hqp : q ≤ p := by omega
      have hqI : (q : Int) ≤ (p : Int) := by omega
      have hqc : (q : Int) ≤ (kc : Int) := by omega
      have HQ := zaa hq
      have HBX := zaa hbx
      clear hdk hdi hg hsk hbx hq
      go_wp2_with (go_at_call 195; refine HCM.out.mono ?_; rintro e w2 ⟨rfl, q2, rfl⟩)
      go_roundw
      case rel => exact ⟨j + 1, q, by omega, by omega, by go_num, rfl, zaa (by rw [HNX.out, ← HP.out]; exact HQ.out.symm), zaa (zad (zab HB.out Lr HBX.out) _)⟩
      case measure => simp [intOf]; omega
     ·obtain rfl : j = M := by omega
      have hlI : ¬ (j : Int) < (j : Int) := by omega
      have HT : Hid (p = shn c.key r) := zaa (by rw [HP.out, List.take_of_length_le (by rw [HLR.out]; exact Lr)])
      go_wp2
      go_ret
      rw [← HT.out]
      exact ⟨rfl, HB⟩
theorem qtk_tl (m : Nat) (c : Cl) : qtk m c = 3 + tL (c.key.length - m) + tlN c.kd c.val.length c.pg c.ct := by unfold qtk tlN; rfl
theorem qsm_take (m : Nat) : ∀ (cs : List Cl) (f : Bool) (j : Nat) (c : Cl), cs[j]? = some c → qsm m f (cs.take (j + 1)) = qsm m f (cs.take j) + qtk (if f = true ∧ j = 0 then 0 else m) c
 | [], f, j, c, h => by simp at h
 | d :: r, f, 0, c, h => by
  simp at h
  subst h
  simp [qsm]
 | d :: r, f, j + 1, c, h => by
  have ih := qsm_take m r false j c (by simpa using h)
  simp only [List.take_succ_cons, qsm]
  rw [ih]
  simp
  omega
theorem qsm_take_le (m : Nat) : ∀ (cs : List Cl) (f : Bool) (j : Nat), qsm m f (cs.take j) ≤ qsm m f cs
 | [], f, j => by simp
 | d :: r, f, 0 => by simp [qsm]
 | d :: r, f, j + 1 => by
  have ih := qsm_take_le m r false j
  simp only [List.take_succ_cons, qsm]
  omega
theorem zco {k : Int} {cs : List Cl} {j : Nat} {c : Cl} (h : cs[j]? = some c) (hw : ¬ (k = 3 ∧ j = 0)) : c ∈ ktl k cs := by
 unfold ktl
 by_cases hk : k = 3
 ·rw [if_pos hk]
  obtain ⟨i, rfl⟩ : ∃ i, j = i + 1 := ⟨j - 1, by omega⟩
  match cs, h with
  | d :: r, h => exact List.mem_of_getElem? (by simpa using h)
 ·rw [if_neg hk]
  exact List.mem_of_getElem? h
theorem psize_any (k : Int) (ao : Option Addr) (n cap : Nat) (cs : List Cl) (w : World) (hs : SlC w ao n cap cs) (hz : szQ k (shP k cs).length cs ≤ 1099511627776) :
  Calls Tryz.prog 88 #[.int .i64 k, .slice ao n cap] w fun e w' => e = .returned (.int .i64 (szQ k (shP k cs).length cs : Int)) ∧ Hid (Below w.heap.size w w') := by
 have HS := zaa hs
 have hn := hs.hroom
 have HLEN := zaa hs.hlen
 have HA := zaa (palike_any k ao n cap cs w hs)
 have HBEG := zaa (zbz k cs)
 have hzq := hz
 unfold szQ at hzq ⊢
 have HZ := zaa hzq
 have HBL := zaa (fun c hc => beg_len (HBEG.out c hc))
 obtain ⟨m, hm⟩ : ∃ m, (shP k cs).length = m := ⟨_, rfl⟩
 rw [hm] at HA HZ HBL hzq ⊢
 have hmb : (m : Int) ≤ 1099511627776 := by omega
 obtain ⟨f, hf⟩ : ∃ f, whl k = f := ⟨_, rfl⟩
 rw [hf] at HZ ⊢
 have HF : Hid (∀ i : Nat, (decide (k = 3 ∧ (i : Int) = 0)) = decide (f = true ∧ i = 0)) := zaa (by
  intro i
  rw [← hf]
  unfold whl
  simp)
 have HKT : Hid (∀ (j : Nat) (c : Cl), cs[j]? = some c → decide (f = true ∧ j = 0) = false → m ≤ c.key.length) := zaa (by
  intro j c hc hd
  have : ¬ (k = 3 ∧ j = 0) := by
   rw [← hf] at hd
   unfold whl at hd
   simpa using hd
  exact HBL.out c (zco hc this))
 clear hs hz hm hzq hf
 go_enter Tryz.func88, Tryz.ntmps88
 go_wp2_with (go_at_call 152; refine HA.out.mono ?_; rintro e w1 ⟨rfl, HB1⟩; refine Hid.out ?_)
 apply zaa
 clear HA
 go_wp2_with fail
 go_loopw [6, 18] (fun v i wr => ∃ j q : Nat, j ≤ n ∧ q ≤ 1099511627776 ∧ i = .int .i64 j ∧ v = .int .i64 (q : Int) ∧ Hid (q = 10 + m + qsm m f (cs.take j)) ∧ Hid (Below w.heap.size w wr)) (fun _ i _ => n - (intOf i).toNat)
 case atStart => exact ⟨0, 10 + m, by omega, by have := HZ.out; omega, rfl, by go_num, zaa (by simp [qsm]), HB1⟩
 case round =>
  obtain ⟨j, q, hj, hq, rfl, rfl, HQ, HB⟩ := hrel
  have bj : (j : Int) ≤ 140737488355328 := by omega
  have bq : (q : Int) ≤ 1099511627776 := by omega
  by_cases hlt : j < n
  ·have hltI : (j : Int) < (n : Int) := by omega
   obtain ⟨b, off, c, ka, kc, va, vc, rfl, hb, hci, c0, c1, c2, c3, c4, hk, hv⟩ := (HS.out.on HB.out).item j hlt
   have hkr := hk.hroom
   have hvr := hv.hroom
   have HST := zaa (qsm_take m cs f j c hci)
   have hle := qsm_take_le m cs f (j + 1)
   rw [HST.out] at hle
   have hz := HZ.out
   have HMK := zaa (HKT.out j c hci)
   obtain ⟨x, hx⟩ : ∃ x, wr.alloc (.cells #[.slice ka c.key.length kc, .int .i64 c.kd, .slice va c.val.length vc, .int .i64 c.pg, .int .i64 c.ct] 43) = x := ⟨_, rfl⟩
   have hal : Below wr.heap.size wr x := by rw [← hx]; exact zac Br Lr _
   have hc5 : C5 x wr.heap.size (.slice ka c.key.length kc) (.int .i64 c.kd) (.slice va c.val.length vc) (.int .i64 c.pg) (.int .i64 c.ct) := by rw [← hx]; exact C5.box wr _ _ _ _ _
   obtain ⟨y0, y1, y2, y3, y4⟩ := hc5.cells
   have HTL := zaa (fun u => tailLen_any ka c.key.length kc c.kd va c.val.length vc c.pg c.ct u hvr)
   have HSW : Hid (∀ u, Calls Tryz.prog 153 #[.int .i64 k, .int .i64 (j : Int)] u fun e w' => e = .returned (.bool (decide (f = true ∧ j = 0))) ∧ w' = u) := zaa (fun u => by have := zba k (j : Int) u; rwa [HF.out j] at this)
   have HQT := zaa (qtk_tl (if f = true ∧ j = 0 then 0 else m) c)
   obtain ⟨K, hK⟩ : ∃ K, c.key.length = K := ⟨_, rfl⟩
   rw [hK] at hkr HTL HMK HQT c0 y0
   obtain ⟨tl, htl⟩ : ∃ tl, tlN c.kd c.val.length c.pg c.ct = tl := ⟨_, rfl⟩
   rw [htl] at HTL HQT
   have hcase : decide (f = true ∧ j = 0) = true ∨ decide (f = true ∧ j = 0) = false := by cases decide (f = true ∧ j = 0) <;> simp
   obtain ⟨R, hR, hRl, hRK⟩ : ∃ R : Nat, (decide (f = true ∧ j = 0) = true ∧ K = R ∨ decide (f = true ∧ j = 0) = false ∧ (K : Int) - (m : Int) = (R : Int)) ∧ qtk (if f = true ∧ j = 0 then 0 else m) c = 3 + tL R + tl ∧ R ≤ K := by
    rcases hcase with e | e
    ·have e' : f = true ∧ j = 0 := by simpa using e
     refine ⟨K, .inl ⟨e, rfl⟩, ?_, Lr⟩
     rw [HQT.out, if_pos e', Nat.sub_zero]
    ·have e' : ¬ (f = true ∧ j = 0) := by simpa using e
     have hmk := HMK.out e
     refine ⟨K - m, .inr ⟨e, by omega⟩, ?_, by omega⟩
     rw [HQT.out, if_neg e']
   rw [hRl] at HST hle
   have HTX := zaa (fun u => textLen_any R u (by omega))
   obtain ⟨tx, htx⟩ : ∃ tx, tL R = tx := ⟨_, rfl⟩
   rw [htx] at HTX HST hle
   have hqe := HQ.out
   have bK : (K : Int) ≤ 140737488355328 := by omega
   have bR : (R : Int) ≤ 140737488355328 := by omega
   have bt : (tx : Int) ≤ 1099511627776 := by omega
   have bl : (tl : Int) ≤ 1099511627776 := by omega
   have bsum : q + (3 + tx + tl) ≤ 1099511627776 := by omega
   have bw1 : IntKind.i64.wrap (3 + (tx : Int)) = 3 + (tx : Int) := by rw [IntKind.wrap_i64]; omega
   have bw2 : IntKind.i64.wrap (3 + (tx : Int) + (tl : Int)) = 3 + (tx : Int) + (tl : Int) := by rw [IntKind.wrap_i64]; omega
   have bw3 : IntKind.i64.wrap ((q : Int) + (3 + (tx : Int) + (tl : Int))) = ((q + (3 + tx + tl) : Nat) : Int) := by rw [IntKind.wrap_i64]; omega
   have HNX : Hid (q + (3 + tx + tl) = 10 + m + qsm m f (cs.take (j + 1))) := zaa (by rw [HST.out]; omega)
   clear hk hv hci hc5 hle hz HMK HQT hK htl hRl htx hqe HST hcase
   rcases hR with ⟨hd, rfl⟩ | ⟨hd, hRe⟩
   ·rw [hd] at HSW
    clear hd
    go_wp2_with (go_at_call 153; refine zae (HSW.out _) ?_)
    go_region_with (first | (go_at_call 154; refine zae (HTX.out _) ?_) | (go_at_call 155; refine (HTL.out _).mono ?_; rintro e w2 ⟨rfl, hb2⟩; have hbw := zab (show Below wr.heap.size wr _ from by first | exact hal | exact hal.drew | exact zad hal _ | exact (zad hal _).drew | go_grown) Lr hb2))
    all_goals
     go_wp2
     go_roundw
     case rel => exact ⟨j + 1, q + (3 + tx + tl), by omega, by omega, by go_num, by simp, HNX, zaa (by first | exact zab HB.out Lr hbw | exact zad (zab HB.out Lr hbw) _ | exact (zab HB.out Lr hbw).drew)⟩
     case measure => simp [intOf]; omega
   ·rw [hd] at HSW
    clear hd
    go_wp2_with (go_at_call 153; refine zae (HSW.out _) ?_)
    go_region_with (first | (go_at_call 154; refine zae (HTX.out _) ?_) | (go_at_call 155; refine (HTL.out _).mono ?_; rintro e w2 ⟨rfl, hb2⟩; have hbw := zab (show Below wr.heap.size wr _ from by first | exact hal | exact hal.drew | exact zad hal _ | exact (zad hal _).drew | go_grown) Lr hb2))
    all_goals
     go_wp2
     go_roundw
     case rel => exact ⟨j + 1, q + (3 + tx + tl), by omega, by omega, by go_num, by simp, HNX, zaa (by first | exact zab HB.out Lr hbw | exact zad (zab HB.out Lr hbw) _ | exact (zab HB.out Lr hbw).drew)⟩
     case measure => simp [intOf]; omega
  ·obtain rfl : j = n := by omega
   have hlI : ¬ (j : Int) < (j : Int) := by omega
   have HT : Hid (q = 10 + m + qsm m f cs) := zaa (by rw [HQ.out, List.take_of_length_le (by rw [HLEN.out]; exact Lr)])
   go_wp2
   go_ret
   rw [show (10 + (m : Int) + (qsm m f cs : Int)) = (q : Int) by have := HT.out; omega]
   exact ⟨rfl, HB⟩
structure PgQ (w : World) (a : Nat) (k : Int) (n : Nat) (po : Option Addr) (pn pc : Nat) (bo : Option Addr) (bn bc : Nat) (so : Option Addr) (sn sc : Nat) (ws : Int) (P body : List Int) (st : List Nat) : Prop where
 row : w.heap[a]? = some (.cells #[.int .i64 k, .int .i64 (n : Int), .slice po pn pc, .slice bo bn bc, .slice so sn sc, .int .i64 ws] 164 (0, 0))
 pre : Sl w po pn pc P
 body : Sl w bo bn bc body
 starts : SlN w so sn sc st
theorem PgQ.on {w w' : World} {a : Nat} {k : Int} {n : Nat} {po : Option Addr} {pn pc : Nat} {bo : Option Addr} {bn bc : Nat} {so : Option Addr} {sn sc : Nat} {ws : Int} {P body : List Int} {st : List Nat} (h : PgQ w a k n po pn pc bo bn bc so sn sc ws P body st) (hb : Below w.heap.size w w') : PgQ w' a k n po pn pc bo bn bc so sn sc ws P body st :=
 ⟨zaf h.row hb, h.pre.on Lr hb, h.body.on Lr hb, h.starts.on hb⟩
theorem PgQ.cells {w : World} {a : Nat} {k : Int} {n : Nat} {po : Option Addr} {pn pc : Nat} {bo : Option Addr} {bn bc : Nat} {so : Option Addr} {sn sc : Nat} {ws : Int} {P body : List Int} {st : List Nat} (h : PgQ w a k n po pn pc bo bn bc so sn sc ws P body st) :
  w.cell? ⟨a, 0, none⟩ = some (.int .i64 k) ∧ w.cell? ⟨a, 1, none⟩ = some (.int .i64 (n : Int)) ∧ w.cell? ⟨a, 2, none⟩ = some (.slice po pn pc) ∧ w.cell? ⟨a, 3, none⟩ = some (.slice bo bn bc) ∧ w.cell? ⟨a, 4, none⟩ = some (.slice so sn sc) ∧ w.cell? ⟨a, 5, none⟩ = some (.int .i64 ws) := by
 refine ⟨?_, ?_, ?_, ?_, ?_, ?_⟩
 ·rw [cell_of_row _ _ 0 _ _ _ h.row]; rfl
 ·rw [cell_of_row _ _ 1 _ _ _ h.row]; rfl
 ·rw [cell_of_row _ _ 2 _ _ _ h.row]; rfl
 ·rw [cell_of_row _ _ 3 _ _ _ h.row]; rfl
 ·rw [cell_of_row _ _ 4 _ _ _ h.row]; rfl
 ·rw [cell_of_row _ _ 5 _ _ _ h.row]; rfl
structure LayQ (k : Int) (P : List Int) (cs : List Cl) (body : List Int) (st : List Nat) : Prop where
 len : st.length = cs.length
 beg : Beg k P cs
 fit : ∀ c ∈ cs, c.fit
 at_ : ∀ i c, cs[i]? = some c → ∃ r, body.drop (st.getD i 0) = qB (if k = 3 ∧ i = 0 then 0 else P.length) c ++ r
theorem qB_pos (m : Nat) (c : Cl) : 0 < (qB m c).length := by unfold qB; simp
theorem head_any (w : World) (a : Nat) (k : Int) (n : Nat) (po : Option Addr) (pn pc : Nat) (bo : Option Addr) (bn bc : Nat) (so : Option Addr) (sn sc : Nat) (ws : Int) (P body : List Int) (st : List Nat) (h : PgQ w a k n po pn pc bo bn bc so sn sc ws P body st) (i : Nat) :
  Calls Tryz.prog 199 #[.pointer (some ⟨a, 0, none⟩), .int .i64 (i : Int)] w fun e w' => ∃ ho hn hc, e = .returned (.slice ho hn hc) ∧ Hid (Sl w ho hn hc (if k = 3 ∧ i = 0 then [] else P) ∧ hn = (if k = 3 ∧ i = 0 then 0 else pn) ∧ (ho = none ∨ ho = po)) ∧ w' = w := by
 obtain ⟨c0, c1, c2, c3, c4, c5⟩ := h.cells
 by_cases hc : k = 3 ∧ i = 0
 ·have HSW : Hid (Calls Tryz.prog 153 #[.int .i64 k, .int .i64 (i : Int)] w fun e w' => e = .returned (.bool true) ∧ w' = w) := zaa (by
   have := zba k (i : Int) w
   rwa [decide_eq_true (show k = 3 ∧ (i : Int) = 0 by omega)] at this)
  rw [if_pos hc, if_pos hc]
  clear h hc
  go_enter Tryz.func199, Tryz.ntmps199
  go_wp2_with (go_at_call 153; refine zae HSW.out ?_)
  go_ret
  exact ⟨none, 0, 0, rfl, zaa ⟨Sl.nil_any _ _ _ (fun _ => rfl), rfl, .inl rfl⟩, rfl⟩
 ·have HSW : Hid (Calls Tryz.prog 153 #[.int .i64 k, .int .i64 (i : Int)] w fun e w' => e = .returned (.bool false) ∧ w' = w) := zaa (by
   have := zba k (i : Int) w
   rwa [decide_eq_false (show ¬ (k = 3 ∧ (i : Int) = 0) by omega)] at this)
  rw [if_neg hc, if_neg hc]
  have HP := zaa h.pre
  clear h hc
  go_enter Tryz.func199, Tryz.ntmps199
  go_wp2_with (go_at_call 153; refine zae HSW.out ?_)
  go_ret
  exact ⟨po, pn, pc, rfl, zaa ⟨HP.out, rfl, .inr rfl⟩, rfl⟩
theorem E6.free {w : World} {g : Nat} {x0 x1 x2 x3 x4 x5 : Value} (h : E6 w g x0 x1 x2 x3 x4 x5) (i : Nat) : w.frozen? ⟨g, i, none⟩ = false := by
 unfold E6 at h
 simp [World.frozen?, h]
theorem E6.set {w : World} {g : Nat} {x0 x1 x2 x3 x4 x5 : Value} (h : E6 w g x0 x1 x2 x3 x4 x5) (y : Value) :
  E6 (w.setCell ⟨g, 0, none⟩ y) g y x1 x2 x3 x4 x5 ∧ E6 (w.setCell ⟨g, 1, none⟩ y) g x0 y x2 x3 x4 x5 ∧ E6 (w.setCell ⟨g, 2, none⟩ y) g x0 x1 y x3 x4 x5 ∧ E6 (w.setCell ⟨g, 3, none⟩ y) g x0 x1 x2 y x4 x5 ∧ E6 (w.setCell ⟨g, 4, none⟩ y) g x0 x1 x2 x3 y x5 ∧ E6 (w.setCell ⟨g, 5, none⟩ y) g x0 x1 x2 x3 x4 y := by
 unfold E6 at *
 refine ⟨?_, ?_, ?_, ?_, ?_, ?_⟩
 ·simpa using zam (w := w) (a := g) (i := 0) (cs := [x0, x1, x2, x3, x4, x5]) (u := y) h
 ·simpa using zam (w := w) (a := g) (i := 1) (cs := [x0, x1, x2, x3, x4, x5]) (u := y) h
 ·simpa using zam (w := w) (a := g) (i := 2) (cs := [x0, x1, x2, x3, x4, x5]) (u := y) h
 ·simpa using zam (w := w) (a := g) (i := 3) (cs := [x0, x1, x2, x3, x4, x5]) (u := y) h
 ·simpa using zam (w := w) (a := g) (i := 4) (cs := [x0, x1, x2, x3, x4, x5]) (u := y) h
 ·simpa using zam (w := w) (a := g) (i := 5) (cs := [x0, x1, x2, x3, x4, x5]) (u := y) h
def put6 (w : World) (g : Nat) (y0 y1 y2 y3 y4 y5 : Value) : World := (put5 w g y0 y1 y2 y3 y4).setCell ⟨g, 5, none⟩ y5
theorem E6.put {w : World} {g : Nat} {x0 x1 x2 x3 x4 x5 : Value} (h : E6 w g x0 x1 x2 x3 x4 x5) (y0 y1 y2 y3 y4 y5 : Value) : E6 (put6 w g y0 y1 y2 y3 y4 y5) g y0 y1 y2 y3 y4 y5 :=
 (((((((h.set y0).1).set y1).2.1.set y2).2.2.1.set y3).2.2.2.1.set y4).2.2.2.2.1.set y5).2.2.2.2.2
theorem put6_cf (w : World) (g : Nat) (y0 y1 y2 y3 y4 y5 : Value) : Cf (· = g) w (put6 w g y0 y1 y2 y3 y4 y5) := (zbv w g y0 y1 y2 y3 y4).go (Cf.set _ _ _ _)
theorem sizeEnt : (Tryz.prog.info? 159).map (·.size) = some 6 := by kernel_rfl
theorem E6.cf {w w' : World} {g : Nat} {x0 x1 x2 x3 x4 x5 : Value} {F : Nat → Prop} (h : E6 w g x0 x1 x2 x3 x4 x5) (hc : Cf F w w') (hg : ¬ F g) : E6 w' g x0 x1 x2 x3 x4 x5 := (hc.block g (zah h) hg).trans h
theorem Sl.apart6 {w : World} {ao : Option Addr} {n cap : Nat} {l : List Int} (h : Sl w ao n cap l) {g : Nat} {a b d : Option Addr} {c1 c2 c3 c4 c5 c6 : Nat} {x y z : Int} (hr : E6 w g (.slice a c1 c2) (.slice b c3 c4) (.int .i64 x) (.slice d c5 c6) (.int .i64 y) (.int .i64 z)) : n = 0 ∨ ∀ p, ao = some p → ¬ p.block = g := by
 rcases h.hat with h0 | ⟨q, off, rfl, hg, hc⟩
 ·exact .inl h0
 ·rcases Nat.eq_zero_or_pos n with h0 | h0
  ·exact .inl h0
  ·right
   rintro p hp rfl
   injection hp with hp
   subst hp
   have h1 := hc 0 h0
   unfold E6 at hr
   rw [cell_of_row _ _ _ _ _ _ hr] at h1
   rcases Nat.lt_or_ge (off + 0) 6 with h3 | h3
   ·have h4 : off + 0 = 0 ∨ off + 0 = 1 ∨ off + 0 = 2 ∨ off + 0 = 3 ∨ off + 0 = 4 ∨ off + 0 = 5 := by omega
    rcases h4 with h4 | h4 | h4 | h4 | h4 | h4 <;> (rw [h4] at h1; simp at h1)
   ·rw [Array.getElem?_eq_none (by simpa using h3)] at h1
    cases h1
def Lo (G : Nat) (ao : Option Addr) (n : Nat) : Prop := n = 0 ∨ ∀ q, ao = some q → q.block < G
theorem Sl.lo {w : World} {ao : Option Addr} {n cap : Nat} {l : List Int} (h : Sl w ao n cap l) : Lo w.heap.size ao n := by
 rcases h.hat with h0 | ⟨b, off, e, hlt, _⟩
 ·exact .inl h0
 ·exact .inr fun q hq => by rw [e] at hq; injection hq with hq; subst hq; exact hlt
def EntTo (G : Nat) (c : Cl) (w : World) (e : Ending) (w' : World) : Prop :=
 ∃ (ho : Option Addr) (hn hc : Nat) (ko : Option Addr) (kn kc : Nat) (vo : Option Addr) (vn vc : Nat) (h key : List Int), e = .returned (.agg #[.slice ho hn hc, .slice ko kn kc, .int .i64 c.kd, .slice vo vn vc, .int .i64 c.pg, .int .i64 c.ct]) ∧ Hid (Sl w' ho hn hc h ∧ Sl w' ko kn kc key ∧ Sl w' vo vn vc c.val ∧ h ++ key = c.key ∧ Lo G ho hn ∧ Lo G ko kn ∧ Lo G vo vn) ∧ Hid (Below w.heap.size w w')
theorem pentry_any (w : World) (a : Nat) (k : Int) (n : Nat) (po : Option Addr) (pn pc : Nat) (bo : Option Addr) (bn bc : Nat) (so : Option Addr) (sn sc : Nat) (ws : Int) (P body : List Int) (st : List Nat) (cs : List Cl) (h : PgQ w a k n po pn pc bo bn bc so sn sc ws P body st) (hl : LayQ k P cs body st) (i : Nat) (c : Cl) (hci : cs[i]? = some c) (G : Nat) (hG1 : Lo G po pn) (hG2 : Lo G bo bn) :
  Calls Tryz.prog 160 #[.pointer (some ⟨a, 0, none⟩), .int .i64 (i : Int)] w fun e w' => EntTo G c w e w' := by
 obtain ⟨c0, c1, c2, c3, c4, c5⟩ := h.cells
 have hcf := hl.fit c (List.mem_of_getElem? hci)
 obtain ⟨r, hat⟩ := hl.at_ i c hci
 have hil : i < sn := by
  have := (zH.1 hci).1
  have := hl.len
  have := h.starts.hlen
  omega
 obtain ⟨m, hm⟩ : ∃ m, (if k = 3 ∧ i = 0 then 0 else P.length) = m := ⟨_, rfl⟩
 obtain ⟨hd, hhd⟩ : ∃ hd, (if k = 3 ∧ i = 0 then [] else P) = hd := ⟨_, rfl⟩
 have hkey : hd ++ c.key.drop m = c.key := by
  rw [← hm, ← hhd]
  by_cases hc : k = 3 ∧ i = 0
  ·rw [if_pos hc, if_pos hc]
   simp
  ·rw [if_neg hc, if_neg hc]
   have hb := hl.beg c (zco hci hc)
   conv => lhs; rw [← hb]
   rw [show (List.take P.length c.key).length = P.length from by rw [hb]]
   exact List.take_append_drop _ _
 rw [hm] at hat
 have hpc : pC (body.drop (st.getD i 0)) = some (c.cut m, r) := by rw [hat, pC_mid m c r hcf]
 have hlen : (st.getD i 0) < bn := by
  have h1 := congrArg List.length hat
  rw [zK, zG, h.body.hlen] at h1
  have := qB_pos m c
  omega
 obtain ⟨s0, hst⟩ : ∃ s0, st.getD i 0 = s0 := ⟨_, rfl⟩
 rw [hst] at hpc hlen
 obtain ⟨gb, off, rfl⟩ : ∃ gb off, bo = some ⟨gb, off, none⟩ := by
  rcases h.body.hat with h0 | ⟨b, off, e, _⟩
  ·omega
  ·exact ⟨b, off, e⟩
 obtain ⟨gs, offs, rfl, hgs, hcs⟩ : ∃ b off, so = some ⟨b, off, none⟩ ∧ b < w.heap.size ∧ ∀ j, j < sn → w.cell? ⟨b, off + j, none⟩ = some (.int .i64 ((st.getD j 0 : Nat) : Int)) := by
  rcases h.starts.hat with h0 | h0
  ·omega
  ·exact h0
 have cj := hcs i hil
 rw [hst] at cj
 have HPC := zaa hpc
 have HSL := zaa h.body
 have HPG := zaa h
 have HKEY := zaa hkey
 have i0 : (i : Int) < (sn : Int) := by omega
 have i1 : i < sn := hil
 have hstb : s0 ≤ bn := by omega
 have hbx : ∀ o, Below w.heap.size w (w.alloc o) := fun o => zac Br Lr _
 have hbxx : ∀ o o', Below w.heap.size w ((w.alloc o).alloc o') := fun o o' => zac (hbx o) Lr _
 have HBXX := zaa hbxx
 have d2 := fun o => (h.on (hbx o)).cells.2.2.2.1
 have d3 := fun o => (h.on (hbx o)).cells.2.2.2.2.1
 have e2 := fun o o' => (h.on (hbxx o o')).cells.2.2.2.1
 have e3 := fun o o' => (h.on (hbxx o o')).cells.2.2.2.2.1
 have dj := fun o => ((hbx o).cell (p := ⟨gs, offs + i, none⟩) hgs).trans cj
 have ej := fun o o' => ((hbxx o o').cell (p := ⟨gs, offs + i, none⟩) hgs).trans cj
 have HHD := zaa hhd
 clear h hpc hcs hcf hbx hbxx hci hl hat hkey hm hst hhd
 go_enter Tryz.func160, Tryz.ntmps160
 go_wp2_with fail
 go_region
 obtain ⟨g4, hg4⟩ : ∃ g4, w.heap.size = g4 := ⟨_, rfl⟩
 obtain ⟨x, hx⟩ : ∃ x, ((w.alloc (.cells #[.slice none 0 0, .slice none 0 0, .int .i64 0, .slice none 0 0, .int .i64 0, .int .i64 0] 159)).alloc (.cells #[.slice (some ⟨gb, off, none⟩) bn bc, .int .i64 (s0 : Int), .bool false] 194)).drew = x := ⟨_, rfl⟩
 have hbx : Below w.heap.size w x := by rw [← hx]; exact (HBXX.out _ _).drew
 have HRD : Hid (Rdq x (g4 + 1) (some ⟨gb, off, none⟩) bn bc s0 false) := by
  rw [← hx, ← hg4]
  have hz : (w.alloc (.cells #[.slice none 0 0, .slice none 0 0, .int .i64 0, .slice none 0 0, .int .i64 0, .int .i64 0] 159)).heap.size = w.heap.size + 1 := by simp
  have := heap_alloc_last (w.alloc (.cells #[.slice none 0 0, .slice none 0 0, .int .i64 0, .slice none 0 0, .int .i64 0, .int .i64 0] 159)) (.cells #[.slice (some ⟨gb, off, none⟩) bn bc, .int .i64 (s0 : Int), .bool false] 194)
  rw [hz] at this
  exact zaa this
 have HC4 : Hid (E6 x g4 (.slice none 0 0) (.slice none 0 0) (.int .i64 0) (.slice none 0 0) (.int .i64 0) (.int .i64 0)) := by
  rw [← hx, ← hg4]
  exact zaa ((Below.heap_alloc _ _ _ (by simp)).trans (heap_alloc_last w _))
 have HSX : Hid (Sl x (some ⟨gb, off, none⟩) bn bc body) := zaa (HSL.out.on Lr hbx)
 have HBX := zaa hbx
 rw [hx, hg4]
 have HHE := zaa (head_any x a k n po pn pc _ bn bc _ sn sc ws P body st (HPG.out.on hbx) i)
 rw [HHD.out] at HHE
 have HCL := zaa (ucell_any body x (g4 + 1) gb off bn bc s0 false HRD.out HSX.out hstb)
 have HG4 := zaa hg4
 clear hx hbx c0 c1 c2 c3 c4 c5 cj d2 d3 e2 e3 dj ej hg4
 go_wp2_with (go_at_call 199; refine HHE.out.mono ?_; rintro e w1 ⟨ho, hn, hc, rfl, HHS, hw1⟩; refine Hid.out ?_)
 apply zaa
 clear hw1 HHE
 have HHS1 := zaa HHS.out.1
 have HLH : Hid (Lo G ho hn) := zaa (by
  obtain ⟨_, h2, h3⟩ := HHS.out
  rcases h3 with h3 | h3
  ·exact .inr fun q hq => by rw [h3] at hq; cases hq
  ·rcases hG1 with h4 | h4
   ·left
    rw [h2]
    split <;> omega
   ·exact .inr fun q hq => h4 q (by rw [← h3]; exact hq))
 have HGB : Hid (gb < G) := zaa (by
  rcases hG2 with h0 | h0
  ·omega
  ·exact h0 _ rfl)
 clear HHS
 go_wp2_with (go_at_call 201; refine HCL.out.mono ?_; rintro e w2 ⟨ko, kn, kc, kd, vo, vn, vc, pg, ct, q, en, key, val, rfl, HR2, HCF, HQ⟩; refine Hid.out ?_)
 apply zaa
 obtain ⟨hks, hvs, hlk, hlv, _, hcase⟩ := HQ.out
 have HLKV : Hid (Lo G ko kn ∧ Lo G vo vn) := zaa ⟨.inr fun q hq => by rw [hlk q hq]; exact HGB.out, .inr fun q hq => by rw [hlv q hq]; exact HGB.out⟩
 rw [HPC.out] at hcase
 rcases hcase with ⟨hcase, _⟩ | ⟨hcase, _⟩
 ·injection hcase with hcase
  injection hcase with hc1 hc2
  unfold Cl.cut at hc1
  injection hc1 with g1 g2 g3 g4' g5
  subst g1 g2 g3 g4' g5
  have HKS := zaa hks
  have HVS := zaa hvs
  have HC42 : Hid (E6 w2 g4 (.slice none 0 0) (.slice none 0 0) (.int .i64 0) (.slice none 0 0) (.int .i64 0) (.int .i64 0)) := zaa (HC4.out.cf HCF.out (by omega))
  have HHS2 : Hid (Sl w2 ho hn hc hd) := zaa (HHS1.out.cf HCF.out (HHS1.out.apartq HRD.out))
  obtain ⟨b0, b1, b2, b3, b4, b5⟩ := HC42.out.cells
  have f0 := HC42.out.free 0
  have f1 := HC42.out.free 1
  have f2 := HC42.out.free 2
  have f3 := HC42.out.free 3
  have f4 := HC42.out.free 4
  have f5 := HC42.out.free 5
  have HBE : Hid (Below w.heap.size w w2) := zaa (HBX.out.trans (HCF.out.below HBX.out.size (by have := HG4.out; intro i hi e; omega)))
  clear HQ hks hvs hlk hlv hc2 HCL HCF HR2 HRD HSX HC4 HBX HBXX HHS1
  go_wp2
  refine bodyPost_ret (results_cell_row rfl _ _ g4 159 #[.slice ho hn hc, .slice ko kn kc, .int .i64 c.kd, .slice vo vn vc, .int .i64 c.pg, .int .i64 c.ct] (0, 0) _ (by rfl) (HC42.out.put _ _ _ _ _ _) Tryz.underlying159 rfl sizeEnt) rfl ?_
  have hf := put6_cf w2 g4 (.slice ho hn hc) (.slice ko kn kc) (.int .i64 c.kd) (.slice vo vn vc) (.int .i64 c.pg) (.int .i64 c.ct)
  exact ⟨ho, hn, hc, ko, kn, kc, vo, vn, vc, hd, c.key.drop m, rfl, zaa ⟨HHS2.out.cf hf (HHS2.out.apart6 HC42.out), HKS.out.cf hf (HKS.out.apart6 HC42.out), HVS.out.cf hf (HVS.out.apart6 HC42.out), HKEY.out, HLH.out, HLKV.out.1, HLKV.out.2⟩, zaa (HBE.out.trans (hf.below HBE.out.size (by have := HG4.out; intro i hi e; omega)))⟩
 ·cases hcase
def EAt (w : World) (G b off : Nat) (c : Cl) : Prop :=
 ∃ ho hn hc ko kn kc vo vn vc h key, w.cell? ⟨b, off, none⟩ = some (.slice ho hn hc) ∧ w.cell? ⟨b, off + 1, none⟩ = some (.slice ko kn kc) ∧ w.cell? ⟨b, off + 2, none⟩ = some (.int .i64 c.kd) ∧ w.cell? ⟨b, off + 3, none⟩ = some (.slice vo vn vc) ∧ w.cell? ⟨b, off + 4, none⟩ = some (.int .i64 c.pg) ∧ w.cell? ⟨b, off + 5, none⟩ = some (.int .i64 c.ct) ∧
  Sl w ho hn hc h ∧ Sl w ko kn kc key ∧ Sl w vo vn vc c.val ∧ h ++ key = c.key ∧ Lo G ho hn ∧ Lo G ko kn ∧ Lo G vo vn
structure SlE (w : World) (G : Nat) (ao : Option Addr) (n cap : Nat) (cs : List Cl) : Prop where
 hlen : cs.length = n
 hcap : n ≤ cap
 hroom : n ≤ 140737488355328
 hnil : ao = none → cap = 0
 hat : n = 0 ∨ ∃ b off, ao = some ⟨b, off, none⟩ ∧ b < w.heap.size ∧ ∀ i c, cs[i]? = some c → EAt w G b (off + i * 6) c
theorem EAt.on {w w' : World} {G b off : Nat} {c : Cl} (h : EAt w G b off c) (hb : b < w.heap.size) (hB : Below w.heap.size w w') : EAt w' G b off c := by
 obtain ⟨ho, hn, hc, ko, kn, kc, vo, vn, vc, h', key, h0, h1, h2, h3, h4, h5, s1, s2, s3, r⟩ := h
 exact ⟨ho, hn, hc, ko, kn, kc, vo, vn, vc, h', key, (hB.cell (p := ⟨b, off, none⟩) hb).trans h0, (hB.cell (p := ⟨b, off + 1, none⟩) hb).trans h1, (hB.cell (p := ⟨b, off + 2, none⟩) hb).trans h2, (hB.cell (p := ⟨b, off + 3, none⟩) hb).trans h3, (hB.cell (p := ⟨b, off + 4, none⟩) hb).trans h4, (hB.cell (p := ⟨b, off + 5, none⟩) hb).trans h5, s1.on Lr hB, s2.on Lr hB, s3.on Lr hB, r⟩
theorem SlE.on {w w' : World} {G : Nat} {ao : Option Addr} {n cap : Nat} {cs : List Cl} (h : SlE w G ao n cap cs) (hB : Below w.heap.size w w') : SlE w' G ao n cap cs := by
 refine ⟨h.hlen, h.hcap, h.hroom, h.hnil, ?_⟩
 rcases h.hat with h0 | ⟨b, off, e, hb, hc⟩
 ·exact .inl h0
 ·exact .inr ⟨b, off, e, zO hb hB.size, fun i c hi => (hc i c hi).on hb hB⟩
def zag (w : World) (b N : Nat) : Prop := ∃ cur : Array Value, w.heap[b]? = some (.cells cur 159 (0, 0)) ∧ cur.size = 6 * N
theorem zag.cell {w : World} {b N : Nat} (h : zag w b N) (j : Nat) (hj : j < 6 * N) : (w.cell? ⟨b, j, none⟩).isSome = true := by
 obtain ⟨cur, h1, h2⟩ := h
 simp [World.cell?, h1, h2, hj]
theorem zag.free {w : World} {b N : Nat} (h : zag w b N) (j : Nat) : w.frozen? ⟨b, j, none⟩ = false := by
 obtain ⟨cur, h1, h2⟩ := h
 simp [World.frozen?, h1]
theorem zag.lt {w : World} {b N : Nat} (h : zag w b N) : b < w.heap.size := by
 obtain ⟨cur, h1, _⟩ := h
 exact zah h1
theorem zag.on {w w' : World} {b N : Nat} (h : zag w b N) (hb : Below w.heap.size w w') : zag w' b N := by
 obtain ⟨cur, h1, h2⟩ := h
 exact ⟨cur, zaf h1 hb, h2⟩
theorem zag.set {w : World} {b N : Nat} (h : zag w b N) (j : Nat) (v : Value) : zag (w.setCell ⟨b, j, none⟩ v) b N := by
 obtain ⟨cur, h1, h2⟩ := h
 exact ⟨_, heap_setCell_same w b j cur _ v h1, by simp [h2]⟩
theorem zag.sets {b N : Nat} : ∀ (vs : List Value) (j : Nat) (w : World), zag w b N → zag (w.setCells b j vs) b N
 | [], _, _, h => h
 | v :: r, j, _, h => zag.sets r (j + 1) _ (h.set j v)
theorem zag.there {w : World} {b N : Nat} (h : zag w b N) {j : Nat} (hj : j + 6 ≤ 6 * N) : w.there b j 6 := fun i hi => ⟨h.cell (j + i) (by omega), h.free _⟩
theorem oneCell6 (ho ko vo : Option Addr) (hn hc kn kc vn vc : Nat) (kd pg ct : Int) : (#[.slice ho hn hc, .slice ko kn kc, .int .i64 kd, .slice vo vn vc, .int .i64 pg, .int .i64 ct] : Array Value).all (·.oneCell') = true :=
 all_oneCell_toArray (cs := [.slice ho hn hc, .slice ko kn kc, .int .i64 kd, .slice vo vn vc, .int .i64 pg, .int .i64 ct]) (by simp [Value.oneCell'])
theorem put_entry {ops : Array Oper} {rest : List Oper} {o : Oper} {a : Act} {w : World} {Q : Exit → Act → World → Prop} (hgd : o.guard = none) (p v : Operand)
  (hop : o.op = .store 159 p v) (b j N : Nat) (ho ko vo : Option Addr) (hn hc kn kc vn vc : Nat) (kd pg ct : Int) (hr : zag w b N) (hp : a.eval p = .pointer (some ⟨b, j, none⟩)) (hv : a.eval v = .agg #[.slice ho hn hc, .slice ko kn kc, .int .i64 kd, .slice vo vn vc, .int .i64 pg, .int .i64 ct]) (hj : j + 6 ≤ 6 * N)
  (h : ∀ u, Hid (u = w.setCells b j [.slice ho hn hc, .slice ko kn kc, .int .i64 kd, .slice vo vn vc, .int .i64 pg, .int .i64 ct]) → wpList Tryz.prog ops Q rest (a.put o.dst undef) u) : wpList Tryz.prog ops Q (o :: rest) a w :=
 wpList_store_mid hgd _ p v hop b j #[.slice ho hn hc, .slice ko kn kc, .int .i64 kd, .slice vo vn vc, .int .i64 pg, .int .i64 ct] hp hv (hr.there hj) sizeEnt (oneCell6 ..) (h _ (zaa rfl))
theorem Sl.sets {w : World} {ao : Option Addr} {n cap G b j : Nat} {l : List Int} {vs : List Value} (h : Sl w ao n cap l) (hlo : Lo G ao n) (hG : G ≤ b) : Sl (w.setCells b j vs) ao n cap l := by
 refine ⟨h.hlen, h.hcap, h.hroom, h.wf, h.hnil, ?_⟩
 rcases h.hat with h0 | ⟨q, off, e, hlt, hc⟩
 ·exact .inl h0
 ·rcases hlo with h0 | hlo
  ·exact .inl h0
  ·have hq := hlo _ e
   simp only at hq
   have hblk : (w.setCells b j vs).heap[q]? = w.heap[q]? := World.heap_setCells_other _ _ _ _ hlt (by omega)
   refine .inr ⟨q, off, e, zah (hblk.trans (Array.getElem?_eq_getElem hlt)), fun i hi => ?_⟩
   rw [← hc i hi]
   exact World.cell?_of_block hblk
theorem EAt.put {w : World} {G b i j : Nat} {c : Cl} {vs : List Value} (h : EAt w G b (i * 6) c) (hG : G ≤ b) (hij : i < j) : EAt (w.setCells b (j * 6) vs) G b (i * 6) c := by
 obtain ⟨ho, hn, hc, ko, kn, kc, vo, vn, vc, h', key, h0, h1, h2, h3, h4, h5, s1, s2, s3, e, l1, l2, l3⟩ := h
 have hout : ∀ d, d < 6 → (w.setCells b (j * 6) vs).cell? ⟨b, i * 6 + d, none⟩ = w.cell? ⟨b, i * 6 + d, none⟩ := fun d hd => World.cell?_setCells_out b _ _ w _ (fun _ _ => .inl (by simp only; omega))
 exact ⟨ho, hn, hc, ko, kn, kc, vo, vn, vc, h', key, (hout 0 (by omega)).trans h0, (hout 1 (by omega)).trans h1, (hout 2 (by omega)).trans h2, (hout 3 (by omega)).trans h3, (hout 4 (by omega)).trans h4, (hout 5 (by omega)).trans h5, s1.sets l1 hG, s2.sets l2 hG, s3.sets l3 hG, e, l1, l2, l3⟩
theorem EAt.new {w : World} {G b N j : Nat} {c : Cl} {ho ko vo : Option Addr} {hn hc kn kc vn vc : Nat} {h key : List Int} (hr : zag w b N) (hj : j * 6 + 6 ≤ 6 * N) (hG : G ≤ b) (s1 : Sl w ho hn hc h) (s2 : Sl w ko kn kc key) (s3 : Sl w vo vn vc c.val) (e : h ++ key = c.key) (l1 : Lo G ho hn) (l2 : Lo G ko kn) (l3 : Lo G vo vn) :
  EAt (w.setCells b (j * 6) [.slice ho hn hc, .slice ko kn kc, .int .i64 c.kd, .slice vo vn vc, .int .i64 c.pg, .int .i64 c.ct]) G b (j * 6) c := by
 have h' := World.rangeAt_setCells_same w b (j * 6) [.slice ho hn hc, .slice ko kn kc, .int .i64 c.kd, .slice vo vn vc, .int .i64 c.pg, .int .i64 c.ct] (hr.there hj)
 exact ⟨ho, hn, hc, ko, kn, kc, vo, vn, vc, h, key, h' 0 _ rfl, h' 1 _ rfl, h' 2 _ rfl, h' 3 _ rfl, h' 4 _ rfl, h' 5 _ rfl, s1.sets l1 hG, s2.sets l2 hG, s3.sets l3 hG, e, l1, l2, l3⟩
theorem Lo.mono {G H : Nat} {ao : Option Addr} {n : Nat} (h : Lo G ao n) (hG : G ≤ H) : Lo H ao n := by
 rcases h with h0 | h
 ·exact .inl h0
 ·exact .inr fun q hq => zO (h q hq) hG
theorem infoE : (Tryz.prog.info? 159).map (fun i => (i.zero, i.size, i.bytes)) = some (some (.agg #[.slice none 0 0, .slice none 0 0, .int .i64 0, .slice none 0 0, .int .i64 0, .int .i64 0]), 6, 96) := by kernel_rfl
theorem zbl (w : World) (a : Nat) (k : Int) (n : Nat) (po : Option Addr) (pn pc : Nat) (bo : Option Addr) (bn bc : Nat) (so : Option Addr) (sn sc : Nat) (ws : Int) (P body : List Int) (st : List Nat) (h : PgQ w a k n po pn pc bo bn bc so sn sc ws P body st) :
  Calls Tryz.prog 159 #[.pointer (some ⟨a, 0, none⟩)] w fun e w' => e = .returned (.int .i64 (sn : Int)) ∧ w' = w := by
 obtain ⟨c0, c1, c2, c3, c4, c5⟩ := h.cells
 clear h
 go_enter Tryz.func159, Tryz.ntmps159
 go_wp2
 go_ret
 exact ⟨rfl, rfl⟩
end Go.Proofs.YtofafbmpbkjhnaaGreatDoor
