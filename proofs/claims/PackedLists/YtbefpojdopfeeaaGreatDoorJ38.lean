/- packed: Page.has and Page.Remove where there is no such cell; Page.Waste. -/
import Derived.Test.YtbefpojdopfeeaaGreatDoorJ37
import Derived.Test.YtbefpojdopfeeaaGreatDoorJ32
import Derived.Test.YtbefpojdopfeeaaGreatDoorJ17
namespace Go.Proofs.YtbefpojdopfeeaaGreatDoor
open Go.RowKit

set_option maxRecDepth 100000 in
theorem hasQ_no (w : World) (a : Nat) (k : Int) (n : Nat) (po : Option Addr) (pn pc : Nat) (bo : Option Addr) (bn bc : Nat) (so : Option Addr) (sn sc : Nat) (ws : Int) (P body : List Int) (st : List Nat) (h : PgQ w a k n po pn pc bo bn bc so sn sc ws P body st) (i : Int) (hi : ¬ (0 ≤ i ∧ i < (sn : Int))) :
    Calls Tryz.prog 42 #[.pointer (some ⟨a, 0, none⟩), .int .i64 i] w fun e w' => e = .returned (.bool false) ∧ w' = w := by
  have HL := hidden (qlen_any w a k n po pn pc bo bn bc so sn sc ws P body st h)
  clear h
  by_cases h0 : 0 ≤ i
  · have h1 : ¬ i < (sn : Int) := fun h => hi ⟨h0, h⟩
    clear hi
    go_enter Tryz.func42, Tryz.ntmps42
    go_wp2_with (first | (go_at_call 26; refine same_call HL.out ?_))
    go_ret
    exact ⟨by simp; omega, rfl⟩
  · clear hi
    go_enter Tryz.func42, Tryz.ntmps42
    go_wp2_with (first | (go_at_call 26; refine same_call HL.out ?_))
    go_ret
    exact ⟨by simp, rfl⟩
set_option maxRecDepth 100000 in
theorem rem_no (w : World) (a : Nat) (k : Int) (n : Nat) (po : Option Addr) (pn pc : Nat) (bo : Option Addr) (bn bc : Nat) (so : Option Addr) (sn sc : Nat) (ws : Int) (P body : List Int) (st : List Nat) (h : PgQ w a k n po pn pc bo bn bc so sn sc ws P body st) (i : Int) (hi : ¬ (0 ≤ i ∧ i < (sn : Int))) :
    Calls Tryz.prog 13 #[.pointer (some ⟨a, 0, none⟩), .int .i64 i] w fun e w' => e = .returned (.int .i64 64) ∧ w' = w := by
  have HHS := hidden (hasQ_no w a k n po pn pc bo bn bc so sn sc ws P body st h i hi)
  clear h hi
  go_enter Tryz.func13, Tryz.ntmps13
  go_wp2_with (first | (go_at_call 42; refine same_call HHS.out ?_))
  go_ret
  exact ⟨rfl, rfl⟩
set_option maxRecDepth 100000 in
theorem waste_any (w : World) (a : Nat) (k : Int) (n : Int) (vp vb vs : Value) (ws : Int) (h : QR w a k n vp vb vs ws) :
    Calls Tryz.prog 16 #[.pointer (some ⟨a, 0, none⟩)] w fun e w' => e = .returned (.int .i64 ws) ∧ w' = w := by
  obtain ⟨c0, c1, c2, c3, c4, c5⟩ := h.cells
  clear h
  go_enter Tryz.func16, Tryz.ntmps16
  go_wp2_with fail
  go_ret
  exact ⟨rfl, rfl⟩
end Go.Proofs.YtbefpojdopfeeaaGreatDoor

/- packed: lay, where there is no room. -/

namespace Go.Proofs.YtbefpojdopfeeaaGreatDoor
open Go.RowKit

set_option maxRecDepth 100000 in
set_option maxHeartbeats 10995116277760 in
theorem lay_no (w : World) (a : Nat) (k : Int) (n : Nat) (po : Option Addr) (pn pc : Nat) (bo : Option Addr) (bn bc : Nat) (so : Option Addr) (sn sc : Nat) (ws : Int) (h : QR w a k n (.slice po pn pc) (.slice bo bn bc) (.slice so sn sc) ws) (G : Nat) (ao : Option Addr) (m cap : Nat) (cs : List Cl) (hs : SlE w G ao m cap cs) (hG : G ≤ w.heap.size) (hr : Rs cs) (hf : ∀ c ∈ cs, c.fit) (hn : n ≤ 65536) (hfit : n < szQ k (shP k cs).length cs) (hbig : szQ k (shP k cs).length cs ≤ 1099511627776) (hm : m ≤ 65536) :
    Calls Tryz.prog 45 #[.pointer (some ⟨a, 0, none⟩), .slice ao m cap] w fun e w' => e = .returned (.int .i64 61) ∧ Hid (Below w.heap.size w w') := by
  have hz := szQ_eq k (shP k cs).length cs
  obtain ⟨Z, hZ⟩ : ∃ Z, szQ k (shP k cs).length cs = Z := ⟨_, rfl⟩
  rw [hZ] at hz hfit hbig
  have E1 : Hid (∀ u, Below w.heap.size w u → Calls Tryz.prog 54 #[.int .i64 k, .int .i64 (n : Int), .slice ao m cap] u fun e w' => ∃ b qo qn qc co cn cc to_ tn tc, e = .returned (.pointer (some ⟨b, 0, none⟩)) ∧ w'.cell? ⟨a, 1, none⟩ = some (.int .i64 (n : Int)) ∧ Hid (PO w' w.heap.size b k n qo qn qc (.slice co cn cc) (.slice to_ tn tc) 0 (shP k cs) (qbd (shP k cs).length (whl k) cs) (qst (shP k cs).length (whl k) 0 cs)) ∧ Hid (Below w.heap.size w w') ∧ Hid (10 + qn + 2 * tn + cn = Z)) := by
    refine hidden fun u hu => (laid_any k n G ao m cap cs u (hs.on hu) (Nat.le_trans hG hu.size) hr hf hm (by omega)).mono ?_
    intro e w' hq
    obtain ⟨b, qo, qn, qc, co, cn, cc, to_, tn, tc, rfl, HPO, HB, HN⟩ := hq.po
    have hb := bl_go hu (Nat.le_refl _) HB.out
    have hpo := HPO.out
    obtain ⟨n1, n2, n3⟩ := HN.out
    refine ⟨b, qo, qn, qc, co, cn, cc, to_, tn, tc, rfl, (show QR w' a k n (.slice po pn pc) (.slice bo bn bc) (.slice so sn sc) ws from box_on h hb).cells.2.1, hidden ⟨hpo.row, hpo.pre, hpo.ob.low hu.size, ?_, hpo.far, Nat.le_trans hu.size hpo.ha⟩, hidden hb, hidden (by omega)⟩
    have h6 := hpo.on
    unfold OwnN at h6 ⊢
    rcases h6.2 with h8 | ⟨g, c, cur, e, hg, r⟩
    · exact ⟨h6.1, .inl h8⟩
    · exact ⟨h6.1, .inr ⟨g, c, cur, e, Nat.le_trans hu.size hg, r⟩⟩
  have HRA : Hid (∀ u, Below w.heap.size w u → QR u a k n (.slice po pn pc) (.slice bo bn bc) (.slice so sn sc) ws) := hidden fun u hu => box_on h hu
  obtain ⟨c0, c1, c2, c3, c4, c5⟩ := h.cells
  have hfI : (n : Int) < (Z : Int) := by omega
  have hZI : (Z : Int) ≤ 1099511627776 := by omega
  have hnI : (n : Int) ≤ 65536 := by omega
  clear h hs hr hf hz hZ
  go_enter Tryz.func45, Tryz.ntmps45
  go_upto_region 1 with fail
  go_cut [5] from 6 to 15 (fun v u => ∃ b qo qn qc co cn cc to_ tn tc, v = .pointer (some ⟨b, 0, none⟩) ∧ Hid (PO u w.heap.size b k n qo qn qc (.slice co cn cc) (.slice to_ tn tc) 0 (shP k cs) (qbd (shP k cs).length (whl k) cs) (qst (shP k cs).length (whl k) 0 cs)) ∧ Hid (Below w.heap.size w u) ∧ Hid (10 + qn + 2 * tn + cn = Z))
  case first =>
    go_wp2_with fail
    go_region_with (first | (go_at_call 54; refine (E1.out _ (by first | exact Below.refl _ _ | exact (Below.refl _ _).drew | exact bl_dr (Below.refl _ _) _)).mono ?_; rintro e w1 ⟨b, qo, qn, qc, co, cn, cc, to_, tn, tc, rfl, y1, HPO, HB1, HZ1⟩))
    all_goals (try go_wp2_with fail)
    all_goals go_meet
    all_goals exact ⟨b, qo, qn, qc, co, cn, cc, to_, tn, tc, rfl, by first | exact HPO | exact hidden (HPO.out.go (Below.refl _ _).drew) | exact hidden (HPO.out.go (bl_dr (Below.refl _ _) _)), by first | exact HB1 | exact hidden HB1.out.drew | exact hidden (bl_dr HB1.out _), HZ1⟩
  obtain ⟨b, qo, qn, qc, co, cn, cc, to_, tn, tc, rfl, HPO, HB1, HZ1⟩ := hcut
  obtain ⟨w1, hw1⟩ : ∃ w1, w1 = wc := ⟨_, rfl⟩
  subst hw1
  clear c0 c1 c2 c3 c4 c5 E1
  have hz1 := HZ1.out
  have HUS : Hid (∀ u, Below w1.heap.size w1 u → Calls Tryz.prog 17 #[.pointer (some ⟨b, 0, none⟩)] u fun e w' => e = .returned (.int .i64 (Z : Int)) ∧ w'.cell? ⟨a, 1, none⟩ = some (.int .i64 (n : Int)) ∧ Hid (Below w1.heap.size w1 w')) := by
    refine hidden fun u hu => (usedQ_any u b k n qo qn qc co cn cc to_ tn tc (box_on HPO.out.row hu) (by omega) (by omega) (by omega) Z hz1).mono ?_
    rintro e w' ⟨rfl, HB⟩
    have hb := bl_go hu (Nat.le_refl _) HB.out
    exact ⟨rfl, (HRA.out w' (bl_go HB1.out (Nat.le_refl _) hb)).cells.2.1, hidden hb⟩
  have c1 := (HRA.out w1 HB1.out).cells.2.1
  clear hz1
  go_upto_region 2 with fail
  go_cut [22] from 16 to 22 (fun v u => v = .bool true ∧ Hid (Below w1.heap.size w1 u))
  case first =>
    go_wp2_with fail
    go_region_with (first | (go_at_call 17; refine (HUS.out _ (by first | exact Below.refl _ _ | exact (Below.refl _ _).drew | exact bl_dr (Below.refl _ _) _)).mono ?_; rintro e w2 ⟨rfl, y1, HB2⟩))
    all_goals (try go_wp2_with fail)
    all_goals go_meet
    all_goals exact ⟨by (simp <;> omega), by first | exact HB2 | exact hidden HB2.out.drew | exact hidden (bl_dr HB2.out _)⟩
  obtain ⟨rfl, HB2⟩ := hcut
  obtain ⟨w2, hw2⟩ : ∃ w2, w2 = wc := ⟨_, rfl⟩
  subst hw2
  clear c1 HUS
  go_wp2
  go_ret
  exact ⟨rfl, hidden (bl_go HB1.out (Nat.le_refl _) HB2.out)⟩
end Go.Proofs.YtbefpojdopfeeaaGreatDoor

/- packed: a page as plain data (its prefix, its cells, its waste), and what a change makes of it: plain mathematics; a page in memory. -/

namespace Go.Proofs.YtbefpojdopfeeaaGreatDoor
open Go.RowKit

set_option maxRecDepth 100000 in
theorem ordL_flip : ∀ (a b : List Int), ordL a b = - ordL b a
  | [], [] => rfl
  | [], _ :: _ => rfl
  | _ :: _, [] => rfl
  | x :: a, y :: b => by
    have ih := ordL_flip a b
    simp only [ordL]
    by_cases h1 : x < y
    · have h2 : ¬ y < x := by omega
      rw [if_pos h1, if_neg h2, if_pos h1]
    · by_cases h2 : y < x
      · rw [if_neg h1, if_pos h2, if_pos h2]
        rfl
      · rw [if_neg h1, if_neg h2, if_neg h2, if_neg h1]
        exact ih
/-- A list with one in the place of those from i to j - 1. -/
def spl {α : Type} (l : List α) (i j : Nat) (x : α) : List α := l.take i ++ [x] ++ l.drop j
set_option maxRecDepth 100000 in
theorem spl_get {α : Type} (l : List α) (i j : Nat) (x : α) (hi : i ≤ l.length) (q : Nat) : (spl l i j x)[q]? = if q < i then l[q]? else if q = i then some x else l[j + (q - i - 1)]? := by
  have hl : (l.take i).length = i := by rw [List.length_take]; omega
  unfold spl
  by_cases h1 : q < i
  · rw [if_pos h1, List.append_assoc, List.getElem?_append_left (by omega), List.getElem?_take_of_lt h1]
  · rw [if_neg h1]
    by_cases h2 : q = i
    · subst h2
      rw [if_pos rfl, List.append_assoc, List.getElem?_append_right (by omega), hl, Nat.sub_self]
      rfl
    · rw [if_neg h2, List.getElem?_append_right (by rw [List.length_append, hl]; simp; omega), List.length_append, hl, List.getElem?_drop]
      congr 1
set_option maxRecDepth 100000 in
theorem cut_get {α : Type} (l : List α) (i j : Nat) (hi : i ≤ l.length) (q : Nat) : (l.take i ++ l.drop j)[q]? = if q < i then l[q]? else l[j + (q - i)]? := by
  have hl : (l.take i).length = i := by rw [List.length_take]; omega
  by_cases h1 : q < i
  · rw [if_pos h1, List.getElem?_append_left (by omega), List.getElem?_take_of_lt h1]
  · rw [if_neg h1, List.getElem?_append_right (by omega), hl, List.getElem?_drop]
set_option maxRecDepth 100000 in
theorem spl_length {α : Type} (l : List α) (i j : Nat) (x : α) (hi : i ≤ l.length) : (spl l i j x).length = i + 1 + (l.length - j) := by
  unfold spl
  simp
  omega
set_option maxRecDepth 100000 in
theorem spl_mem {α : Type} {l : List α} {i j : Nat} {x y : α} (h : y ∈ spl l i j x) : y = x ∨ y ∈ l.take i ∨ y ∈ l.drop j := by
  unfold spl at h
  rcases List.mem_append.1 h with h | h
  · rcases List.mem_append.1 h with h | h
    · exact .inr (.inl h)
    · exact .inl (by simpa using h)
  · exact .inr (.inr h)
set_option maxRecDepth 100000 in
theorem spl_mem' {α : Type} {l : List α} {i j : Nat} {x y : α} (h : y ∈ spl l i j x) : y = x ∨ y ∈ l := by
  rcases spl_mem h with h | h | h
  · exact .inl h
  · exact .inr (List.mem_of_mem_take h)
  · exact .inr (List.mem_of_mem_drop h)
/-- What of a key stands elsewhere. -/
def hdQ (k : Int) (i : Nat) (P : List Int) : List Int := if k = 3 ∧ i = 0 then [] else P
set_option maxRecDepth 100000 in
theorem hdQ_len (k : Int) (i : Nat) (P : List Int) : (if k = 3 ∧ i = 0 then 0 else P.length) = (hdQ k i P).length := by unfold hdQ; split <;> rfl
set_option maxRecDepth 100000 in
theorem LayQ.lt {k : Int} {P : List Int} {cs : List Cl} {body : List Int} {st : List Nat} (h : LayQ k P cs body st) {i : Nat} {c : Cl} (hi : cs[i]? = some c) : st.getD i 0 < body.length := by
  obtain ⟨r, hr⟩ := h.at_ i c hi
  have h1 := congrArg List.length hr
  rw [List.length_drop, List.length_append] at h1
  have := qB_pos (if k = 3 ∧ i = 0 then 0 else P.length) c
  omega
set_option maxRecDepth 100000 in
theorem ktl_get {k : Int} {cs : List Cl} {c : Cl} (h : c ∈ ktl k cs) : ∃ j, cs[j]? = some c ∧ ¬ (k = 3 ∧ j = 0) := by
  unfold ktl at h
  by_cases hk : k = 3
  · rw [if_pos hk] at h
    obtain ⟨j, hj⟩ := List.getElem?_of_mem h
    refine ⟨j + 1, ?_, by omega⟩
    rwa [List.getElem?_tail] at hj
  · rw [if_neg hk] at h
    obtain ⟨j, hj⟩ := List.getElem?_of_mem h
    exact ⟨j, hj, by omega⟩
set_option maxRecDepth 100000 in
theorem beg_of {k : Int} {P : List Int} {cs : List Cl} (h : ∀ j c, cs[j]? = some c → ¬ (k = 3 ∧ j = 0) → c.key.take P.length = P) : Beg k P cs := fun c hc => by
  obtain ⟨j, h1, h2⟩ := ktl_get hc
  exact h j c h1 h2
set_option maxRecDepth 100000 in
theorem getD_of {l : List Nat} {i j : Nat} {m : List Nat} (h : l[i]? = m[j]?) : l.getD i 0 = m.getD j 0 := by
  rw [List.getD_eq_getElem?_getD, List.getD_eq_getElem?_getD, h]
set_option maxRecDepth 100000 in
/-- A cell put behind the others' bytes. -/
theorem LayQ.put {k : Int} {P : List Int} {cs : List Cl} {body : List Int} {st : List Nat} (h : LayQ k P cs body st) {i j : Nat} (hij : j = i ∨ j = i + 1) (hj : j ≤ cs.length) (hk : j = i → ¬ (k = 3 ∧ i = 0)) {c : Cl} (hc : c.fit) (hb : c.key.take (hdQ k i P).length = hdQ k i P) :
    LayQ k P (spl cs i j c) (body ++ qB (hdQ k i P).length c) (spl st i j body.length) := by
  have hl := h.len
  have hi : i ≤ cs.length := by omega
  have hold : ∀ q d, cs[q]? = some d → ∃ r, (body ++ qB (hdQ k i P).length c).drop (st.getD q 0) = qB (if k = 3 ∧ q = 0 then 0 else P.length) d ++ r := by
    intro q d hd
    obtain ⟨r, hr⟩ := h.at_ q d hd
    have := h.lt hd
    refine ⟨r ++ qB (hdQ k i P).length c, ?_⟩
    rw [List.drop_append_of_le_length (by omega), hr, List.append_assoc]
  refine ⟨?_, ?_, ?_, ?_⟩
  · rw [spl_length _ _ _ _ hi, spl_length _ _ _ _ (by omega)]
    omega
  · refine beg_of fun q d hd hq => ?_
    rw [spl_get _ _ _ _ hi] at hd
    split at hd
    · exact h.beg d (mem_ktl hd hq)
    · split at hd
      · injection hd with hd
        subst hd
        unfold hdQ at hb
        rwa [if_neg (by omega)] at hb
      · exact h.beg d (mem_ktl hd (by omega))
  · intro d hd
    rcases spl_mem' hd with rfl | hd
    · exact hc
    · exact h.fit d hd
  · intro q d hd
    rw [spl_get _ _ _ _ hi] at hd
    have hg := spl_get st i j body.length (by omega) q
    split at hd
    · next h1 =>
      rw [if_pos h1] at hg
      rw [getD_of hg]
      exact hold q d hd
    · next h1 =>
      rw [if_neg h1] at hg
      split at hd
      · next h2 =>
        rw [if_pos h2] at hg
        injection hd with hd
        subst hd
        subst h2
        rw [List.getD_eq_getElem?_getD, hg, Option.getD_some, List.drop_left, hdQ_len]
        exact ⟨[], by simp⟩
      · next h2 =>
        rw [if_neg h2] at hg
        rw [getD_of hg, if_neg (show ¬ (k = 3 ∧ q = 0) by omega)]
        obtain ⟨r, hr⟩ := hold _ d hd
        rw [if_neg (show ¬ (k = 3 ∧ j + (q - i - 1) = 0) by omega)] at hr
        exact ⟨r, hr⟩
set_option maxRecDepth 100000 in
theorem LayQ.rem {k : Int} {P : List Int} {cs : List Cl} {body : List Int} {st : List Nat} (h : LayQ k P cs body st) {i j : Nat} (hij : i + 1 = j) (hj : j ≤ cs.length) (hk : ¬ (k = 3 ∧ i = 0)) :
    LayQ k P (cs.take i ++ cs.drop j) body (st.take i ++ st.drop j) := by
  have hl := h.len
  have hi : i ≤ cs.length := by omega
  refine ⟨?_, ?_, ?_, ?_⟩
  · simp
    omega
  · refine beg_of fun q d hd hq => ?_
    rw [cut_get _ _ _ hi] at hd
    split at hd
    · exact h.beg d (mem_ktl hd hq)
    · exact h.beg d (mem_ktl hd (by omega))
  · intro d hd
    rcases List.mem_append.1 hd with hd | hd
    · exact h.fit d (List.mem_of_mem_take hd)
    · exact h.fit d (List.mem_of_mem_drop hd)
  · intro q d hd
    rw [cut_get _ _ _ hi] at hd
    have hg := cut_get st i j (by omega) q
    split at hd
    · next h1 =>
      rw [if_pos h1] at hg
      rw [getD_of hg]
      exact h.at_ q d hd
    · next h1 =>
      rw [if_neg h1] at hg
      rw [getD_of hg, if_neg (show ¬ (k = 3 ∧ q = 0) by omega)]
      obtain ⟨r, hr⟩ := h.at_ _ d hd
      rw [if_neg (show ¬ (k = 3 ∧ j + (q - i) = 0) by omega)] at hr
      exact ⟨r, hr⟩
/-- How many bytes the cells take. -/
def lvQ (k : Int) (P : List Int) (cs : List Cl) : Nat := (qbd P.length (whl k) cs).length
set_option maxRecDepth 100000 in
theorem qbd_app (m : Nat) : ∀ (f : Bool) (a b : List Cl), qbd m f (a ++ b) = qbd m f a ++ qbd m (f && a.isEmpty) b
  | f, [], b => by simp [qbd]
  | f, c :: a, b => by
    have ih := qbd_app m false a b
    simp only [Bool.false_and] at ih
    simp only [List.cons_append, qbd, ih, List.isEmpty_cons, Bool.and_false, List.append_assoc]
set_option maxRecDepth 100000 in
theorem whl_at {k : Int} {cs : List Cl} {i : Nat} (hi : i ≤ cs.length) : (whl k && (cs.take i).isEmpty) = decide (k = 3 ∧ i = 0) := by
  unfold whl
  by_cases h : i = 0
  · subst h
    simp
  · have : (cs.take i).isEmpty = false := by
      rw [List.isEmpty_eq_false_iff]
      intro e
      have := congrArg List.length e
      rw [List.length_take, List.length_nil] at this
      omega
    simp [this, h]
set_option maxRecDepth 100000 in
theorem cut_dec (k : Int) (i : Nat) (P : List Int) : (if decide (k = 3 ∧ i = 0) = true then 0 else P.length) = (hdQ k i P).length := by
  unfold hdQ
  by_cases h : k = 3 ∧ i = 0
  · rw [decide_eq_true h, if_pos rfl, if_pos h]; rfl
  · rw [decide_eq_false h, if_neg (by decide), if_neg h]
set_option maxRecDepth 100000 in
theorem lvQ_ins (k : Int) (P : List Int) (cs : List Cl) (i : Nat) (c : Cl) (hi : i ≤ cs.length) (hk : ¬ (k = 3 ∧ i = 0)) : lvQ k P (spl cs i i c) = lvQ k P cs + (qB P.length c).length := by
  have h1 := qbd_app P.length (whl k) (cs.take i) (cs.drop i)
  rw [List.take_append_drop, whl_at hi, decide_eq_false hk] at h1
  unfold lvQ spl
  rw [h1, List.append_assoc, qbd_app P.length (whl k) (cs.take i), whl_at hi, decide_eq_false hk]
  simp [qbd]
  omega
set_option maxRecDepth 100000 in
theorem lvQ_set (k : Int) (P : List Int) (cs : List Cl) (i j : Nat) (c d : Cl) (hij : i + 1 = j) (hd : cs[i]? = some d) : lvQ k P (spl cs i j c) + (qB (hdQ k i P).length d).length = lvQ k P cs + (qB (hdQ k i P).length c).length := by
  obtain ⟨hi, e⟩ := List.getElem?_eq_some_iff.1 hd
  have h1 := qbd_app P.length (whl k) (cs.take i) (cs.drop i)
  rw [List.take_append_drop, whl_at (by omega), List.drop_eq_getElem_cons hi, e, hij] at h1
  unfold lvQ spl
  rw [h1, List.append_assoc, qbd_app P.length (whl k) (cs.take i), whl_at (by omega)]
  simp only [qbd, cut_dec, List.cons_append, List.nil_append, List.length_append]
  omega
set_option maxRecDepth 100000 in
theorem lvQ_rem (k : Int) (P : List Int) (cs : List Cl) (i j : Nat) (d : Cl) (hij : i + 1 = j) (hd : cs[i]? = some d) (hk : ¬ (k = 3 ∧ i = 0)) : lvQ k P (cs.take i ++ cs.drop j) + (qB P.length d).length = lvQ k P cs := by
  obtain ⟨hi, e⟩ := List.getElem?_eq_some_iff.1 hd
  have h1 := qbd_app P.length (whl k) (cs.take i) (cs.drop i)
  rw [List.take_append_drop, whl_at (by omega), decide_eq_false hk, List.drop_eq_getElem_cons hi, e, hij] at h1
  unfold lvQ
  rw [h1, qbd_app P.length (whl k) (cs.take i), whl_at (by omega), decide_eq_false hk]
  simp only [qbd, List.length_append, Bool.false_eq_true, if_false]
  omega
/-- The new cell stands behind the one ahead of it and ahead of the one behind it. -/
def ordOk (cs : List Cl) (i j : Nat) (c : Cl) : Prop := (∀ t d, i = t + 1 → cs[t]? = some d → ordL d.key c.key < 0) ∧ (∀ d, cs[j]? = some d → 0 < ordL d.key c.key)
set_option maxRecDepth 100000 in
theorem rs_spl {cs : List Cl} {i j : Nat} {c : Cl} (hr : Rs cs) (hij : i ≤ j) (hj : j ≤ cs.length) (ho : ordOk cs i j c) : Rs (spl cs i j c) := by
  have hlo : ∀ q d, q < i → cs[q]? = some d → kl d.key c.key := by
    intro q d hq hd
    obtain ⟨t, rfl⟩ : ∃ t, i = t + 1 := ⟨i - 1, by omega⟩
    obtain ⟨e, he⟩ : ∃ e, cs[t]? = some e := ⟨_, List.getElem?_eq_getElem (by omega)⟩
    have h1 : kl e.key c.key := by
      have := ho.1 t e rfl he
      have h3 := ordL_three e.key c.key
      unfold kl
      omega
    by_cases e2 : q = t
    · subst e2
      rw [he] at hd
      injection hd with hd
      subst hd
      exact h1
    · exact kl_trans _ _ _ (rs_at hr (show q < t by omega) hd he) h1
  have hhi : ∀ q d, j ≤ q → cs[q]? = some d → kl c.key d.key := by
    intro q d hq hd
    have hql := (List.getElem?_eq_some_iff.1 hd).1
    obtain ⟨e, he⟩ : ∃ e, cs[j]? = some e := ⟨_, List.getElem?_eq_getElem (by omega)⟩
    have h1 : kl c.key e.key := by
      have := ho.2 e he
      have h3 := ordL_three e.key c.key
      have h4 := ordL_flip c.key e.key
      unfold kl
      omega
    by_cases e2 : q = j
    · subst e2
      rw [he] at hd
      injection hd with hd
      subst hd
      exact h1
    · exact kl_trans _ _ _ h1 (rs_at hr (show j < q by omega) he hd)
  unfold Rs
  rw [List.pairwise_iff_getElem]
  intro p q hp hq hpq
  have gp := spl_get cs i j c (by omega) p
  have gq := spl_get cs i j c (by omega) q
  rw [List.getElem?_eq_getElem hp] at gp
  rw [List.getElem?_eq_getElem hq] at gq
  generalize (spl cs i j c)[p] = x at *
  generalize (spl cs i j c)[q] = y at *
  by_cases h1 : p < i
  · rw [if_pos h1] at gp
    by_cases h2 : q < i
    · rw [if_pos h2] at gq
      exact rs_at hr hpq gp.symm gq.symm
    · rw [if_neg h2] at gq
      by_cases h3 : q = i
      · rw [if_pos h3] at gq
        injection gq with gq
        subst gq
        exact hlo p x h1 gp.symm
      · rw [if_neg h3] at gq
        exact rs_at hr (show p < j + (q - i - 1) by omega) gp.symm gq.symm
  · rw [if_neg h1] at gp
    rw [if_neg (by omega), if_neg (by omega)] at gq
    by_cases h3 : p = i
    · rw [if_pos h3] at gp
      injection gp with gp
      subst gp
      exact hhi _ y (by omega) gq.symm
    · rw [if_neg h3] at gp
      exact rs_at hr (show j + (p - i - 1) < j + (q - i - 1) by omega) gp.symm gq.symm
set_option maxRecDepth 100000 in
theorem rs_cut {cs : List Cl} (i j : Nat) (hij : i ≤ j) (hr : Rs cs) : Rs (cs.take i ++ cs.drop j) := by
  unfold Rs at *
  refine List.Pairwise.sublist ?_ hr
  have h1 : cs.take i ++ cs.drop j = cs.take i ++ (cs.drop i).drop (j - i) := by rw [List.drop_drop]; congr 2; omega
  rw [h1]
  conv => rhs; rw [← List.take_append_drop i cs]
  exact List.Sublist.append (List.Sublist.refl _) (List.drop_sublist _ _)
/-- A page as plain data: the prefix, the cells, the waste. -/
structure Qs where
  P : List Int
  cs : List Cl
  ws : Nat
/-- How many bytes are taken, or are not to be had till the page is laid anew. -/
def filQ (k : Int) (s : Qs) : Nat := 10 + s.P.length + 2 * s.cs.length + s.ws + lvQ k s.P s.cs
set_option maxRecDepth 100000 in
theorem filQ_eq (k : Int) (s : Qs) : filQ k s = szQ k s.P.length s.cs + s.ws := by
  have := szQ_eq k s.P.length s.cs
  unfold filQ lvQ
  omega
/-- What laying a page anew comes to. -/
def LayR (k : Int) (n : Nat) (s : Qs) (cs : List Cl) (code : Int) (t : Qs) : Prop :=
  (szQ k (shP k cs).length cs ≤ n ∧ code = 0 ∧ t = ⟨shP k cs, cs, 0⟩) ∨ (¬ szQ k (shP k cs).length cs ≤ n ∧ code = 61 ∧ t = s)
/-- Can the cell be put in place? -/
def inPl (k : Int) (n : Nat) (s : Qs) (i j : Nat) (c : Cl) : Prop := ¬ (j = i ∧ k = 3 ∧ i = 0) ∧ c.key.take (hdQ k i s.P).length = hdQ k i s.P ∧ filQ k s + (qB (hdQ k i s.P).length c).length + 2 * (i + 1 - j) ≤ n
/-- What a cell gone leaves. -/
def gone (k : Int) (s : Qs) (i j : Nat) : Nat := if j = i then 0 else match s.cs[i]? with
  | none => 0
  | some d => (qB (hdQ k i s.P).length d).length
/-- What put comes to. -/
def PutR (k : Int) (n : Nat) (s : Qs) (i j : Nat) (c : Cl) (code : Int) (t : Qs) : Prop :=
  (¬ mayP k n c ∧ code = 62 ∧ t = s) ∨ (mayP k n c ∧ ¬ ordOk s.cs i j c ∧ code = 63 ∧ t = s) ∨
  (mayP k n c ∧ ordOk s.cs i j c ∧ ((inPl k n s i j c ∧ code = 0 ∧ t = ⟨s.P, spl s.cs i j c, s.ws + gone k s i j⟩) ∨ (¬ inPl k n s i j c ∧ LayR k n s (spl s.cs i j c) code t)))
/-- What holds of such data. -/
structure Qok (k : Int) (n : Nat) (s : Qs) : Prop where
  beg : Beg k s.P s.cs
  rs : Rs s.cs
  may : ∀ c ∈ s.cs, mayP k n c
  wf : ∀ c ∈ s.cs, c.Wf
  fit : filQ k s ≤ n
end Go.Proofs.YtbefpojdopfeeaaGreatDoor
