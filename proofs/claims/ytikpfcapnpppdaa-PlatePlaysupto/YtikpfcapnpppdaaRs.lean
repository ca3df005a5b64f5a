/- The document's New and Load, with what the device holds. -/
import Derived.Test.YtikpfcapnpppdaaPm5
import Derived.Test.YtikpfcapnpppdaaRf
namespace Go.Proofs.Ytikpfcapnpppdaa
open Go.RowKit

/-- The document's new device at a has n rows, which hold L, in blocks from B on, each its own. -/
def Rc (w : World) (B a page n : Nat) (L : List (List Int)) : Prop := ∃ (vL : Value) (qs : List Nat), w.heap[a]? = some (.cells (rrow page vL).toArray 59 (0, 0)) ∧ w.ownsRow B 35 1 vL n (qs.map fun q => Value.slice (some ⟨q, 0, none⟩) page page) ∧ qs.length = n ∧
  (∀ (i q : Nat), qs[i]? = some q → B ≤ q ∧ q ≠ a ∧ vL.ownBlock ≠ some q ∧ (L.getD i []).length = page ∧ w.heap[q]? = some (.cells (By (L.getD i [])).toArray 5 (0, 0))) ∧ (∀ g, vL.ownBlock = some g → g ≠ a) ∧ B ≤ a ∧ qs.Nodup ∧ L.length = n

set_option maxRecDepth 100000 in
theorem Rc.more {wr u w' : World} {B a page k q : Nat} {L : List (List Int)} {vL v' : Value} {qs : List Nat} {o1 o2 : Obj} {l : List Int} (ha : wr.heap[a]? = some (.cells (rrow page vL).toArray 59 (0, 0))) (ho : wr.ownsRow B 35 1 vL k (qs.map fun q => Value.slice (some ⟨q, 0, none⟩) page page)) (hl : qs.length = k)
    (hq : ∀ (i q : Nat), qs[i]? = some q → B ≤ q ∧ q ≠ a ∧ vL.ownBlock ≠ some q ∧ (L.getD i []).length = page ∧ wr.heap[q]? = some (.cells (By (L.getD i [])).toArray 5 (0, 0))) (hg : ∀ g, vL.ownBlock = some g → g ≠ a) (hB : B ≤ a) (hnd : qs.Nodup) (hL : L.length = k) (hqn : q = wr.heap.size) (hll : l.length = page) (ho1 : o1 = .cells (By l).toArray 5 (0, 0))
    (hu : u = (wr.alloc o1).alloc o2) (h1 : w'.ownsRow B 35 1 v' (k + 1) ((qs.map fun q => Value.slice (some ⟨q, 0, none⟩) page page) ++ [.slice (some ⟨q, 0, none⟩) page page])) (h2 : u.grownBy w' vL.ownBlock) (h3 : v'.ownBlock = vL.ownBlock ∨ v'.ownBlock = some u.heap.size) : Rc (w'.setCell ⟨a, 1, none⟩ v') B a page (k + 1) (L ++ [l]) := by
  have hus : u.heap.size = wr.heap.size + 2 := by rw [hu]; simp
  have hub : ∀ k, k < wr.heap.size → u.heap[k]? = wr.heap[k]? := fun k hk => by
    rw [hu, Below.heap_alloc _ _ _ (by simp; omega), Below.heap_alloc _ _ _ hk]
  have huq : u.heap[q]? = some o1 := by
    rw [hu, hqn, Below.heap_alloc _ _ _ (by simp)]
    show (wr.heap.push o1)[wr.heap.size]? = _
    simp
  have hal := lt_of_some ha
  have hvlt : ∀ g, vL.ownBlock = some g → g < wr.heap.size := fun g h => (ho.lt g h).2
  have keep : ∀ k, k < wr.heap.size → vL.ownBlock ≠ some k → k ≠ a → (w'.setCell ⟨a, 1, none⟩ v').heap[k]? = wr.heap[k]? := fun k h1 h2' h3' => by
    rw [Below.heap_setCell _ _ _ _ h3', h2.block k (by omega) (fun e => h2' e.symm), hub k h1]
  have hvne : ∀ g, g < wr.heap.size → vL.ownBlock ≠ some g → v'.ownBlock ≠ some g := by
    intro g a1 a2 e
    rcases h3 with h | h
    · exact a2 (h ▸ e)
    · rw [h] at e; injection e with e; omega
  have hane : vL.ownBlock ≠ some a := fun e => hg a e rfl
  have hqv : vL.ownBlock ≠ some q := fun e => by have := hvlt q e; omega
  refine ⟨v', qs ++ [q], ?_, ?_, by simp [hl], ?_, ?_, hB, ?_, by simp [hL]⟩
  · have e1 : w'.heap[a]? = some (.cells (rrow page vL).toArray 59 (0, 0)) := by
      rw [h2.block a (by omega) (fun e => hane e.symm), hub a hal]; exact ha
    exact heap_setCell_self e1
  · rw [List.map_append, List.map_singleton]
    refine ⟨h1.1, ?_⟩
    rcases h1.2 with ⟨_, h0⟩ | ⟨g, cap, cur, rfl, g1, g2, g3⟩
    · omega
    · refine .inr ⟨g, cap, cur, rfl, g1, ?_, g3⟩
      have gne : g ≠ a := fun e => hvne a hal hane (by rw [← e]; rfl)
      rw [Below.heap_setCell _ _ _ _ gne]
      exact g2
  · intro i q' hq'
    by_cases hi : i < k
    · rw [List.getElem?_append_left (by omega)] at hq'
      have e : (L ++ [l]).getD i [] = L.getD i [] := by simp only [List.getD]; rw [List.getElem?_append_left (by omega)]
      rw [e]
      obtain ⟨b1, b2, b3, b4, b5⟩ := hq i q' hq'
      exact ⟨b1, b2, hvne q' (lt_of_some b5) b3, b4, (keep q' (lt_of_some b5) b3 b2).trans b5⟩
    · have hik : i < (qs ++ [q]).length := (List.getElem?_eq_some_iff.1 hq').1
      obtain rfl : i = k := by simp at hik; omega
      rw [List.getElem?_append_right (by omega), hl, Nat.sub_self] at hq'
      obtain rfl : q = q' := by simpa using hq'
      have e : (L ++ [l]).getD i [] = l := by simp only [List.getD]; rw [List.getElem?_append_right (by omega), hL, Nat.sub_self]; rfl
      rw [e]
      refine ⟨by omega, by omega, ?_, hll, ?_⟩
      · intro e
        rcases h3 with h | h
        · exact hqv (h ▸ e)
        · rw [h] at e; injection e with e; omega
      · rw [Below.heap_setCell _ _ _ _ (show q ≠ a by omega), h2.block q (by omega) (fun e => hqv e.symm), huq, ho1]
  · intro g e
    rcases h3 with h | h
    · exact hg g (h ▸ e)
    · rw [h] at e; injection e with e; omega
  · rw [List.nodup_append]
    refine ⟨hnd, by simp, fun y hy z hz => ?_⟩
    obtain rfl : z = q := by simpa using hz
    obtain ⟨i, hi⟩ := List.getElem?_of_mem hy
    have := lt_of_some (hq i y hi).2.2.2.2
    omega

set_option maxRecDepth 100000 in
theorem Rc.copy {w u : World} {B a page n q k : Nat} {L : List (List Int)} {l' : List Int} {vL : Value} {qs : List Nat} (ha : w.heap[a]? = some (.cells (rrow page vL).toArray 59 (0, 0))) (ho : w.ownsRow B 35 1 vL n (qs.map fun q => Value.slice (some ⟨q, 0, none⟩) page page)) (hl : qs.length = n)
    (hq : ∀ (i q : Nat), qs[i]? = some q → B ≤ q ∧ q ≠ a ∧ vL.ownBlock ≠ some q ∧ (L.getD i []).length = page ∧ w.heap[q]? = some (.cells (By (L.getD i [])).toArray 5 (0, 0))) (hg : ∀ g, vL.ownBlock = some g → g ≠ a) (hB : B ≤ a) (hnd : qs.Nodup) (hL : L.length = n) (hm : qs[k]? = some q) (hl' : l'.length = page) (hu : u = w.setRow q (By l').toArray) : Rc u B a page n (L.set k l') := by
  subst hu
  obtain ⟨b1, b2, b3, b4, b5⟩ := hq k q hm
  have hk : k < qs.length := (List.getElem?_eq_some_iff.1 hm).1
  refine ⟨vL, qs, ?_, ⟨ho.1, ?_⟩, hl, ?_, hg, hB, hnd, by simp [hL]⟩
  · rw [setRow_other _ _ _ _ (Ne.symm b2)]; exact ha
  · rcases ho.2 with h0 | ⟨g, cap, cur, rfl, g1, g2, g3⟩
    · exact .inl h0
    · refine .inr ⟨g, cap, cur, rfl, g1, ?_, g3⟩
      rw [setRow_other _ _ _ _ (fun e => b3 (by rw [← e]; rfl))]
      exact g2
  · intro i q' hq'
    obtain ⟨c1, c2, c3, c4, c5⟩ := hq i q' hq'
    refine ⟨c1, c2, c3, ?_⟩
    by_cases e : i = k
    · subst e
      obtain rfl : q' = q := by rw [hm] at hq'; injection hq' with h; exact h.symm
      have e2 : (L.set i l').getD i [] = l' := by simp only [List.getD]; rw [List.getElem?_set_self (by omega)]; rfl
      rw [e2]
      exact ⟨hl', setRow_heap _ _ _ _ _ _ b5⟩
    · have e2 : (L.set k l').getD i [] = L.getD i [] := by simp only [List.getD]; rw [List.getElem?_set_ne (fun h => e h.symm)]
      have ne : q' ≠ q := fun h => e ((List.getElem?_inj (l := qs) (List.getElem?_eq_some_iff.1 hq').1 hnd).1 (by rw [hq', hm, h]))
      rw [e2]
      exact ⟨c4, by rw [setRow_other _ _ _ _ ne]; exact c5⟩

/-- A new device as plain data. -/
def r0 (page : Nat) (L : List (List Int)) : R := ⟨page, L, [], false, false, 0, [], 0, 0, 0, 0, 0⟩
set_option maxRecDepth 100000 in
theorem Rc.rv {w : World} {B a page n : Nat} {L : List (List Int)} (h : Rc w B a page n L) (hw : ∀ l ∈ L, Wf l) (hd : dev page n = true) : Rv w (fun k => B ≤ k ∧ k < w.heap.size) a (r0 page L) := by
  obtain ⟨vL, qs, ha, ho, hl, hq, hg, hB, hnd, hL⟩ := h
  subst hL
  simp only [dev, pgs, decide_eq_true_eq] at hd
  have hal := lt_of_some ha
  have hsz : page * L.length ≤ 67108864 := by
    have := hd.2.2.2
    rw [← Int.natCast_mul] at this
    omega
  refine ⟨vL, .slice none 0 0, .slice none 0 0, qs, ha, ⟨⟨hB, hal⟩, ⟨ho.1, ?_⟩, hl, hnd, fun i q hi => ?_, fun g e => ⟨⟨(ho.lt g e).1, (ho.lt g e).2⟩, hg g e, by intro h; cases h⟩, (fun g e => by cases e), ⟨[], World.ownsRow_nil _ _ _ _, fun k x hk => by cases hk⟩, (fun x hx => by cases hx), ⟨none, 0, 0, rfl, rfl, by omega, .inl rfl⟩, ?_, ?_, ?_, ?_, hsz, by simp [r0]⟩⟩
  · rcases ho.2 with h0 | ⟨g, cap, cur, rfl, g1, g2, g3⟩
    · exact .inl h0
    · exact .inr ⟨g, cap, cur, rfl, Nat.zero_le _, g2, g3⟩
  · obtain ⟨b1, b2, b3, b4, b5⟩ := hq i q hi
    have hi' : i < L.length := by rw [← hl]; exact (List.getElem?_eq_some_iff.1 hi).1
    refine ⟨⟨b1, lt_of_some b5⟩, b2, b3, by (intro h; cases h), b5, b4, hw _ ?_⟩
    show L.getD i [] ∈ L
    simp only [List.getD]
    rw [List.getElem?_eq_getElem hi']
    exact List.getElem_mem hi'
  all_goals (show _ ≤ _; simp only [r0]; omega)

set_option maxRecDepth 100000 in
set_option maxHeartbeats 2000000 in
theorem rNew_rc (x y : Nat) (w : World) (h : dev x y = true) : Calls Try.prog 7 #[.int .i64 (x : Int), .int .i64 (y : Int)] w fun e w' => ∃ a, e = .returned (.pointer (some ⟨a, 0, none⟩)) ∧ Rc w' w.heap.size a x y (List.replicate y (List.replicate x 0)) ∧ Below w.heap.size w w' := by
  have hd := device_any x y w
  rw [h] at hd
  have hx : x ≤ 65536 ∧ y ≤ 65536 := by
    simp only [dev, pgs, decide_eq_true_eq] at h
    omega
  obtain ⟨hx1, hy1⟩ := hx
  have m1 := mkB x (by omega)
  obtain ⟨A, hA⟩ : ∃ A, (By (List.replicate x 0)).toArray = A := ⟨_, rfl⟩
  rw [hA] at m1
  have HA := hidden hA
  clear h hA
  go_enter Try.func7, Try.ntmps7
  go_wp2_with (go_at_call 24; refine same_call hd ?_)
  go_loopw [7] (fun i wr => ∃ k : Nat, k ≤ y ∧ i = .int .i64 k ∧ Hid (Rc wr w.heap.size w.heap.size x k (List.replicate k (List.replicate x 0))) ∧ Hid (Below w.heap.size w wr)) (fun i _ => y - (intOf i).toNat)
  case atStart =>
    refine ⟨0, by omega, rfl, hidden ⟨.slice none 0 0, [], ?_, World.ownsRow_nil _ _ _ _, rfl, (fun i q hq => by cases hq), (fun g hg => by cases hg), Nat.le_refl _, List.nodup_nil, rfl⟩, hidden ((Below.refl _ _).alloc (Nat.le_refl _) _)⟩
    show (w.heap.push _)[w.heap.size]? = _
    simp [rrow]
  case round =>
    obtain ⟨k, hk, rfl, HRL, HB⟩ := hrel
    by_cases hlt : k < y
    · have hlt' : (k : Int) < (y : Int) := by omega
      obtain ⟨vL, qs, ha, ho, hl, hq, hg, hB, hnd, hLL⟩ := HRL.out
      have c1 : wr.cell? ⟨w.heap.size, 1, none⟩ = some vL := cell_of_row ha
      have f1 := free_of_row (i := 1) ha
      have hal := lt_of_some ha
      have hne1 : ¬ w.heap.size = wr.heap.size := by omega
      have hne2 : ¬ w.heap.size = wr.heap.size + 1 := by omega
      have HO := hidden ho
      obtain ⟨o2, ho2⟩ : ∃ o2 : Obj, Obj.cells #[.slice (some ⟨wr.heap.size, 0, none⟩) x x] 35 (0, 0) = o2 := ⟨_, rfl⟩
      have HM := hidden (fun w' v' => Rc.more (w' := w') (v' := v') (u := (wr.alloc (.cells A 5 (0, 0))).alloc o2) (o1 := .cells A 5 (0, 0)) (o2 := o2) (q := wr.heap.size) (l := List.replicate x 0) ha ho hl hq hg hB hnd hLL rfl (by simp) (by rw [HA.out]) rfl)
      have HO2 : Hid (World.ownsRow ((wr.alloc (.cells A 5 (0, 0))).alloc o2).drew w.heap.size 35 1 vL k (qs.map fun q => Value.slice (some ⟨q, 0, none⟩) x x)) := hidden ((ho.alloc _).alloc _)
      have HC2 : Hid (((wr.alloc (.cells A 5 (0, 0))).alloc o2).drew.cell? ⟨wr.heap.size + 1, 0, none⟩ = some (.slice (some ⟨wr.heap.size, 0, none⟩) x x)) := hidden (by rw [← ho2]; simp)
      have HD2 : Hid (((wr.alloc (.cells A 5 (0, 0))).alloc o2).drew.heap.size = wr.heap.size + 2) := hidden (by simp)
      have HVA : Hid (vL.ownBlock ≠ some w.heap.size) := hidden fun e => hg _ e rfl
      have HOV : Hid (∀ g, vL.ownBlock = some g → w.heap.size ≤ g) := hidden fun g e => (ho.lt g e).1
      have HA2 : Hid (∀ w', World.grownBy ((wr.alloc (.cells A 5 (0, 0))).alloc o2).drew w' vL.ownBlock → w'.cell? ⟨w.heap.size, 1, none⟩ = some vL ∧ w'.frozen? ⟨w.heap.size, 1, none⟩ = false) := hidden fun w' h2 => by
        have e : w'.heap[w.heap.size]? = some (.cells (rrow x vL).toArray 59 (0, 0)) := by
          rw [h2.block w.heap.size (by rw [HD2.out]; omega) (fun e => HVA.out e.symm)]
          show ((wr.alloc (.cells A 5 (0, 0))).alloc o2).heap[w.heap.size]? = _
          rw [Below.heap_alloc _ _ _ (by simp; omega), Below.heap_alloc _ _ _ hal]
          exact ha
        exact ⟨cell_of_row e, free_of_row e⟩
      clear ha ho hl hq hg hB hnd hLL
      go_wp2_with fail
      go_region_law (refine step_app_rows rfl (.tmp 25) (.tmp 28) rfl w.heap.size vL k (qs.map fun q => Value.slice (some ⟨q, 0, none⟩) x x) rfl HO2.out (wr.heap.size + 1) wr.heap.size x rfl HC2.out (by omega) (by rw [HD2.out]; omega) ?_; intro v' w' h1 h2 h3; obtain ⟨e1, e2⟩ := HA2.out w' h2; obtain ⟨g', c', rfl⟩ := own_form h1; replace h1 := hidden h1; replace h2 := hidden h2; replace h3 := hidden h3)
      all_goals
        have HN := hidden (HM.out _ _ h1.out (undrew h2.out) h3.out)
        rw [← List.replicate_succ'] at HN
        have HBN : Hid (Below w.heap.size w (w'.setCell ⟨w.heap.size, 1, none⟩ (.slice (some ⟨g', 0, none⟩) (k + 1) c'))) := hidden ((((HB.out.alloc HB.out.size _).alloc (by have := HB.out.size; simp; omega) _).trans ((Below.refl _ _).grown (undrew h2.out) (by have := HB.out.size; simp; omega) (fun j hj => HOV.out j hj))).setCell (Nat.le_refl _) _)
        clear h1 h2 h3 HM HA2 HO2 HC2 HD2 HO
        go_wp2
        go_roundw
        case rel => exact ⟨k + 1, by omega, by go_num, HN, HBN⟩
        case measure => simp [intOf]; omega
    · have hge : ¬ ((k : Int) < (y : Int)) := by omega
      obtain rfl : k = y := by omega
      go_wp2
      go_ret
      exact ⟨_, rfl, HRL.out, HB.out⟩

/-- The first k rows of l's pages, the rest of them zeros. -/
def chop (x : Nat) (l : List Int) (y k : Nat) : List (List Int) := (List.range y).map fun i => if i < k then pgOf x l i else List.replicate x 0
set_option maxRecDepth 100000 in
theorem chop_zero (x : Nat) (l : List Int) (y : Nat) : chop x l y 0 = List.replicate y (List.replicate x 0) := by
  apply List.ext_getElem?
  intro i
  simp only [chop, List.getElem?_map, List.getElem?_replicate]
  by_cases h : i < y
  · rw [List.getElem?_range h, if_pos h]; simp
  · rw [List.getElem?_eq_none (by simp; omega), if_neg h]; rfl
set_option maxRecDepth 100000 in
theorem chop_set (x : Nat) (l : List Int) (y k : Nat) : (chop x l y k).set k (pgOf x l k) = chop x l y (k + 1) := by
  apply List.ext_getElem?
  intro i
  rw [List.getElem?_set]
  simp only [chop, List.getElem?_map, List.length_map, List.length_range]
  by_cases h : i < y
  · rw [List.getElem?_range h]
    by_cases e : k = i
    · subst e; simp [h]
    · rw [if_neg e]
      simp only [Option.map_some]
      by_cases e2 : i < k
      · rw [if_pos e2, if_pos (by omega)]
      · rw [if_neg e2, if_neg (by omega)]
  · rw [List.getElem?_eq_none (l := List.range y) (by simp; omega)]
    by_cases e : k = i
    · subst e; simp [h]
    · rw [if_neg e]; rfl
set_option maxRecDepth 100000 in
theorem chop_all (x : Nat) (l : List Int) (y : Nat) : chop x l y y = (List.range y).map (pgOf x l) := by
  unfold chop
  apply List.map_congr_left
  intro i hi
  rw [if_pos (List.mem_range.1 hi)]

set_option maxRecDepth 100000 in
set_option maxHeartbeats 2000000 in
theorem rLoad_rc (w : World) (ao : Option Addr) (n c : Nat) (l : List Int) (x y : Nat) (hs : Sl w ao n c l) (hm : n = x * y) (hd : dev x y = true) : Calls Try.prog 58 #[.slice ao n c, .int .i64 (x : Int)] w fun e w' => ∃ a, e = .returned (.tuple #[.pointer (some ⟨a, 0, none⟩), .int .i64 0]) ∧ Rc w' w.heap.size a x y (chop x l y y) ∧ Below w.heap.size w w' := by
  obtain ⟨i0, hi, hz0, hz1, hz2⟩ := info_parts info5
  have hsz : (Try.prog.info? 5).map (·.size) = some 1 := by rw [hi]; simp [hz1]
  have h : pgs x = true := by simp only [dev, decide_eq_true_eq] at hd; exact hd.1
  have hp := IsPage_any x w
  rw [h] at hp
  have hN := rNew_rc x y w hd
  have hroom := hs.hroom
  have h4 : 4 ≤ y ∧ y ≤ 65536 := by simp only [dev, decide_eq_true_eq] at hd; omega
  obtain ⟨h4, h5⟩ := h4
  simp only [pgs, decide_eq_true_eq] at h
  have h1 : (512 : Int) ≤ x := by omega
  have h2 : (x : Int) ≤ 65536 := by omega
  have hm0 : (n : Int) % (x : Int) = 0 := by rw [hm]; simp
  have hq : (n : Int) / (x : Int) = (y : Int) := by rw [hm, Int.natCast_mul]; exact Int.mul_ediv_cancel_left _ (by omega)
  have hn0 : 0 < n := by rw [hm]; exact Nat.mul_pos (by omega) (by omega)
  have HLEN := hidden hs.hlen
  obtain ⟨b, off, rfl, hbl, hsrc⟩ := sl_src hs hn0
  have hcap := hs.hcap
  have HSR := hidden hsrc
  have HM := hidden hm
  clear h hm hs hsrc hi hz0 hz1 hz2 hd
  go_enter Try.func58, Try.ntmps58
  go_wp2_with (first | (go_at_call 50; refine same_call hp ?_) | (go_at_call 7; refine hN.mono ?_; rintro e w1 ⟨a, rfl, hD, hb⟩; have HD := hidden hD; have HB := hidden hb; clear hD hb; refine Hid.out ?_))
  apply hidden
  clear hN hp hm0 hq
  go_wp2_with fail
  go_loopw [8] (fun i wr => ∃ k : Nat, k ≤ y ∧ i = .int .i64 k ∧ Hid (Rc wr w.heap.size a x y (chop x l y k)) ∧ Hid (Below w.heap.size w wr)) (fun i _ => y - (intOf i).toNat)
  case atStart => exact ⟨0, by omega, rfl, hidden (by rw [chop_zero]; exact HD.out), HB⟩
  case round =>
    obtain ⟨k, hk, rfl, HRL, HBR⟩ := hrel
    obtain ⟨vL, qs, ha, ho, hl, hqs, hg, hB, hnd, hLL⟩ := HRL.out
    obtain ⟨gL, cL, hv⟩ : ∃ g c, vL = .slice (some ⟨g, 0, none⟩) y c := by
      rcases ho.2 with ⟨rfl, h0⟩ | ⟨g, cap, cur, rfl, _⟩
      · omega
      · exact ⟨g, cap, rfl⟩
    subst hv
    have c1 : wr.cell? ⟨a, 1, none⟩ = some (.slice (some ⟨gL, 0, none⟩) y cL) := cell_of_row ha
    by_cases hlt : k < y
    · have hlt' : (k : Int) < (y : Int) := by omega
      obtain ⟨q, hqk⟩ : ∃ q, qs[k]? = some q := ⟨_, List.getElem?_eq_getElem (by omega)⟩
      have hmem := hqk
      obtain ⟨l0, hl0⟩ : ∃ l0, (chop x l y k).getD k [] = l0 := ⟨_, rfl⟩
      obtain ⟨q1, q2, q3, q4, q5⟩ := hqs k q hqk
      rw [hl0] at q4 q5
      clear hl0
      have ck : wr.cell? ⟨gL, k, none⟩ = some (.slice (some ⟨q, 0, none⟩) x x) := by
        rw [World.ownsRow.cellAt ho k (by omega), List.getElem?_map, hqk]; rfl
      obtain ⟨z, hz⟩ : ∃ z, k * x = z := ⟨_, rfl⟩
      have hzi : (k : Int) * (x : Int) = (z : Int) := by rw [← hz]; simp
      have hzn : z + x ≤ n := by rw [← hz, HM.out, Nat.mul_comm x y]; exact mul_far hlt
      have hzn' : (z : Int) ≤ (n : Int) := by omega
      have hzc : (z : Int) ≤ (c : Int) := by omega
      have hzc' : ¬ (c = z) := by omega
      have hnb : (n : Int) ≤ 140737488355328 := by omega
      have hzb : (z : Int) ≤ 140737488355328 := by omega
      have hzw : IntKind.i64.wrap (z : Int) = (z : Int) := by rw [IntKind.wrap_i64]; omega
      have HCP := hidden (fun u (l' : List Int) (hl' : l'.length = x) (hu : u = wr.drew.setRow q (By l').toArray) => Rc.copy (w := wr.drew) ha ho hl hqs hg hB hnd hLL hmem hl' hu)
      have HQ5 := hidden q5
      have HQ1 := hidden q1
      have HSRC : Hid (∀ j v, (By (pgOf x l k))[j]? = some v → wr.drew.cell? ((⟨b, off + z, none⟩ : Addr).add j) = some v) := hidden fun j v hv => by
        obtain ⟨h1, rfl⟩ := getElem?_By _ j v hv
        have h1' : j < x := by
          have : (pgOf x l k).length ≤ x := by unfold pgOf; rw [List.length_take]; omega
          omega
        have hg : (pgOf x l k).getD j 0 = l.getD (z + j) 0 := by
          simp only [List.getD]
          rw [pgOf_get, if_pos h1', hz]
        have h2 := HSR.out (z + j) (.int .u8 (l.getD (z + j) 0)) (getD_By _ _ (by rw [HLEN.out]; omega))
        rw [Addr.add_lit] at h2 ⊢
        rw [hg, Nat.add_assoc]
        exact (HBR.out.cell (p := ⟨b, off + (z + j), none⟩) hbl).trans h2
      have HPL : Hid ((pgOf x l k).length = x) := hidden (by
        unfold pgOf
        rw [List.length_take, List.length_drop, HLEN.out, hz]
        omega)
      have HMN : Hid ((By (pgOf x l k)).length = Nat.min (n - z) x) := hidden (by rw [By_length, HPL.out]; exact (Nat.min_eq_right (by omega)).symm)
      have HF5 : Hid (0 + (By (pgOf x l k)).length ≤ (By l0).length) := hidden (by rw [By_length, By_length, HPL.out, q4]; omega)
      have HL0 := hidden q4
      have HCH : Hid ((chop x l y k).set k (pgOf x l k) = chop x l y (k + 1)) := hidden (chop_set x l y k)
      clear ha ho hl hqs hg hB hnd hLL q1 q2 q3 q4 q5 hqk hmem hz hzn HRL
      generalize pgOf x l k = P at *
      go_wp2_with fail
      go_region_law (refine step_copy_row rfl _ _ 35 35 rfl 5 Try.underlying35 hsz q 0 x x ⟨b, off + z, none⟩ (n - z) (c - z) rfl rfl (By l0) 5 HQ5.out (By P) HMN.out HSRC.out HF5.out (By_one _) ?_; intro u3 HU)
      all_goals
        have hu : u3 = wr.drew.setRow q (By P).toArray := by rw [HU.out, splice_all _ _ (by rw [By_length, By_length, HPL.out, HL0.out])]
        have HN : Hid (Rc u3 w.heap.size a x y (chop x l y (k + 1))) := hidden (by rw [← HCH.out]; exact HCP.out _ P HPL.out hu)
        have HBN : Hid (Below w.heap.size w u3) := hidden (by rw [hu]; exact below_setRow HBR.out.drew HQ1.out _)
        clear hu HU HCP HQ5 HSRC HMN HF5
        go_wp2
        go_roundw
        case rel => exact ⟨k + 1, by omega, by go_num, HN, HBN⟩
        case measure => simp [intOf]; omega
    · have hge : ¬ ((k : Int) < (y : Int)) := by omega
      clear ha ho hl hqs hg hB hnd hLL
      obtain rfl : k = y := by omega
      go_wp2
      go_ret2
      exact ⟨_, rfl, HRL.out, HBR.out⟩

set_option maxRecDepth 100000 in
theorem rNew_rv (x y : Nat) (w : World) (h : dev x y = true) : Calls Try.prog 7 #[.int .i64 (x : Int), .int .i64 (y : Int)] w fun e w' => ∃ a, e = .returned (.pointer (some ⟨a, 0, none⟩)) ∧ Rv w' (fun k => w.heap.size ≤ k ∧ k < w'.heap.size) a (r0 x (List.replicate y (List.replicate x 0))) ∧ Below w.heap.size w w' := by
  refine (rNew_rc x y w h).mono ?_
  rintro e w' ⟨a, rfl, h1, h2⟩
  exact ⟨a, rfl, h1.rv (fun l hl z hz => by rw [List.eq_of_mem_replicate hl] at hz; rw [List.eq_of_mem_replicate hz]; decide) h, h2⟩
set_option maxRecDepth 100000 in
theorem rLoad_rv (w : World) (ao : Option Addr) (n c : Nat) (l : List Int) (x y : Nat) (hs : Sl w ao n c l) (hm : n = x * y) (hd : dev x y = true) : Calls Try.prog 58 #[.slice ao n c, .int .i64 (x : Int)] w fun e w' => ∃ a, e = .returned (.tuple #[.pointer (some ⟨a, 0, none⟩), .int .i64 0]) ∧ Rv w' (fun k => w.heap.size ≤ k ∧ k < w'.heap.size) a (r0 x ((List.range y).map (pgOf x l))) ∧ Below w.heap.size w w' := by
  have hwf := hs.wf
  refine (rLoad_rc w ao n c l x y hs hm hd).mono ?_
  rintro e w' ⟨a, rfl, h1, h2⟩
  rw [chop_all] at h1
  refine ⟨a, rfl, h1.rv (fun l' hl z hz => ?_) hd, h2⟩
  obtain ⟨i, _, rfl⟩ := List.mem_map.1 hl
  exact hwf z (List.mem_of_mem_drop (List.mem_of_mem_take hz))
end Go.Proofs.Ytikpfcapnpppdaa
