/- The document's New and Load: whether there is a device, and how many pages it has. -/
import Derived.Test.YtikpfcapnpppdaaPm2
import Derived.Maps.AppendAt
import Derived.Deep.RegionLaw
namespace Go.Proofs.Ytikpfcapnpppdaa
open Go.RowKit

set_option maxRecDepth 100000 in
theorem infoS : (Try.prog.info? 35).map (fun i => (i.zero, i.size, i.bytes)) = some (some (.slice none 0 0), 1, 24) := by kernel_rfl

set_option maxRecDepth 100000 in
/-- append onto rows of its own, as one step of a region that draws. -/
theorem step_app_rows {ops : Array Oper} {o : Oper} {a : Act} {w : World} {K : Act → World → Prop} {Q : Exit → Act → World → Prop} {E : Prop}
    (hgd : o.guard = none) (s x : Operand) (ho : o.op = .call { callee := .builtin .append, args := #[s, x], argTypes := #[30, 30] }) (B : Nat) (v : Value) (n : Nat) (xs : List Value) (hs : a.eval s = v)
    (hown : w.ownsRow B 35 1 v n xs) (g q p : Nat) (hx : a.eval x = .slice (some ⟨g, 0, none⟩) 1 1) (hcell : w.cell? ⟨g, 0, none⟩ = some (.slice (some ⟨q, 0, none⟩) p p)) (hb : n ≤ 65536) (hbase : B ≤ w.heap.size)
    (h : ∀ v' w', w'.ownsRow B 35 1 v' (n + 1) (xs ++ [.slice (some ⟨q, 0, none⟩) p p]) → w.grownBy w' v.ownBlock → (v'.ownBlock = v.ownBlock ∨ v'.ownBlock = some w.heap.size) → K (a.put o.dst v') w') :
    if Region.wanted o (yielded ops a.tmps) = true then Oper.wp Try.prog o a w K Q else E := by
  have hw : Region.wanted o (yielded ops a.tmps) = true := by simp [Region.wanted, hgd]
  rw [if_pos hw]
  obtain ⟨i0, hi, hz0, hz1, hz2⟩ := info_parts infoS
  obtain ⟨v', w', hr, h2, h3, h4, h5⟩ := run_append_own_at (P := Try.prog) w B 30 o.type 35 i0 (.slice none 0 0) 1 24 Try.underlying30 hi hz0 hz1 hz2 rfl (by decide) v n xs hown ⟨g, 0, none⟩ 1 1 [.slice (some ⟨q, 0, none⟩) p p] rfl
    (fun j u hu => by
      have hj : j = 0 := by
        have := (List.getElem?_eq_some_iff.1 hu).1
        simpa using this
      subst hj
      simp at hu
      subst hu
      simpa [Addr.add] using hcell) (fun u hu => by simp at hu; subst hu; rfl) (by unfold maxLen; omega) (by omega) hbase
  unfold Oper.wp execOp
  simp only [ho, resolve, invoke, builtin, Sem.run_bind, Sem.run_pure, Result.andThen_ok, List.map_toArray, List.map_cons, List.map_nil, hs, hx, hr]
  exact h v' w' h2 h3 h5

set_option maxRecDepth 100000 in
theorem own_form {w : World} {B e k : Nat} {v : Value} {xs : List Value} (h : w.ownsRow B e 1 v (k + 1) xs) : ∃ g c, v = .slice (some ⟨g, 0, none⟩) (k + 1) c := by
  rcases h.2 with ⟨_, h0⟩ | ⟨g, cap, cur, rfl, _⟩
  · omega
  · exact ⟨g, cap, rfl⟩
set_option maxRecDepth 100000 in
theorem undrew {u w' : World} {r : Option Nat} (h : u.drew.grownBy w' r) : u.grownBy w' r := ⟨h.os, h.tape, h.output, h.size, h.block⟩
/-- The cells of the document's device, new. -/
def rrow (page : Nat) (vL : Value) : List Value := [.int .i64 page, vL, .slice none 0 0, .bool false, .bool false, .int .i64 0, .slice none 0 0, .int .i64 0, .int .i64 0, .int .i64 0, .int .i64 0, .int .i64 0]
/-- The document's device at a has n rows of a page's bytes, all in blocks from B on. -/
def Rl (w : World) (B a page n : Nat) : Prop := ∃ (vL : Value) (qs : List Nat), w.heap[a]? = some (.cells (rrow page vL).toArray 59 (0, 0)) ∧ w.ownsRow B 35 1 vL n (qs.map fun q => Value.slice (some ⟨q, 0, none⟩) page page) ∧ qs.length = n ∧
  (∀ q ∈ qs, B ≤ q ∧ q ≠ a ∧ vL.ownBlock ≠ some q ∧ ∃ l : List Int, l.length = page ∧ w.heap[q]? = some (.cells (By l).toArray 5 (0, 0))) ∧ (∀ g, vL.ownBlock = some g → g ≠ a) ∧ B ≤ a

set_option maxRecDepth 100000 in
theorem Rl.more {wr u w' : World} {B a page k q : Nat} {vL v' : Value} {qs : List Nat} {o1 o2 : Obj} {l : List Int} (ha : wr.heap[a]? = some (.cells (rrow page vL).toArray 59 (0, 0))) (ho : wr.ownsRow B 35 1 vL k (qs.map fun q => Value.slice (some ⟨q, 0, none⟩) page page)) (hl : qs.length = k)
    (hq : ∀ q ∈ qs, B ≤ q ∧ q ≠ a ∧ vL.ownBlock ≠ some q ∧ ∃ l : List Int, l.length = page ∧ wr.heap[q]? = some (.cells (By l).toArray 5 (0, 0))) (hg : ∀ g, vL.ownBlock = some g → g ≠ a) (hB : B ≤ a) (hqn : q = wr.heap.size) (hll : l.length = page) (ho1 : o1 = .cells (By l).toArray 5 (0, 0))
    (hu : u = (wr.alloc o1).alloc o2) (h1 : w'.ownsRow B 35 1 v' (k + 1) ((qs.map fun q => Value.slice (some ⟨q, 0, none⟩) page page) ++ [.slice (some ⟨q, 0, none⟩) page page])) (h2 : u.grownBy w' vL.ownBlock) (h3 : v'.ownBlock = vL.ownBlock ∨ v'.ownBlock = some u.heap.size) : Rl (w'.setCell ⟨a, 1, none⟩ v') B a page (k + 1) := by
  have hus : u.heap.size = wr.heap.size + 2 := by rw [hu]; simp
  have hub : ∀ k, k < wr.heap.size → u.heap[k]? = wr.heap[k]? := fun k hk => by
    rw [hu, Below.heap_alloc _ _ _ (by simp; omega), Below.heap_alloc _ _ _ hk]
  have huq : u.heap[q]? = some o1 := by
    rw [hu, hqn, Below.heap_alloc _ _ _ (by simp)]
    show (wr.heap.push o1)[wr.heap.size]? = _
    simp
  have hal := lt_of_some ha
  have hvlt : ∀ g, vL.ownBlock = some g → g < wr.heap.size := fun g h => (ho.lt g h).2
  have keep : ∀ k, k < wr.heap.size → vL.ownBlock ≠ some k → k ≠ a → (w'.setCell ⟨a, 1, none⟩ v').heap[k]? = wr.heap[k]? := fun k h1 h2' h3' => by
    rw [Below.heap_setCell _ _ _ _ h3', h2.block k (by omega) (fun e => h2' e.symm), hub k h1]
  have hvne : ∀ g, g < wr.heap.size → vL.ownBlock ≠ some g → v'.ownBlock ≠ some g := by
    intro g a1 a2 e
    rcases h3 with h | h
    · exact a2 (h ▸ e)
    · rw [h] at e; injection e with e; omega
  have hane : vL.ownBlock ≠ some a := fun e => hg a e rfl
  have hqv : vL.ownBlock ≠ some q := fun e => by have := hvlt q e; omega
  refine ⟨v', qs ++ [q], ?_, ?_, by simp [hl], ?_, ?_, hB⟩
  · have e1 : w'.heap[a]? = some (.cells (rrow page vL).toArray 59 (0, 0)) := by
      rw [h2.block a (by omega) (fun e => hane e.symm), hub a hal]; exact ha
    exact heap_setCell_self e1
  · rw [List.map_append, List.map_singleton]
    refine ⟨h1.1, ?_⟩
    rcases h1.2 with ⟨_, h0⟩ | ⟨g, cap, cur, rfl, g1, g2, g3⟩
    · omega
    · refine .inr ⟨g, cap, cur, rfl, g1, ?_, g3⟩
      have gne : g ≠ a := fun e => hvne a hal hane (by rw [← e]; rfl)
      rw [Below.heap_setCell _ _ _ _ gne]
      exact g2
  · intro q' hq'
    rcases List.mem_append.1 hq' with h | h
    · obtain ⟨b1, b2, b3, l', b4, b5⟩ := hq q' h
      exact ⟨b1, b2, hvne q' (lt_of_some b5) b3, l', b4, (keep q' (lt_of_some b5) b3 b2).trans b5⟩
    · obtain rfl : q' = q := by simpa using h
      refine ⟨by omega, by omega, ?_, l, hll, ?_⟩
      · intro e
        rcases h3 with h | h
        · exact hqv (h ▸ e)
        · rw [h] at e; injection e with e; omega
      · rw [Below.heap_setCell _ _ _ _ (show q' ≠ a by omega), h2.block q' (by omega) (fun e => hqv e.symm), huq, ho1]
  · intro g e
    rcases h3 with h | h
    · exact hg g (h ▸ e)
    · rw [h] at e; injection e with e; omega

set_option maxRecDepth 100000 in
theorem rNew_no (x y : Int) (w : World) (h : dev x y = false) : Calls Try.prog 7 #[.int .i64 x, .int .i64 y] w fun e w' => e = .returned (.pointer none) ∧ w' = w := by
  have hd := device_any x y w
  rw [h] at hd
  go_enter Try.func7, Try.ntmps7
  go_wp2_with (go_at_call 24; refine same_call hd ?_)
  go_ret
  exact ⟨rfl, rfl⟩

set_option maxRecDepth 100000 in
set_option maxHeartbeats 2000000 in
theorem rNew_yes (x y : Nat) (w : World) (h : dev x y = true) : Calls Try.prog 7 #[.int .i64 (x : Int), .int .i64 (y : Int)] w fun e w' => ∃ a, e = .returned (.pointer (some ⟨a, 0, none⟩)) ∧ Rl w' w.heap.size a x y ∧ Below w.heap.size w w' := by
  have hd := device_any x y w
  rw [h] at hd
  have hx : x ≤ 65536 ∧ y ≤ 65536 := by
    simp only [dev, pgs, decide_eq_true_eq] at h
    omega
  obtain ⟨hx1, hy1⟩ := hx
  have m1 := mkB x (by omega)
  obtain ⟨A, hA⟩ : ∃ A, (By (List.replicate x 0)).toArray = A := ⟨_, rfl⟩
  rw [hA] at m1
  have HA := hidden hA
  clear h hA
  go_enter Try.func7, Try.ntmps7
  go_wp2_with (go_at_call 24; refine same_call hd ?_)
  go_loopw [7] (fun i wr => ∃ k : Nat, k ≤ y ∧ i = .int .i64 k ∧ Hid (Rl wr w.heap.size w.heap.size x k) ∧ Hid (Below w.heap.size w wr)) (fun i _ => y - (intOf i).toNat)
  case atStart =>
    refine ⟨0, by omega, rfl, hidden ⟨.slice none 0 0, [], ?_, World.ownsRow_nil _ _ _ _, rfl, (fun q hq => by cases hq), (fun g hg => by cases hg), Nat.le_refl _⟩, hidden ((Below.refl _ _).alloc (Nat.le_refl _) _)⟩
    show (w.heap.push _)[w.heap.size]? = _
    simp [rrow]
  case round =>
    obtain ⟨k, hk, rfl, HRL, HB⟩ := hrel
    by_cases hlt : k < y
    · have hlt' : (k : Int) < (y : Int) := by omega
      obtain ⟨vL, qs, ha, ho, hl, hq, hg, hB⟩ := HRL.out
      have c1 : wr.cell? ⟨w.heap.size, 1, none⟩ = some vL := cell_of_row ha
      have f1 := free_of_row (i := 1) ha
      have hal := lt_of_some ha
      have hne1 : ¬ w.heap.size = wr.heap.size := by omega
      have hne2 : ¬ w.heap.size = wr.heap.size + 1 := by omega
      have HO := hidden ho
      obtain ⟨o2, ho2⟩ : ∃ o2 : Obj, Obj.cells #[.slice (some ⟨wr.heap.size, 0, none⟩) x x] 35 (0, 0) = o2 := ⟨_, rfl⟩
      have HM := hidden (fun w' v' => Rl.more (w' := w') (v' := v') (u := (wr.alloc (.cells A 5 (0, 0))).alloc o2) (o1 := .cells A 5 (0, 0)) (o2 := o2) (q := wr.heap.size) (l := List.replicate x 0) ha ho hl hq hg hB rfl (by simp) (by rw [HA.out]) rfl)
      have HO2 : Hid (World.ownsRow ((wr.alloc (.cells A 5 (0, 0))).alloc o2).drew w.heap.size 35 1 vL k (qs.map fun q => Value.slice (some ⟨q, 0, none⟩) x x)) := hidden ((ho.alloc _).alloc _)
      have HC2 : Hid (((wr.alloc (.cells A 5 (0, 0))).alloc o2).drew.cell? ⟨wr.heap.size + 1, 0, none⟩ = some (.slice (some ⟨wr.heap.size, 0, none⟩) x x)) := hidden (by rw [← ho2]; simp)
      have HD2 : Hid (((wr.alloc (.cells A 5 (0, 0))).alloc o2).drew.heap.size = wr.heap.size + 2) := hidden (by simp)
      have HVA : Hid (vL.ownBlock ≠ some w.heap.size) := hidden fun e => hg _ e rfl
      have HOV : Hid (∀ g, vL.ownBlock = some g → w.heap.size ≤ g) := hidden fun g e => (ho.lt g e).1
      have HA2 : Hid (∀ w', World.grownBy ((wr.alloc (.cells A 5 (0, 0))).alloc o2).drew w' vL.ownBlock → w'.cell? ⟨w.heap.size, 1, none⟩ = some vL ∧ w'.frozen? ⟨w.heap.size, 1, none⟩ = false) := hidden fun w' h2 => by
        have e : w'.heap[w.heap.size]? = some (.cells (rrow x vL).toArray 59 (0, 0)) := by
          rw [h2.block w.heap.size (by rw [HD2.out]; omega) (fun e => HVA.out e.symm)]
          show ((wr.alloc (.cells A 5 (0, 0))).alloc o2).heap[w.heap.size]? = _
          rw [Below.heap_alloc _ _ _ (by simp; omega), Below.heap_alloc _ _ _ hal]
          exact ha
        exact ⟨cell_of_row e, free_of_row e⟩
      clear ha ho hl hq hg hB
      go_wp2_with fail
      go_region_law (refine step_app_rows rfl (.tmp 25) (.tmp 28) rfl w.heap.size vL k (qs.map fun q => Value.slice (some ⟨q, 0, none⟩) x x) rfl HO2.out (wr.heap.size + 1) wr.heap.size x rfl HC2.out (by omega) (by rw [HD2.out]; omega) ?_; intro v' w' h1 h2 h3; obtain ⟨e1, e2⟩ := HA2.out w' h2; obtain ⟨g', c', rfl⟩ := own_form h1; replace h1 := hidden h1; replace h2 := hidden h2; replace h3 := hidden h3)
      all_goals
        have HN := hidden (HM.out _ _ h1.out (undrew h2.out) h3.out)
        have HBN : Hid (Below w.heap.size w (w'.setCell ⟨w.heap.size, 1, none⟩ (.slice (some ⟨g', 0, none⟩) (k + 1) c'))) := hidden ((((HB.out.alloc HB.out.size _).alloc (by have := HB.out.size; simp; omega) _).trans ((Below.refl _ _).grown (undrew h2.out) (by have := HB.out.size; simp; omega) (fun j hj => HOV.out j hj))).setCell (Nat.le_refl _) _)
        clear h1 h2 h3 HM HA2 HO2 HC2 HD2 HO
        go_wp2
        go_roundw
        case rel => exact ⟨k + 1, by omega, by go_num, HN, HBN⟩
        case measure => simp [intOf]; omega
    · have hge : ¬ ((k : Int) < (y : Int)) := by omega
      obtain rfl : k = y := by omega
      go_wp2
      go_ret
      exact ⟨_, rfl, HRL.out, HB.out⟩
end Go.Proofs.Ytikpfcapnpppdaa
