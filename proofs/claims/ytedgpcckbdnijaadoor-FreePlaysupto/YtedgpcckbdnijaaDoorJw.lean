/- The law's lent and asLent: ints that are lent. -/
import Derived.Test.YtedgpcckbdnijaaDoorJv
import Derived.Deep.OwnRows
import Derived.Laws.CopyOwn
import Derived.BigQuiet
namespace Go.Proofs.YtedgpcckbdnijaaDoor
open Go.RowKit

set_option maxRecDepth 100000 in
theorem made_row {w : World} {e n g : Nat} {z : Value} (h : w.ownsRow 0 e 1 (.slice (some ⟨g, 0, none⟩) n n) n (madeCells #[z] n).toList) : w.heap[g]? = some (.cells (List.replicate n z).toArray e (0, 0)) := by
  rcases h.2 with ⟨h, _⟩ | ⟨g, c, cur, h, _, hh, _, _, hs, ht⟩
  · cases h
  · cases h
    rw [hh]
    congr 2
    apply Array.toList_inj.1
    rw [toList_madeCells_one] at ht
    simp only [Nat.mul_one] at hs ht
    rw [List.take_of_length_le (by simp [hs])] at ht
    simpa using ht

set_option maxRecDepth 100000 in
theorem IV_length (l : List Int) : (IV l).length = l.length := by simp [IV]
set_option maxRecDepth 100000 in
theorem IV_one (l : List Int) : ∀ v ∈ IV l, v.oneCell' = true := by
  intro v hv
  unfold IV at hv
  obtain ⟨x, _, rfl⟩ := List.mem_map.1 hv
  rfl
set_option maxRecDepth 100000 in
theorem slz_src {w : World} {b off n c : Nat} {l : List Int} (h : SlZ w (some ⟨b, off, none⟩) n c l) : ∀ j v, (IV l)[j]? = some v → w.cell? ((⟨b, off, none⟩ : Addr).add j) = some v := by
  intro j v hv
  unfold IV at hv
  rw [List.getElem?_map] at hv
  have hl := h.hlen
  cases e : l[j]? with
  | none => rw [e] at hv; cases hv
  | some x =>
    rw [e] at hv
    cases hv
    have hj := (List.getElem?_eq_some_iff.1 e).1
    rcases h.hat with h0 | ⟨b', off', e', _, hc⟩
    · omega
    · cases e'
      have := hc j (by omega)
      rw [Addr.add_lit, this, List.getD, e]
      rfl
end Go.Proofs.YtedgpcckbdnijaaDoor

/- The law's asLent. -/

namespace Go.Proofs.YtedgpcckbdnijaaDoor
open Go.RowKit

set_option maxRecDepth 100000 in
theorem ow_step (X : List Int) (k : Nat) (c : Int) (h : k < X.length) : (List.replicate k c ++ X.drop k).set k c = List.replicate (k + 1) c ++ X.drop (k + 1) := by
  rw [List.set_append_right _ _ (by simp), List.length_replicate, Nat.sub_self, List.drop_eq_getElem_cons h, List.set_cons_zero, List.replicate_succ', List.append_assoc]
  rfl
set_option maxRecDepth 100000 in
theorem ow_len (X : List Int) (k : Nat) (c : Int) (h : k ≤ X.length) : (List.replicate k c ++ X.drop k).length = X.length := by simp; omega
set_option maxRecDepth 100000 in
theorem Bj.slz2 {w : World} {g n : Nat} {l r : List Int} (h : Bj w g (l ++ r)) (hl : l.length = n) (hb : n ≤ 140737488355328) (hw : ∀ x ∈ l, -9223372036854775808 ≤ x ∧ x ≤ 9223372036854775807) (c : Nat) (hc : n ≤ c) : SlZ w (some ⟨g, 0, none⟩) n c l := by
  refine ⟨hl, hb, hw, hc, .inr ⟨g, 0, rfl, lt_some h, fun i hi => ?_⟩⟩
  rw [Nat.zero_add, h.cell i (by rw [List.length_append]; omega)]
  simp [List.getD, List.getElem?_append_left (show i < l.length by omega)]
end Go.Proofs.YtedgpcckbdnijaaDoor

/- The document's list of layer 10 in memory: its entries; find. -/

namespace Go.Proofs.YtedgpcckbdnijaaDoor
open Go.RowKit

def EV : List (Int × Int) → List Value
  | [] => []
  | e :: r => .int .i64 e.1 :: .int .i64 e.2 :: EV r
set_option maxRecDepth 100000 in
theorem EV_length : ∀ es, (EV es).length = es.length * 2
  | [] => rfl
  | _ :: r => by
    show (EV r).length + 1 + 1 = (r.length + 1) * 2
    rw [EV_length r]
    omega
set_option maxRecDepth 100000 in
theorem EV_append (a b : List (Int × Int)) : EV (a ++ b) = EV a ++ EV b := by
  induction a with
  | nil => rfl
  | cons e r ih => show _ :: _ :: EV (r ++ b) = _; rw [ih]; rfl
set_option maxRecDepth 100000 in
theorem EV_at : ∀ (es : List (Int × Int)) (i : Nat), i < es.length → (EV es)[i * 2]? = some (.int .i64 (es.getD i (0, 0)).1) ∧ (EV es)[i * 2 + 1]? = some (.int .i64 (es.getD i (0, 0)).2)
  | [], i, h => by simp at h
  | e :: r, 0, _ => ⟨rfl, rfl⟩
  | e :: r, i + 1, h => by
    have := EV_at r i (by simpa using h)
    refine ⟨?_, ?_⟩
    · rw [show (i + 1) * 2 = i * 2 + 1 + 1 by omega]; exact this.1
    · rw [show (i + 1) * 2 + 1 = i * 2 + 1 + 1 + 1 by omega]; exact this.2
set_option maxRecDepth 100000 in
theorem infoE : (Tryd.prog.info? 71).map (fun i => (i.zero, i.size, i.bytes)) = some (some (.agg #[.int .i64 0, .int .i64 0]), 2, 16) := by kernel_rfl
/-- The slice value v owns the entries es, in a block from B on. -/
def OwnE (w : World) (B : Nat) (v : Value) (es : List (Int × Int)) : Prop := w.ownsRow B 71 2 v es.length (EV es)
set_option maxRecDepth 100000 in
theorem OwnE.nil (w : World) (B : Nat) : OwnE w B (.slice none 0 0) [] := World.ownsRow_nil w B 71 2
set_option maxRecDepth 100000 in
theorem OwnE.gr {w w' : World} {B : Nat} {v : Value} {l : List (Int × Int)} {u u' : Value} (h : OwnE w B v l) (hg : Gr w u w' u') (hne : v.ownBlock = none ∨ v.ownBlock ≠ u.ownBlock) : OwnE w' B v l := World.ownsRow.kept h hg.grow hne
set_option maxRecDepth 100000 in
theorem OwnE.below {w w' : World} {B : Nat} {v : Value} {l : List (Int × Int)} (h : OwnE w B v l) (hb : Below w.heap.size w w') : OwnE w' B v l := h.gr (Gr.ofBelow (.slice none 0 0) hb) (by
  cases hv : v.ownBlock with
  | none => exact .inl rfl
  | some k => exact .inr (by simp [Value.ownBlock]))
set_option maxRecDepth 100000 in
theorem OwnE.cf {w w' : World} {B : Nat} {v : Value} {l : List (Int × Int)} {F : Nat → Prop} (h : OwnE w B v l) (hc : Cf F w w') (hf : ∀ k, v.ownBlock = some k → ¬ F k) : OwnE w' B v l := by
  unfold OwnE at *
  rcases h.2 with h2 | ⟨g, cap, cur, e, hg, hh, rest⟩
  · exact ⟨h.1, .inl h2⟩
  · refine ⟨h.1, .inr ⟨g, cap, cur, e, hg, ?_, rest⟩⟩
    rw [hc.block g (lt_some hh) (hf g (by rw [e]; rfl))]
    exact hh
set_option maxRecDepth 100000 in
theorem OwnE.lt {w : World} {B : Nat} {v : Value} {l : List (Int × Int)} (h : OwnE w B v l) {k : Nat} (hk : v.ownBlock = some k) : B ≤ k ∧ k < w.heap.size := by
  unfold OwnE at h
  exact h.lt k hk
set_option maxRecDepth 100000 in
theorem OwnE.cells {w : World} {B : Nat} {v : Value} {l : List (Int × Int)} (h : OwnE w B v l) : ∃ ao cap, v = .slice ao l.length cap ∧ (l.length = 0 ∨ ∃ g, ao = some ⟨g, 0, none⟩ ∧ B ≤ g ∧ g < w.heap.size ∧ ∀ i, i < l.length → w.cell? ⟨g, i * 2, none⟩ = some (.int .i64 (l.getD i (0, 0)).1) ∧ w.cell? ⟨g, i * 2 + 1, none⟩ = some (.int .i64 (l.getD i (0, 0)).2)) := by
  have h' := h
  unfold OwnE at h'
  rcases h'.2 with ⟨rfl, h0⟩ | ⟨g, cap, cur, rfl, hg, hh, hnc, hm, hs, ht⟩
  · exact ⟨none, 0, by rw [h0], .inl h0⟩
  · refine ⟨_, cap, rfl, .inr ⟨g, rfl, hg, lt_some hh, fun i hi => ?_⟩⟩
    have hl := EV_length l
    have e := EV_at l i hi
    have a0 := h'.cellAt (i * 2) (by omega)
    have a1 := h'.cellAt (i * 2 + 1) (by omega)
    exact ⟨a0.trans e.1, a1.trans e.2⟩
set_option maxRecDepth 100000 in
theorem app_e {ops : Array Oper} {rest : List Oper} {o : Oper} {a : Act} {Q : Exit → Act → World → Prop} (w : World) (hgd : o.guard = none) (s x : Operand)
    (ho : o.op = .call { callee := .builtin .append, args := #[s, x], argTypes := #[65, 65] }) (B : Nat) (l : List (Int × Int)) (y : Int × Int) (v : Value) (g : Nat) (hs : a.eval s = v) (hx : a.eval x = .slice (some ⟨g, 0, none⟩) 1 1)
    (hown : OwnE w B v l) (hy0 : w.cell? ⟨g, 0, none⟩ = some (.int .i64 y.1)) (hy1 : w.cell? ⟨g, 1, none⟩ = some (.int .i64 y.2)) (hb : l.length + 1 ≤ 1000000) (hbase : B ≤ w.heap.size)
    (h : ∀ v' w', OwnE w' B v' (l ++ [y]) → Gr w v w' v' → wpList Tryd.prog ops Q rest (a.put o.dst v') w') : wpList Tryd.prog ops Q (o :: rest) a w := by
  obtain ⟨i0, hi, hz0, hz1, hz2⟩ := info_parts infoE
  refine wpList_append_own_at w hgd s x 65 ho B 71 i0 _ 2 16 Tryd.underlying65 hi hz0 hz1 hz2 rfl (by decide) v l.length (EV l) hs hown ⟨g, 0, none⟩ 1 1 (EV [y]) hx rfl
    (fun j u hu => by
      have hj : j = 0 ∨ j = 1 := by
        have := (List.getElem?_eq_some_iff.1 hu).1
        rw [EV_length] at this
        simp at this
        omega
      rcases hj with rfl | rfl
      · simp [EV] at hu
        rw [← hu]
        simpa [Addr.add] using hy0
      · simp [EV] at hu
        rw [← hu]
        simpa [Addr.add] using hy1) (by simp [EV, Value.oneCell']) (by unfold maxLen; omega) (by omega) hbase ?_
  intro v' w' h1 h2 _ h4
  refine h v' w' ?_ ⟨h2, h4.imp id fun e => ⟨_, e, Nat.le_refl _⟩⟩
  unfold OwnE
  rw [EV_append, List.length_append]
  exact h1
/-- The document's list: its entries' slice, its marks', the last mark's number. -/
structure Rl (w : World) (B b : Nat) (v m : Value) (la : Int) (es : List (Int × Int)) : Prop where
  box : w.heap[b]? = some (.cells #[v, m, .int .i64 la] 68 (0, 0))
  own : OwnE w B v es
  len : es.length ≤ 65536
/-- There is an entry of this page. -/
def keyE (es : List (Int × Int)) (p : Int) : Prop := p ∈ es.map (·.1)
set_option maxRecDepth 100000 in
set_option maxHeartbeats 1000000 in
theorem rfind_any (w : World) (B b : Nat) (v m : Value) (la : Int) (es : List (Int × Int)) (p : Int) (h : Rl w B b v m la es) :
    Calls Tryd.prog 27 #[pB b, .int .i64 p] w fun e u => ∃ r : Int, e = .returned (.int .i64 r) ∧ Hid (0 ≤ r ↔ keyE es p) ∧ u = w := by
  obtain ⟨ao, cap, rfl, hc⟩ := h.own.cells
  have hbx := h.box
  have c0 : w.cell? ⟨b, 0, none⟩ = some (.slice ao es.length cap) := by rw [cell_of_row _ _ 0 _ _ _ hbx]; rfl
  have HC := hidden hc
  have hlen := h.len
  have hlI : (es.length : Int) ≤ 65536 := by omega
  clear h hc hbx
  obtain ⟨N, hN⟩ : ∃ N, es.length = N := ⟨_, rfl⟩
  have HN := hidden hN
  rw [hN] at c0 hlen hlI HC
  clear hN
  go_enter Tryd.func27, Tryd.ntmps27
  go_wp2_with fail
  go_loop [5] (fun i => ∃ k : Nat, k ≤ N ∧ i = .int .i64 (k : Int) ∧ Hid (∀ j, j < k → (es.getD j (0, 0)).1 ≠ p)) (fun i => N - (RowKit.intOf i).toNat)
  case atStart => exact ⟨0, by omega, rfl, hidden (fun j hj => by omega)⟩
  case round =>
    obtain ⟨k, hk, rfl, HJ⟩ := hrel
    by_cases hlt : k < N
    · rcases HC.out with h0 | ⟨g, rfl, _, _, hcc⟩
      · omega
      have hltI : (k : Int) < (N : Int) := by omega
      have ck := (hcc k hlt).1
      have HE : Hid (∀ z, (es.getD k (0, 0)).1 = z → z = p → keyE es p) := hidden (fun z h1 h2 => by
        rw [← h2, ← h1]
        rw [List.getD, List.getElem?_eq_getElem (by rw [HN.out]; exact hlt)]
        exact List.mem_map.2 ⟨_, List.getElem_mem _, rfl⟩)
      obtain ⟨z, hz⟩ : ∃ z, (es.getD k (0, 0)).1 = z := ⟨_, rfl⟩
      rw [hz] at ck
      have HZ := hidden hz
      clear hcc hz
      by_cases e : z = p
      · subst e
        have eb : (z == z) = true := by simp
        go_wp2_with fail
        go_ret
        exact ⟨_, rfl, hidden ⟨fun _ => HE.out _ HZ.out rfl, fun _ => by omega⟩, rfl⟩
      · have eb : (z == p) = false := by rw [beq_eq_false_iff_ne]; exact e
        go_wp2_with fail
        go_round
        case rel => exact ⟨k + 1, by omega, by go_num, hidden (fun j hj => by
          by_cases h2 : j < k
          · exact HJ.out j h2
          · obtain rfl : j = k := by omega
            rw [HZ.out]; exact e)⟩
        case measure => simp [RowKit.intOf]; omega
    · have hge : ¬ (k : Int) < (N : Int) := by omega
      have HNO : Hid (¬ keyE es p) := hidden (by
        intro h
        obtain ⟨x, hx, rfl⟩ := List.mem_map.1 h
        obtain ⟨j, hj, rfl⟩ := List.mem_iff_getElem.1 hx
        have := HJ.out j (by rw [HN.out] at hj; omega)
        rw [List.getD, List.getElem?_eq_getElem hj] at this
        exact this rfl)
      go_wp2_with fail
      go_ret
      exact ⟨_, rfl, hidden ⟨fun h => absurd h (by decide), fun h => absurd h HNO.out⟩, rfl⟩
end Go.Proofs.YtedgpcckbdnijaaDoor

/- The document's with: an entry more, at its place. -/

namespace Go.Proofs.YtedgpcckbdnijaaDoor
open Go.RowKit

/-- One round of with. -/
def wStep (e : Int × Int) (s : Bool × List (Int × Int)) (x : Int × Int) : Bool × List (Int × Int) := if (!s.1 && decide (e.1 < x.1)) = true then (true, (s.2 ++ [e]) ++ [x]) else (s.1, s.2 ++ [x])
def wSt (es : List (Int × Int)) (e : Int × Int) (k : Nat) : Bool × List (Int × Int) := (es.take k).foldl (wStep e) (false, [])
def wAll (es : List (Int × Int)) (e : Int × Int) : List (Int × Int) := if (wSt es e es.length).1 = true then (wSt es e es.length).2 else (wSt es e es.length).2 ++ [e]
set_option maxRecDepth 100000 in
theorem wSt_next (es : List (Int × Int)) (e : Int × Int) (k : Nat) (hk : k < es.length) : wSt es e (k + 1) = wStep e (wSt es e k) (es.getD k (0, 0)) := by
  unfold wSt
  rw [List.take_add_one, List.foldl_append, List.getD, List.getElem?_eq_getElem hk]
  rfl
set_option maxRecDepth 100000 in
theorem wSt_len (es : List (Int × Int)) (e : Int × Int) : ∀ k, k ≤ es.length → (wSt es e k).2.length = k + (if (wSt es e k).1 = true then 1 else 0)
  | 0, _ => rfl
  | k + 1, h => by
    have ih := wSt_len es e k (by omega)
    rw [wSt_next es e k (by omega)]
    unfold wStep
    by_cases c : (wSt es e k).1 = true
    · rw [if_pos c] at ih
      simp [c, ih]
    · rw [if_neg c] at ih
      have c' : (wSt es e k).1 = false := by simpa using c
      generalize es.getD k (0, 0) = y
      by_cases d : e.1 < y.1
      · simp [c', d, ih]
      · simp [c', d, ih]
set_option maxRecDepth 100000 in
theorem wAll_len (es : List (Int × Int)) (e : Int × Int) : (wAll es e).length = es.length + 1 := by
  have h := wSt_len es e es.length (Nat.le_refl _)
  unfold wAll
  by_cases c : (wSt es e es.length).1 = true
  · rw [if_pos c]; rw [if_pos c] at h; exact h
  · rw [if_neg c]; rw [if_neg c] at h; rw [List.length_append, h]; rfl
set_option maxRecDepth 100000 in
theorem OwnE.low {w : World} {B C : Nat} {v : Value} {l : List (Int × Int)} (h : OwnE w C v l) (hB : B ≤ C) : OwnE w B v l := by
  unfold OwnE at *
  exact ⟨h.1, h.2.imp id (fun ⟨g, cap, cur, e, hg, r⟩ => ⟨g, cap, cur, e, Nat.le_trans hB hg, r⟩)⟩
set_option maxRecDepth 100000 in
theorem Rl.put {w x U : World} {B b : Nat} {v m v' : Value} {la : Int} {es L : List (Int × Int)} (h : Rl w B b v m la es) (hX : Below w.heap.size w x) (hU : Below x.heap.size x U) (ho : OwnE U x.heap.size v' L) (hl : L.length ≤ 65536) (hb : B ≤ b) :
    Rl (U.setCell ⟨b, 0, none⟩ v') B b v' m la L ∧ Cf (· = b) w (U.setCell ⟨b, 0, none⟩ v') := by
  have hbl := lt_some h.box
  have hWU := bl_go hX (Nat.le_refl _) hU
  have hx := hX.size
  refine ⟨⟨?_, ?_, hl⟩, (Cf.of_below hWU).go (Cf.setCell (F := (· = b)) U (p := ⟨b, 0, none⟩) rfl _)⟩
  · have e : U.heap[b]? = some (.cells [v, m, .int .i64 la].toArray 68 (0, 0)) := (hWU.block b hbl).trans h.box
    exact set_row e
  · refine (ho.cf (Cf.setCell (F := (· = b)) U (p := ⟨b, 0, none⟩) rfl _) (fun k hk e => ?_)).low (by omega)
    have := ho.lt hk
    omega
set_option maxRecDepth 100000 in
set_option maxHeartbeats 4000000 in
theorem rwith_any (w : World) (B b : Nat) (v m : Value) (la : Int) (es : List (Int × Int)) (p t : Int) (h : Rl w B b v m la es) (hlen : es.length < 65536) (hb : B ≤ b) :
    Calls Tryd.prog 28 #[pB b, .agg #[.int .i64 p, .int .i64 t]] w fun e u => e = .returned (.tuple #[]) ∧ Hid (∃ v', Rl u B b v' m la (wAll es (p, t))) ∧ Hid (Cf (· = b) w u) := by
  obtain ⟨ao, cap, rfl, hc⟩ := h.own.cells
  have hbx := h.box
  have hbl := lt_some hbx
  have HC := hidden hc
  have HH := hidden h
  have hlI : (es.length : Int) < 65536 := by omega
  clear h hc
  obtain ⟨N, hN⟩ : ∃ N, es.length = N := ⟨_, rfl⟩
  have HN := hidden hN
  obtain ⟨x, hx⟩ : ∃ x, w.alloc (.cells #[.int .i64 p, .int .i64 t] 71) = x := ⟨_, rfl⟩
  have hbx2 : Below w.heap.size w x := by rw [← hx]; exact bl_al (Below.refl _ _) (Nat.le_refl _) _
  have HX := hidden hbx2
  have HE0 : Hid (x.cell? ⟨w.heap.size, 0, none⟩ = some (.int .i64 p) ∧ x.cell? ⟨w.heap.size, 1, none⟩ = some (.int .i64 t) ∧ w.heap.size < x.heap.size) := hidden (by rw [← hx]; simp)
  rw [hN] at hlen hlI HC
  clear hN hbx hbx2
  go_enter Tryd.func28, Tryd.ntmps28
  go_wp2_with fail
  have HST : Hid (∀ k, k < N → wSt es (p, t) (k + 1) = wStep (p, t) (wSt es (p, t) k) (es.getD k (0, 0))) := hidden (fun k hk => wSt_next es (p, t) k (by rw [HN.out]; exact hk))
  have HSL : Hid (∀ k, k ≤ N → (wSt es (p, t) k).2.length ≤ k + 1) := hidden (fun k hk => by
    have := wSt_len es (p, t) k (by rw [HN.out]; exact hk)
    split at this <;> omega)
  go_loopw [4, 5, 6] (fun o inn i wr => ∃ k : Nat, k ≤ N ∧ i = .int .i64 (k : Int) ∧ inn = .bool (wSt es (p, t) k).1 ∧ ∃ vo vc, o = .slice vo (wSt es (p, t) k).2.length vc ∧ Hid (OwnE wr x.heap.size (.slice vo (wSt es (p, t) k).2.length vc) (wSt es (p, t) k).2) ∧ Hid (Below x.heap.size x wr)) (fun _ _ i _ => N - (RowKit.intOf i).toNat)
  case atStart => exact ⟨0, by omega, rfl, rfl, none, 0, rfl, hidden (OwnE.nil _ _), hidden (Below.refl _ _)⟩
  case round =>
    obtain ⟨k, hk, rfl, rfl, vo, vc, rfl, HO, HB⟩ := hrel
    have HWX : Hid (Below w.heap.size w wr) := hidden (bl_go HX.out (Nat.le_refl _) HB.out)
    by_cases hlt : k < N
    · rcases HC.out with h0 | ⟨g, rfl, _, hgl, hcc⟩
      · omega
      have hltI : (k : Int) < (N : Int) := by omega
      have hsl := HSL.out k hk
      have HSN := hidden (HST.out k hlt)
      have HZZ : Hid (w.cell? ⟨b, 0, none⟩ = some (.slice (some ⟨g, 0, none⟩) N cap) ∧ w.cell? ⟨g, k * 2, none⟩ = some (.int .i64 (es.getD k (0, 0)).1) ∧ w.cell? ⟨g, k * 2 + 1, none⟩ = some (.int .i64 (es.getD k (0, 0)).2)) := hidden ⟨by rw [cell_of_row _ _ 0 _ _ _ HH.out.box, HN.out]; rfl, hcc k hlt⟩
      clear hcc
      obtain ⟨⟨z, z2⟩, hz⟩ : ∃ z, es.getD k (0, 0) = z := ⟨_, rfl⟩
      rw [hz] at HZZ HSN
      clear hz
      obtain ⟨⟨inn, out⟩, hst⟩ : ∃ s, wSt es (p, t) k = s := ⟨_, rfl⟩
      rw [hst] at HO hsl HSN ⊢
      clear hst
      simp only at hsl ⊢
      simp only at HO
      have HFA : Hid (∀ u, Below x.heap.size x u → u.cell? ⟨b, 0, none⟩ = some (.slice (some ⟨g, 0, none⟩) N cap) ∧ u.cell? ⟨g, k * 2, none⟩ = some (.int .i64 z) ∧ u.cell? ⟨g, k * 2 + 1, none⟩ = some (.int .i64 z2) ∧ u.cell? ⟨w.heap.size, 0, none⟩ = some (.int .i64 p) ∧ u.cell? ⟨w.heap.size, 1, none⟩ = some (.int .i64 t)) := hidden (fun u h2 => by
        have h1 := bl_go HX.out (Nat.le_refl _) h2
        exact ⟨(h1.cell (p := ⟨b, 0, none⟩) hbl).trans HZZ.out.1, (h1.cell (p := ⟨g, k * 2, none⟩) hgl).trans HZZ.out.2.1, (h1.cell (p := ⟨g, k * 2 + 1, none⟩) hgl).trans HZZ.out.2.2, (h2.cell (p := ⟨w.heap.size, 0, none⟩) HE0.out.2.2).trans HE0.out.1, (h2.cell (p := ⟨w.heap.size, 1, none⟩) HE0.out.2.2).trans HE0.out.2.1⟩)
      obtain ⟨a0, a1, a2, a3, a4⟩ := HFA.out wr HB.out
      cases inn with
      | true =>
        have HSN2 : Hid (wSt es (p, t) (k + 1) = (true, out ++ [(z, z2)])) := hidden (by rw [HSN.out]; rfl)
        clear HSN
        go_wp2_with fail
        go_quiet (fail)
        clear a0 a1 a2 a3 a4
        obtain ⟨U, hU⟩ : ∃ U, wr.drewN nq = U := ⟨_, rfl⟩
        have hbq : Below wr.heap.size wr U := by rw [← hU]; exact bl_dr (Below.refl _ _) nq
        have HOU := hidden (HO.out.below hbq)
        have HBU := hidden (bl_go HB.out (Nat.le_refl _) hbq)
        obtain ⟨a0, a1, a2, a3, a4⟩ := HFA.out U HBU.out
        rw [hU]
        clear hU hbq HO HB
        obtain ⟨y2, hy2⟩ : ∃ y, U.alloc (.cells #[.int .i64 z, .int .i64 z2] 71) = y := ⟨_, rfl⟩
        have hb2 : Below U.heap.size U y2 := by rw [← hy2]; exact bl_al (Below.refl _ _) (Nat.le_refl _) _
        have q0 : y2.cell? ⟨U.heap.size, 0, none⟩ = some (.int .i64 z) := by rw [← hy2]; simp
        have q1 : y2.cell? ⟨U.heap.size, 1, none⟩ = some (.int .i64 z2) := by rw [← hy2]; simp
        have HOY : Hid (OwnE y2 x.heap.size (.slice vo out.length vc) out) := hidden (HOU.out.below hb2)
        have HBY : Hid (Below x.heap.size x y2) := hidden (bl_go HBU.out (Nat.le_refl _) hb2)
        have hsy : x.heap.size ≤ y2.heap.size := HBY.out.size
        clear hb2
        go_wp2_with (at_builtin; refine app_e _ rfl _ _ rfl x.heap.size out (z, z2) _ U.heap.size rfl rfl HOY.out q0 q1 (by omega) hsy ?_; refine Hid.out ?_)
        apply hidden
        intro v4 w4 ho4 hg4
        have HB4 : Hid (Below x.heap.size x w4) := hidden (HBY.out.trans (own_below HOY.out hsy hg4.grow))
        obtain ⟨vo4, vc4, rfl, _⟩ := ho4.cells
        have HO4 := hidden ho4
        clear hy2 q0 q1 HOY HBY hsy ho4 hg4
        go_wp2_with fail
        go_roundw
        case rel =>
          refine ⟨k + 1, by omega, by go_num, ?_, vo4, vc4, ?_, ?_, HB4⟩
          · rw [HSN2.out]
          · rw [HSN2.out]
          · rw [HSN2.out]; exact HO4
        case measure => simp [RowKit.intOf]; omega
      | false =>
        by_cases hpz : p < z
        · have HSN2 : Hid (wSt es (p, t) (k + 1) = (true, (out ++ [(p, t)]) ++ [(z, z2)])) := hidden (by rw [HSN.out]; unfold wStep; simp [hpz])
          clear HSN
          have hpd : decide (p < z) = true := by simpa using hpz
          go_wp2_with fail
          go_quiet (fail)
          clear a0 a1 a2 a3 a4
          obtain ⟨U, hU⟩ : ∃ U, wr.drewN nq = U := ⟨_, rfl⟩
          have hbq : Below wr.heap.size wr U := by rw [← hU]; exact bl_dr (Below.refl _ _) nq
          have HOU := hidden (HO.out.below hbq)
          have HBU := hidden (bl_go HB.out (Nat.le_refl _) hbq)
          obtain ⟨a0, a1, a2, a3, a4⟩ := HFA.out U HBU.out
          rw [hU]
          clear hU hbq HO HB
          obtain ⟨y1, hy1⟩ : ∃ y, U.alloc (.cells #[.int .i64 p, .int .i64 t] 71) = y := ⟨_, rfl⟩
          have hb1 : Below U.heap.size U y1 := by rw [← hy1]; exact bl_al (Below.refl _ _) (Nat.le_refl _) _
          have q0 : y1.cell? ⟨U.heap.size, 0, none⟩ = some (.int .i64 p) := by rw [← hy1]; simp
          have q1 : y1.cell? ⟨U.heap.size, 1, none⟩ = some (.int .i64 t) := by rw [← hy1]; simp
          have HOY : Hid (OwnE y1 x.heap.size (.slice vo out.length vc) out) := hidden (HOU.out.below hb1)
          have HBY : Hid (Below x.heap.size x y1) := hidden (bl_go HBU.out (Nat.le_refl _) hb1)
          have hsy : x.heap.size ≤ y1.heap.size := HBY.out.size
          clear hb1
          go_wp2_with (at_builtin; refine app_e _ rfl _ _ rfl x.heap.size out (p, t) _ U.heap.size rfl rfl HOY.out q0 q1 (by omega) hsy ?_; refine Hid.out ?_)
          apply hidden
          intro v3 w3 ho3 hg3
          have HB3 : Hid (Below x.heap.size x w3) := hidden (HBY.out.trans (own_below HOY.out hsy hg3.grow))
          obtain ⟨vo3, vc3, rfl, _⟩ := ho3.cells
          obtain ⟨O1, hO1⟩ : ∃ O, out ++ [(p, t)] = O := ⟨_, rfl⟩
          have hl1 : O1.length = out.length + 1 := by rw [← hO1]; simp
          rw [hO1] at ho3 HSN2
          rw [hO1]
          have HO3 := hidden ho3
          have hbO : O1.length + 1 ≤ 1000000 := by omega
          clear hl1
          clear hy1 q0 q1 HOY HBY hsy ho3 hg3 a0 a1 a2 a3 a4 HOU HBU hO1
          obtain ⟨a0, a1, a2, a3, a4⟩ := HFA.out w3 HB3.out
          obtain ⟨y2, hy2⟩ : ∃ y, w3.alloc (.cells #[.int .i64 z, .int .i64 z2] 71) = y := ⟨_, rfl⟩
          have hb2 : Below w3.heap.size w3 y2 := by rw [← hy2]; exact bl_al (Below.refl _ _) (Nat.le_refl _) _
          have q0 : y2.cell? ⟨w3.heap.size, 0, none⟩ = some (.int .i64 z) := by rw [← hy2]; simp
          have q1 : y2.cell? ⟨w3.heap.size, 1, none⟩ = some (.int .i64 z2) := by rw [← hy2]; simp
          have HOY : Hid (OwnE y2 x.heap.size (.slice vo3 O1.length vc3) O1) := hidden (HO3.out.below hb2)
          have HBY : Hid (Below x.heap.size x y2) := hidden (bl_go HB3.out (Nat.le_refl _) hb2)
          have hsy : x.heap.size ≤ y2.heap.size := HBY.out.size
          clear hb2
          go_wp2_with (at_builtin; refine app_e _ rfl _ _ rfl x.heap.size O1 (z, z2) _ w3.heap.size rfl rfl HOY.out q0 q1 hbO hsy ?_; refine Hid.out ?_)
          apply hidden
          intro v4 w4 ho4 hg4
          have HB4 : Hid (Below x.heap.size x w4) := hidden (HBY.out.trans (own_below HOY.out hsy hg4.grow))
          obtain ⟨vo4, vc4, rfl, _⟩ := ho4.cells
          have HO4 := hidden ho4
          clear hy2 q0 q1 HOY HBY hsy ho4 hg4
          go_wp2_with fail
          go_roundw
          case rel =>
            refine ⟨k + 1, by omega, by go_num, ?_, vo4, vc4, ?_, ?_, HB4⟩
            · rw [HSN2.out]
            · rw [HSN2.out]
            · rw [HSN2.out]; exact HO4
          case measure => simp [RowKit.intOf]; omega
        · have HSN2 : Hid (wSt es (p, t) (k + 1) = (false, out ++ [(z, z2)])) := hidden (by rw [HSN.out]; unfold wStep; simp [hpz])
          clear HSN
          have hpd : decide (p < z) = false := by simpa using hpz
          clear hpz
          go_wp2_with fail
          go_quiet (fail)
          clear a0 a1 a2 a3 a4
          obtain ⟨U, hU⟩ : ∃ U, wr.drewN nq = U := ⟨_, rfl⟩
          have hbq : Below wr.heap.size wr U := by rw [← hU]; exact bl_dr (Below.refl _ _) nq
          have HOU := hidden (HO.out.below hbq)
          have HBU := hidden (bl_go HB.out (Nat.le_refl _) hbq)
          obtain ⟨a0, a1, a2, a3, a4⟩ := HFA.out U HBU.out
          rw [hU]
          clear hU hbq HO HB
          obtain ⟨y2, hy2⟩ : ∃ y, U.alloc (.cells #[.int .i64 z, .int .i64 z2] 71) = y := ⟨_, rfl⟩
          have hb2 : Below U.heap.size U y2 := by rw [← hy2]; exact bl_al (Below.refl _ _) (Nat.le_refl _) _
          have q0 : y2.cell? ⟨U.heap.size, 0, none⟩ = some (.int .i64 z) := by rw [← hy2]; simp
          have q1 : y2.cell? ⟨U.heap.size, 1, none⟩ = some (.int .i64 z2) := by rw [← hy2]; simp
          have HOY : Hid (OwnE y2 x.heap.size (.slice vo out.length vc) out) := hidden (HOU.out.below hb2)
          have HBY : Hid (Below x.heap.size x y2) := hidden (bl_go HBU.out (Nat.le_refl _) hb2)
          have hsy : x.heap.size ≤ y2.heap.size := HBY.out.size
          clear hb2
          go_wp2_with (at_builtin; refine app_e _ rfl _ _ rfl x.heap.size out (z, z2) _ U.heap.size rfl rfl HOY.out q0 q1 (by omega) hsy ?_; refine Hid.out ?_)
          apply hidden
          intro v4 w4 ho4 hg4
          have HB4 : Hid (Below x.heap.size x w4) := hidden (HBY.out.trans (own_below HOY.out hsy hg4.grow))
          obtain ⟨vo4, vc4, rfl, _⟩ := ho4.cells
          have HO4 := hidden ho4
          clear hy2 q0 q1 HOY HBY hsy ho4 hg4
          go_wp2_with fail
          go_roundw
          case rel =>
            refine ⟨k + 1, by omega, by go_num, ?_, vo4, vc4, ?_, ?_, HB4⟩
            · rw [HSN2.out]
            · rw [HSN2.out]
            · rw [HSN2.out]; exact HO4
          case measure => simp [RowKit.intOf]; omega
    · have hkN : k = N := by omega
      subst hkN
      have hge : ¬ (k : Int) < (k : Int) := by omega
      have hsl := HSL.out k hk
      have HWL : Hid ((wAll es (p, t)).length ≤ 65536) := hidden (by rw [wAll_len, HN.out]; omega)
      have HWA : Hid (wAll es (p, t) = if (wSt es (p, t) k).1 = true then (wSt es (p, t) k).2 else (wSt es (p, t) k).2 ++ [(p, t)]) := hidden (by unfold wAll; rw [HN.out])
      obtain ⟨⟨inn, out⟩, hst⟩ : ∃ s, wSt es (p, t) k = s := ⟨_, rfl⟩
      rw [hst] at HO hsl HWA ⊢
      clear hst
      simp only at hsl ⊢
      simp only at HO HWA
      have HFA : Hid (∀ u, Below x.heap.size x u → u.cell? ⟨b, 0, none⟩ = some (.slice ao k cap) ∧ u.frozen? ⟨b, 0, none⟩ = false ∧ u.cell? ⟨w.heap.size, 0, none⟩ = some (.int .i64 p) ∧ u.cell? ⟨w.heap.size, 1, none⟩ = some (.int .i64 t)) := hidden (fun u h2 => by
        have h1 := bl_go HX.out (Nat.le_refl _) h2
        have hbu := (h1.block b hbl).trans HH.out.box
        refine ⟨by rw [cell_of_row _ _ 0 _ _ _ hbu, HN.out]; rfl, by simp [World.frozen?, hbu], (h2.cell (p := ⟨w.heap.size, 0, none⟩) HE0.out.2.2).trans HE0.out.1, (h2.cell (p := ⟨w.heap.size, 1, none⟩) HE0.out.2.2).trans HE0.out.2.1⟩)
      cases inn with
      | true =>
        obtain ⟨a0, fb, a3, a4⟩ := HFA.out wr HB.out
        have HFIN := hidden (HH.out.put HX.out HB.out HO.out (by have := HWL.out; rw [HWA.out] at this; exact this) hb)
        have HWE : Hid (wAll es (p, t) = out) := hidden (by rw [HWA.out]; rfl)
        clear HWA
        go_wp2_with fail
        go_end0
        exact ⟨rfl, hidden ⟨_, by rw [HWE.out]; exact HFIN.out.1⟩, hidden HFIN.out.2⟩
      | false =>
        obtain ⟨a0, fb, a3, a4⟩ := HFA.out wr HB.out
        have HWE : Hid (wAll es (p, t) = out ++ [(p, t)]) := hidden (by rw [HWA.out]; rfl)
        clear HWA
        obtain ⟨y1, hy1⟩ : ∃ y, wr.alloc (.cells #[.int .i64 p, .int .i64 t] 71) = y := ⟨_, rfl⟩
        have hb1 : Below wr.heap.size wr y1 := by rw [← hy1]; exact bl_al (Below.refl _ _) (Nat.le_refl _) _
        have q0 : y1.cell? ⟨wr.heap.size, 0, none⟩ = some (.int .i64 p) := by rw [← hy1]; simp
        have q1 : y1.cell? ⟨wr.heap.size, 1, none⟩ = some (.int .i64 t) := by rw [← hy1]; simp
        have HOY : Hid (OwnE y1 x.heap.size (.slice vo out.length vc) out) := hidden (HO.out.below hb1)
        have HBY : Hid (Below x.heap.size x y1) := hidden (bl_go HB.out (Nat.le_refl _) hb1)
        have hsy : x.heap.size ≤ y1.heap.size := HBY.out.size
        clear hb1
        go_wp2_with (at_builtin; refine app_e _ rfl _ _ rfl x.heap.size out (p, t) _ wr.heap.size rfl rfl HOY.out q0 q1 (by omega) hsy ?_; refine Hid.out ?_)
        apply hidden
        intro v3 w3 ho3 hg3
        have HB3 : Hid (Below x.heap.size x w3) := hidden (HBY.out.trans (own_below HOY.out hsy hg3.grow))
        obtain ⟨vo3, vc3, rfl, _⟩ := ho3.cells
        have HFIN := hidden (HH.out.put HX.out HB3.out ho3 (by have := HWL.out; rw [HWE.out] at this; exact this) hb)
        obtain ⟨ln, hln⟩ : ∃ ln, (out ++ [(p, t)]).length = ln := ⟨_, rfl⟩
        rw [hln] at HFIN ⊢
        clear hln
        clear hy1 q0 q1 HOY HBY hsy hg3 a0 a3 a4 fb ho3
        obtain ⟨a0, fb, _, _⟩ := HFA.out w3 HB3.out
        go_wp2_with fail
        go_end0
        exact ⟨rfl, hidden ⟨_, by rw [HWE.out]; exact HFIN.out.1⟩, hidden HFIN.out.2⟩
end Go.Proofs.YtedgpcckbdnijaaDoor

/- The document's New. -/

namespace Go.Proofs.YtedgpcckbdnijaaDoor
open Go.RowKit

def insE : List (Int × Int) → Int × Int → List (Int × Int)
  | [], e => [e]
  | x :: r, e => if e.1 < x.1 then e :: x :: r else x :: insE r e
set_option maxRecDepth 100000 in
theorem fold_true (e : Int × Int) : ∀ (es acc : List (Int × Int)), es.foldl (wStep e) (true, acc) = (true, acc ++ es)
  | [], acc => by simp
  | x :: r, acc => by
    rw [List.foldl_cons, show wStep e (true, acc) x = (true, acc ++ [x]) from rfl, fold_true e r]
    simp
def finE (s : Bool × List (Int × Int)) (e : Int × Int) : List (Int × Int) := if s.1 = true then s.2 else s.2 ++ [e]
set_option maxRecDepth 100000 in
theorem fold_false (e : Int × Int) : ∀ (es acc : List (Int × Int)), finE (es.foldl (wStep e) (false, acc)) e = acc ++ insE es e
  | [], acc => rfl
  | x :: r, acc => by
    rw [List.foldl_cons]
    unfold insE
    by_cases h : e.1 < x.1
    · rw [if_pos h, show wStep e (false, acc) x = (true, (acc ++ [e]) ++ [x]) from by unfold wStep; simp [h], fold_true]
      unfold finE
      simp
    · rw [if_neg h, show wStep e (false, acc) x = (false, acc ++ [x]) from by unfold wStep; simp [h], fold_false e r]
      simp
set_option maxRecDepth 100000 in
theorem wAll_ins (es : List (Int × Int)) (e : Int × Int) : wAll es e = insE es e := by
  have h := fold_false e es []
  rw [List.nil_append] at h
  rw [← h]
  unfold wAll finE wSt
  rw [List.take_length]
set_option maxRecDepth 100000 in
theorem insE_mem (e x : Int × Int) : ∀ es, x ∈ insE es e ↔ x = e ∨ x ∈ es
  | [] => by simp [insE]
  | y :: r => by
    unfold insE
    by_cases h : e.1 < y.1
    · rw [if_pos h]; simp
    · rw [if_neg h, List.mem_cons, insE_mem e x r, List.mem_cons]
      constructor
      · rintro (h | h | h) <;> simp [h]
      · rintro (h | h | h) <;> simp [h]
set_option maxRecDepth 100000 in
theorem insE_rise (e : Int × Int) : ∀ es : List (Int × Int), es.Pairwise (fun a b => a.1 < b.1) → (∀ x ∈ es, x.1 ≠ e.1) → (insE es e).Pairwise (fun a b => a.1 < b.1)
  | [], _, _ => by simp [insE]
  | y :: r, hp, hn => by
    rw [List.pairwise_cons] at hp
    unfold insE
    by_cases h : e.1 < y.1
    · rw [if_pos h, List.pairwise_cons, List.pairwise_cons]
      refine ⟨fun a ha => ?_, hp⟩
      rcases List.mem_cons.1 ha with rfl | ha
      · exact h
      · have := hp.1 a ha; omega
    · rw [if_neg h, List.pairwise_cons]
      refine ⟨fun a ha => ?_, insE_rise e r hp.2 (fun x hx => hn x (List.mem_cons_of_mem _ hx))⟩
      rcases (insE_mem e a r).1 ha with rfl | ha
      · have := hn y List.mem_cons_self; omega
      · exact hp.1 a ha
set_option maxRecDepth 100000 in
theorem snoc_ind {P : List Int → Prop} (h0 : P []) (h1 : ∀ l p, P l → P (l ++ [p])) : ∀ l, P l := by
  intro l
  rw [← List.reverse_reverse l]
  induction l.reverse with
  | nil => exact h0
  | cons p r ih => rw [List.reverse_cons]; exact h1 _ _ ih
/-- Pages that are free, by rising numbers. -/
def enE (l : List Int) : List (Int × Int) := l.foldl (fun es p => insE es (p, 0)) []
set_option maxRecDepth 100000 in
theorem enE_snoc (l : List Int) (p : Int) : enE (l ++ [p]) = insE (enE l) (p, 0) := by unfold enE; rw [List.foldl_append]; rfl
set_option maxRecDepth 100000 in
theorem enE_mem (l : List Int) (x : Int × Int) : x ∈ enE l ↔ x.2 = 0 ∧ x.1 ∈ l := by
  refine snoc_ind (P := fun l => x ∈ enE l ↔ x.2 = 0 ∧ x.1 ∈ l) (by simp [enE]) ?_ l
  · intro l p ih
    rw [enE_snoc, insE_mem, ih]
    obtain ⟨a, b⟩ := x
    simp only [Prod.mk.injEq, List.mem_append, List.mem_singleton]
    constructor
    · rintro (⟨rfl, rfl⟩ | ⟨h1, h2⟩)
      · exact ⟨rfl, .inr rfl⟩
      · exact ⟨h1, .inl h2⟩
    · rintro ⟨h1, h2 | h2⟩
      · exact .inr ⟨h1, h2⟩
      · exact .inl ⟨h2, h1⟩
set_option maxRecDepth 100000 in
theorem enE_rise (l : List Int) (h : l.Nodup) : (enE l).Pairwise (fun a b => a.1 < b.1) := by
  refine snoc_ind (P := fun l => l.Nodup → (enE l).Pairwise (fun a b => a.1 < b.1)) (by simp [enE]) ?_ l h
  · intro l p ih h
    rw [enE_snoc]
    rw [List.nodup_append] at h
    refine insE_rise _ _ (ih h.1) (fun x hx => ?_)
    have := ((enE_mem l x).1 hx).2
    intro e
    exact h.2.2 x.1 this p (by simp) e
set_option maxRecDepth 100000 in
theorem rise_len : ∀ (es : List (Int × Int)) (a b : Int), es.Pairwise (fun a b => a.1 < b.1) → (∀ x ∈ es, a ≤ x.1 ∧ x.1 < b) → (es.length : Int) ≤ if a ≤ b then b - a else 0
  | [], a, b, _, _ => by split <;> simp <;> omega
  | x :: r, a, b, hp, hm => by
    rw [List.pairwise_cons] at hp
    have hx := hm x List.mem_cons_self
    have := rise_len r (x.1 + 1) b hp.2 (fun y hy => ⟨by have := hp.1 y hy; omega, (hm y (List.mem_cons_of_mem _ hy)).2⟩)
    rw [if_pos (by omega)] at this
    rw [if_pos (by omega), List.length_cons]
    omega
set_option maxRecDepth 100000 in
theorem enE_len (l : List Int) (h : l.Nodup) (hp : ∀ x ∈ l, isPg x) : (enE l).length ≤ 65534 := by
  have := rise_len (enE l) 2 65536 (enE_rise l h) (fun x hx => by have := hp x.1 ((enE_mem l x).1 hx).2; unfold isPg at this; omega)
  rw [if_pos (by omega)] at this
  omega
set_option maxRecDepth 100000 in
theorem keyE_en (l : List Int) (p : Int) : keyE (enE l) p ↔ p ∈ l := by
  unfold keyE
  rw [List.mem_map]
  constructor
  · rintro ⟨x, hx, rfl⟩
    exact ((enE_mem l x).1 hx).2
  · intro h
    exact ⟨(p, 0), (enE_mem l (p, 0)).2 ⟨rfl, h⟩, rfl⟩
end Go.Proofs.YtedgpcckbdnijaaDoor

/- The document's Number and New. -/

namespace Go.Proofs.YtedgpcckbdnijaaDoor
open Go.RowKit

set_option maxRecDepth 100000 in
theorem rnumber_any (x : Int) (w : World) : Calls Tryd.prog 26 #[.int .i64 x] w fun e u => e = .returned (.bool (decide (isPg x))) ∧ u = w := by
  by_cases h1 : 2 ≤ x
  · have d1 : decide (2 ≤ x) = true := by simpa using h1
    have e : decide (isPg x) = decide (x < 65536) := by simp [isPg, h1]
    rw [e]
    clear e
    go_enter Tryd.func26, Tryd.ntmps26
    go_wp2_with fail
    go_ret
    exact ⟨rfl, rfl⟩
  · have d1 : decide (2 ≤ x) = false := by simpa using h1
    have e : decide (isPg x) = false := by simp [isPg]; omega
    rw [e]
    clear e
    go_enter Tryd.func26, Tryd.ntmps26
    go_wp2_with fail
    go_ret
    exact ⟨rfl, rfl⟩
set_option maxRecDepth 100000 in
theorem take_nodup {l : List Int} {k : Nat} (hk : k < l.length) (h : (l.take k).Nodup) (hn : l.getD k 0 ∉ l.take k) : (l.take (k + 1)).Nodup := by
  rw [takeZ l k hk, List.nodup_append]
  refine ⟨h, by simp, fun a ha b hb e => ?_⟩
  rw [List.mem_singleton] at hb
  rw [e, hb] at ha
  exact hn ha
set_option maxRecDepth 100000 in
theorem take_twice {l : List Int} {k : Nat} (hk : k < l.length) (hn : l.getD k 0 ∈ l.take k) : ¬ l.Nodup := by
  intro h
  rw [← List.take_append_drop (k + 1) l, takeZ l k hk] at h
  rw [List.nodup_append, List.nodup_append] at h
  exact h.1.2.2 _ hn _ (by simp) rfl
set_option maxRecDepth 100000 in
set_option maxHeartbeats 4000000 in
theorem rnew_any (w : World) (ao : Option Addr) (n cap : Nat) (l : List Int) (hs : SlZ w ao n cap l) :
    Calls Tryd.prog 7 #[.slice ao n cap] w fun e u => ∃ p, e = .returned (.tuple #[.pointer p, .int .i64 (newE l)]) ∧ Hid (Below w.heap.size w u) ∧ Hid ((newE l = 0 ∧ ∃ b v, p = some ⟨b, 0, none⟩ ∧ w.heap.size ≤ b ∧ Rl u w.heap.size b v (.slice none 0 0) 0 (enE l)) ∨ (newE l ≠ 0 ∧ p = none)) := by
  have HS := hidden hs
  have HL := hidden hs.hlen
  have hbig := hs.hbig
  clear hs
  obtain ⟨x, hx⟩ : ∃ x, w.alloc (.cells #[.slice none 0 0, .slice none 0 0, .int .i64 0] 68) = x := ⟨_, rfl⟩
  have hbx : Below w.heap.size w x := by rw [← hx]; exact bl_al (Below.refl _ _) (Nat.le_refl _) _
  have HX := hidden hbx
  have HR0 : Hid (Rl x w.heap.size w.heap.size (.slice none 0 0) (.slice none 0 0) 0 (enE (l.take 0))) := hidden ⟨by rw [← hx]; exact al_row _ _, OwnE.nil _ _, by simp [enE]⟩
  have HNE := hidden (show newE l = newE l from rfl)
  obtain ⟨K, hK⟩ : ∃ K, newE l = K := ⟨_, rfl⟩
  have HK := hidden hK
  clear hbx hK HNE
  go_enter Tryd.func7, Tryd.ntmps7
  go_wp2_with fail
  clear hx
  go_loop [5] (fun i => ∃ k : Nat, k ≤ n ∧ i = .int .i64 (k : Int) ∧ Hid (∀ j, j < k → isPg (l.getD j 0))) (fun i => n - (RowKit.intOf i).toNat)
  case atStart => exact ⟨0, by omega, rfl, hidden (fun j hj => by omega)⟩
  case round =>
    obtain ⟨k, hk, rfl, HJ⟩ := hrel
    by_cases hlt : k < n
    · have hltI : (k : Int) < (n : Int) := by omega
      have HSX := hidden (HS.out.on (Nat.le_refl _) HX.out)
      obtain ⟨b1, off1, rfl, ck⟩ := HSX.out.at hlt
      have HIN : Hid (l.getD k 0 ∈ l) := hidden (getD_mem l k (by rw [HL.out]; exact hlt))
      obtain ⟨z, hz⟩ : ∃ z, l.getD k 0 = z := ⟨_, rfl⟩
      rw [hz] at ck HIN
      have HZ := hidden hz
      clear hz HSX
      have HNU := hidden (rnumber_any z x)
      by_cases hp : isPg z
      · have hd : decide (isPg z) = true := by simpa using hp
        rw [hd] at HNU
        have HP := hidden hp
        clear hd hp
        go_wp2_with (go_at_call 26; refine same_call HNU.out ?_)
        go_round
        case rel => exact ⟨k + 1, by omega, by go_num, hidden (fun j hj => by
          by_cases h2 : j < k
          · exact HJ.out j h2
          · obtain rfl : j = k := by omega
            rw [HZ.out]; exact HP.out)⟩
        case measure => simp [RowKit.intOf]; omega
      · have hd : decide (isPg z) = false := by simpa using hp
        rw [hd] at HNU
        have HE : Hid (newE l = 30) := hidden (by unfold newE; rw [if_neg (fun h => hp (h z HIN.out))])
        clear hd hp
        go_wp2_with (go_at_call 26; refine same_call HNU.out ?_)
        go_ret2
        exact ⟨none, by rw [HE.out]; rfl, HX, hidden (.inr ⟨by rw [HE.out]; decide, rfl⟩)⟩
    · have hge : ¬ (k : Int) < (n : Int) := by omega
      have HALL : Hid (∀ y ∈ l, isPg y) := hidden (fun y hy => by
        obtain ⟨j, hj, rfl⟩ := List.mem_iff_getElem.1 hy
        have := HJ.out j (by rw [HL.out] at hj; omega)
        rw [List.getD, List.getElem?_eq_getElem hj] at this
        exact this)
      clear HJ hlt hk
      go_wp2_with fail
      go_loopw [7] (fun i wr => ∃ k : Nat, k ≤ n ∧ i = .int .i64 (k : Int) ∧ Hid ((l.take k).Nodup) ∧ Hid (∃ v, Rl wr w.heap.size w.heap.size v (.slice none 0 0) 0 (enE (l.take k))) ∧ Hid (Below w.heap.size w wr)) (fun i _ => n - (RowKit.intOf i).toNat)
      case atStart => exact ⟨0, by omega, rfl, hidden (by simp), hidden ⟨_, HR0.out⟩, HX⟩
      case round =>
        obtain ⟨k2, hk2, rfl, HND, HRL, HB⟩ := hrel
        obtain ⟨v, hrl⟩ := HRL.out
        by_cases hlt : k2 < n
        · have hltI : (k2 : Int) < (n : Int) := by omega
          have HSX := hidden (HS.out.on (Nat.le_refl _) HB.out)
          obtain ⟨b1, off1, rfl, ck⟩ := HSX.out.at hlt
          have hkl : k2 < l.length := by rw [HL.out]; exact hlt
          have HT := hidden (takeZ l k2 hkl)
          have HTW := hidden (fun h => take_twice (l := l) (k := k2) hkl h)
          have HTN := hidden (fun h => take_nodup (l := l) (k := k2) hkl HND.out h)
          obtain ⟨z, hz⟩ : ∃ z, l.getD k2 0 = z := ⟨_, rfl⟩
          rw [hz] at ck HT HTW HTN
          clear hz HSX hkl
          have HF := hidden (rfind_any wr _ _ _ _ _ _ z hrl)
          have HSUB : Hid (∀ y ∈ l.take k2, isPg y) := hidden (fun y hy => HALL.out y (List.mem_of_mem_take hy))
          have HW9 := hidden (rwith_any wr _ _ _ _ _ _ z 0 hrl (by have := enE_len _ HND.out HSUB.out; omega) (Nat.le_refl _))
          have hwr : w.heap.size ≤ wr.heap.size := HB.out.size
          clear hrl HRL
          go_wp2_with (go_at_call 27; refine HF.out.mono ?_; rintro e u ⟨r, rfl, HR, rfl⟩; refine Hid.out ?_)
          apply hidden
          by_cases hr : 0 ≤ r
          · have HE : Hid (newE l = 100) := hidden (by
              unfold newE
              rw [if_pos HALL.out, if_neg (HTW.out ((keyE_en _ _).1 (HR.out.1 hr)))])
            clear HW9 HF
            go_wp2_with fail
            go_ret2
            exact ⟨none, by rw [HE.out]; rfl, HB, hidden (.inr ⟨by rw [HE.out]; decide, rfl⟩)⟩
          · have HNM : Hid (z ∉ l.take k2) := hidden (fun h => hr (HR.out.2 ((keyE_en _ _).2 h)))
            clear HF HR
            go_wp2_with (go_at_call 28; refine HW9.out.mono ?_; rintro e u2 ⟨rfl, HQ, HC⟩; refine Hid.out ?_)
            apply hidden
            have HB2 : Hid (Below w.heap.size w u2) := hidden (HB.out.trans (HC.out.below hwr (fun k hk e => by omega)))
            have HR2 : Hid (∃ v, Rl u2 w.heap.size w.heap.size v (.slice none 0 0) 0 (enE (l.take (k2 + 1)))) := hidden (by
              obtain ⟨v', hv⟩ := HQ.out
              rw [wAll_ins, ← enE_snoc, ← HT.out] at hv
              exact ⟨v', hv⟩)
            have HND2 := hidden (HTN.out HNM.out)
            clear HQ HC HW9
            go_wp2_with fail
            go_roundw
            case rel => exact ⟨k2 + 1, by omega, by go_num, HND2, HR2, HB2⟩
            case measure => simp [RowKit.intOf]; omega
        · have hge2 : ¬ (k2 : Int) < (n : Int) := by omega
          have HTE : Hid (l.take k2 = l) := hidden (List.take_of_length_le (by rw [HL.out]; omega))
          have HE : Hid (newE l = 0) := hidden (by
            unfold newE
            have := HND.out
            rw [HTE.out] at this
            rw [if_pos HALL.out, if_pos this])
          have HR3 : Hid (∃ v, Rl wr w.heap.size w.heap.size v (.slice none 0 0) 0 (enE l)) := hidden (by
            have := HRL.out
            rw [HTE.out] at this
            exact this)
          clear hrl HRL
          go_wp2_with fail
          go_ret2
          refine ⟨some ⟨w.heap.size, 0, none⟩, by rw [HE.out]; rfl, HB, hidden (.inl ⟨HE.out, w.heap.size, ?_⟩)⟩
          obtain ⟨v', hv⟩ := HR3.out
          exact ⟨rfl, Nat.le_refl _, v', hv⟩
end Go.Proofs.YtedgpcckbdnijaaDoor

/- The document's Free. -/

namespace Go.Proofs.YtedgpcckbdnijaaDoor
open Go.RowKit

def toldF (es : List (Int × Int)) : List Int := (es.filter (fun x => x.2 == 0)).map (·.1)
set_option maxRecDepth 100000 in
theorem toldF_next (es : List (Int × Int)) (k : Nat) (hk : k < es.length) : toldF (es.take (k + 1)) = if ((es.getD k (0, 0)).2 == 0) = true then toldF (es.take k) ++ [(es.getD k (0, 0)).1] else toldF (es.take k) := by
  unfold toldF
  rw [List.take_add_one, List.getElem?_eq_getElem hk, List.getD, List.getElem?_eq_getElem hk]
  simp only [Option.toList, List.filter_append, List.map_append, Option.getD_some]
  split
  · rename_i h
    simp [h]
  · rename_i h
    simp [h]
set_option maxRecDepth 100000 in
theorem toldF_len (es : List (Int × Int)) (k : Nat) : (toldF (es.take k)).length ≤ k := by
  unfold toldF
  rw [List.length_map]
  exact Nat.le_trans (List.length_filter_le _ _) (by rw [List.length_take]; exact Nat.min_le_left _ _)
set_option maxRecDepth 100000 in
set_option maxHeartbeats 4000000 in
theorem rtold_free (w : World) (B b : Nat) (v m : Value) (la : Int) (es : List (Int × Int)) (h : Rl w B b v m la es) :
    Calls Tryd.prog 56 #[pB b, .bool true, .bool false] w fun e u => ∃ o, e = .returned o ∧ Hid (OwnJ u w.heap.size o (toldF es)) ∧ Hid (Below w.heap.size w u) := by
  obtain ⟨ao, cap, rfl, hc⟩ := h.own.cells
  have hbl := lt_some h.box
  have HC := hidden hc
  have HH := hidden h
  have hlen := h.len
  have hlI : (es.length : Int) ≤ 65536 := by omega
  clear h hc
  obtain ⟨N, hN⟩ : ∃ N, es.length = N := ⟨_, rfl⟩
  have HN := hidden hN
  rw [hN] at hlen hlI HC
  clear hN
  go_enter Tryd.func56, Tryd.ntmps56
  go_wp2_with fail
  go_loopw [7, 8] (fun o i wr => ∃ (k : Nat) (ov : Value), k ≤ N ∧ ov = o ∧ i = .int .i64 (k : Int) ∧ Hid (OwnJ wr w.heap.size ov (toldF (es.take k))) ∧ Hid (Below w.heap.size w wr)) (fun _ i _ => N - (RowKit.intOf i).toNat)
  case atStart => exact ⟨0, _, by omega, rfl, rfl, hidden (OwnJ.nil _ _), hidden (Below.refl _ _)⟩
  case round =>
    obtain ⟨k, o, hk, ho, rfl, HO, HB⟩ := hrel
    subst ho
    have HCB : Hid (∀ u, Below w.heap.size w u → u.cell? ⟨b, 0, none⟩ = some (.slice ao N cap)) := hidden (fun u hu => (hu.cell (p := ⟨b, 0, none⟩) hbl).trans (by rw [cell_of_row _ _ 0 _ _ _ HH.out.box, HN.out]; rfl))
    have a0 := HCB.out wr HB.out
    by_cases hlt : k < N
    · rcases HC.out with h0 | ⟨g, rfl, _, hgl, hcc⟩
      · omega
      have hltI : (k : Int) < (N : Int) := by omega
      have HCK : Hid (∀ u, Below w.heap.size w u → u.cell? ⟨g, k * 2, none⟩ = some (.int .i64 (es.getD k (0, 0)).1) ∧ u.cell? ⟨g, k * 2 + 1, none⟩ = some (.int .i64 (es.getD k (0, 0)).2)) := hidden (fun u hu => ⟨(hu.cell (p := ⟨g, k * 2, none⟩) hgl).trans (hcc k hlt).1, (hu.cell (p := ⟨g, k * 2 + 1, none⟩) hgl).trans (hcc k hlt).2⟩)
      have HTN := hidden (toldF_next es k (by rw [HN.out]; exact hlt))
      have htl := toldF_len es k
      obtain ⟨T, hT⟩ : ∃ T, toldF (es.take k) = T := ⟨_, rfl⟩
      rw [hT] at HO HTN htl
      obtain ⟨⟨z, z2⟩, hz⟩ : ∃ z, es.getD k (0, 0) = z := ⟨_, rfl⟩
      rw [hz] at HCK HTN
      clear hz hT hcc
      obtain ⟨a1, a2⟩ := HCK.out wr HB.out
      simp only at a1 a2
      by_cases hz0 : z2 = 0
      · subst hz0
        obtain ⟨y, hy⟩ : ∃ y, wr.alloc (.cells #[.int .i64 z] 3) = y := ⟨_, rfl⟩
        have hb1 : Below wr.heap.size wr y := by rw [← hy]; exact bl_al (Below.refl _ _) (Nat.le_refl _) _
        have q0 : y.cell? ⟨wr.heap.size, 0, none⟩ = some (.int .i64 z) := by rw [← hy]; simp
        have HOY := hidden (HO.out.below hb1)
        have HBY := hidden (bl_go HB.out (Nat.le_refl _) hb1)
        have hsy : w.heap.size ≤ y.heap.size := HBY.out.size
        have hbo : T.length + 1 ≤ 1000000 := by omega
        have HT2 : Hid (toldF (es.take (k + 1)) = T ++ [z]) := hidden (by rw [HTN.out]; rfl)
        clear hb1 HTN
        go_wp2_with (at_builtin; refine app_j _ rfl _ _ rfl w.heap.size T z _ wr.heap.size rfl rfl HOY.out q0 hbo hsy ?_; refine Hid.out ?_)
        apply hidden
        intro v3 w3 ho3 hg3
        have HB3 : Hid (Below w.heap.size w w3) := hidden (HBY.out.trans (own_below HOY.out hsy hg3.grow))
        have HO3 : Hid (OwnJ w3 w.heap.size v3 (toldF (es.take (k + 1)))) := hidden (by rw [HT2.out]; exact ho3)
        clear ho3 hg3 hy q0 HOY HBY hsy hbo a0 a1 a2
        go_wp2_with fail
        go_roundw
        case rel => exact ⟨k + 1, _, by omega, rfl, by go_num, HO3, HB3⟩
        case measure => simp [RowKit.intOf]; omega
      · have hzb : (z2 == 0) = false := by rw [beq_eq_false_iff_ne]; exact hz0
        have HO3 : Hid (OwnJ wr w.heap.size o (toldF (es.take (k + 1)))) := hidden (by rw [HTN.out]; simp only [hzb]; exact HO.out)
        clear HTN
        by_cases hzp : 0 < z2
        · have hd : decide (0 < z2) = true := by simpa using hzp
          go_wp2_with fail
          go_roundw
          case rel => exact ⟨k + 1, _, by omega, rfl, by go_num, HO3, HB⟩
          case measure => simp [RowKit.intOf]; omega
        · have hd : decide (0 < z2) = false := by simpa using hzp
          clear hzp
          go_wp2_with fail
          go_roundw
          case rel => exact ⟨k + 1, _, by omega, rfl, by go_num, HO3, HB⟩
          case measure => simp [RowKit.intOf]; omega
    · have hge : ¬ (k : Int) < (N : Int) := by omega
      have HO3 : Hid (OwnJ wr w.heap.size o (toldF es)) := hidden (by
        have := HO.out
        rw [List.take_of_length_le (by rw [HN.out]; omega)] at this
        exact this)
      go_wp2_with fail
      go_ret
      exact ⟨_, rfl, HO3, HB⟩
set_option maxRecDepth 100000 in
theorem rfree_any (w : World) (B b : Nat) (v m : Value) (la : Int) (es : List (Int × Int)) (h : Rl w B b v m la es) :
    Calls Tryd.prog 32 #[pB b] w fun e u => ∃ o, e = .returned o ∧ Hid (OwnJ u w.heap.size o (toldF es)) ∧ Hid (Below w.heap.size w u) := by
  have HT := hidden (rtold_free w B b v m la es h)
  clear h
  go_enter Tryd.func32, Tryd.ntmps32
  go_wp2_with (go_at_call 56; refine HT.out.mono ?_; rintro e u ⟨o, rfl, HO, HB⟩)
  go_ret
  exact ⟨_, rfl, HO, HB⟩
set_option maxRecDepth 100000 in
/-- The pages of a new list. -/
theorem told_new (l : List Int) (hn : l.Nodup) (hK : Pgs (KL l)) : kL (KL l) (· == 0) = toldF (enE l) := by
  refine kL_eq hK _ ?_ (fun x => ?_)
  · unfold toldF
    rw [List.pairwise_map]
    exact (enE_rise l hn).filter _
  · unfold toldF KL
    rw [List.mem_map]
    constructor
    · rintro ⟨y, hy, rfl⟩
      have := (enE_mem l y).1 (List.mem_filter.1 hy).1
      exact ⟨0, by rw [if_pos this.2], rfl⟩
    · rintro ⟨s, h1, h2⟩
      by_cases hx : x ∈ l
      · exact ⟨(x, 0), List.mem_filter.2 ⟨(enE_mem l (x, 0)).2 ⟨rfl, hx⟩, rfl⟩, rfl⟩
      · rw [if_neg hx] at h1; cases h1
end Go.Proofs.YtedgpcckbdnijaaDoor
