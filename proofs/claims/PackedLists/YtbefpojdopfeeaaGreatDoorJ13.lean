/- packed.Page in memory: head, entry. -/
import Derived.Test.YtbefpojdopfeeaaGreatDoorJ12
import Derived.Deep.RegionLaw
namespace Go.Proofs.YtbefpojdopfeeaaGreatDoor
open Go.RowKit

/-- A slice of whole numbers. -/
structure SlN (w : World) (ao : Option Addr) (n cap : Nat) (l : List Nat) : Prop where
  hlen : l.length = n
  hcap : n ≤ cap
  hroom : n ≤ 140737488355328
  hnil : ao = none → cap = 0
  hat : n = 0 ∨ ∃ b off, ao = some ⟨b, off, none⟩ ∧ b < w.heap.size ∧ ∀ i, i < n → w.cell? ⟨b, off + i, none⟩ = some (.int .i64 ((l.getD i 0 : Nat) : Int))
set_option maxRecDepth 100000 in
theorem SlN.on {w w' : World} {ao : Option Addr} {n cap : Nat} {l : List Nat} (h : SlN w ao n cap l) (hb : Below w.heap.size w w') : SlN w' ao n cap l := by
  refine ⟨h.hlen, h.hcap, h.hroom, h.hnil, ?_⟩
  rcases h.hat with h0 | ⟨b, off, e, hlt, hc⟩
  · exact .inl h0
  · exact .inr ⟨b, off, e, Nat.lt_of_lt_of_le hlt hb.size, fun i hi => (hb.cell (p := ⟨b, off + i, none⟩) hlt).trans (hc i hi)⟩
set_option maxRecDepth 100000 in
theorem infoI : (Tryz.prog.info? 3).map (fun i => (i.zero, i.size, i.bytes)) = some (some (.int .i64 0), 1, 8) := by kernel_rfl
/-- Whole numbers as cells. -/
def NI (l : List Nat) : List Value := l.map fun (n : Nat) => Value.int .i64 (n : Int)
set_option maxRecDepth 100000 in
theorem NI_one (l : List Nat) : ∀ u ∈ NI l, u.oneCell' = true := by
  intro u hu
  simp only [NI, List.mem_map] at hu
  obtain ⟨n, _, rfl⟩ := hu
  rfl
/-- Whole numbers of one's own. -/
def OwnN (w : World) (B : Nat) (v : Value) (l : List Nat) : Prop := w.ownsRow B 3 1 v l.length (NI l)
set_option maxRecDepth 100000 in
theorem OwnN.sln {w : World} {B : Nat} {v : Value} {l : List Nat} (h' : OwnN w B v l) (hn : l.length ≤ 140737488355328) : ∃ ao cap, v = .slice ao l.length cap ∧ SlN w ao l.length cap l := by
  obtain ⟨n, hl⟩ : ∃ n, l.length = n := ⟨_, rfl⟩
  have h : w.ownsRow B 3 1 v n (NI l) := by rw [← hl]; exact h'
  rw [hl] at hn ⊢
  rcases h.2 with ⟨rfl, rfl⟩ | ⟨g, cap, cur, rfl, hg, hh, hnc, hm, hs, ht⟩
  · exact ⟨none, 0, rfl, ⟨hl, Nat.le_refl _, by omega, fun _ => rfl, .inl rfl⟩⟩
  · refine ⟨some ⟨g, 0, none⟩, cap, rfl, ⟨hl, hnc, hn, (by intro h; cases h), .inr ⟨g, 0, rfl, lt_some hh, ?_⟩⟩⟩
    intro i hi
    have := h.cellAt i (by omega)
    simp only [Nat.zero_add]
    rw [this]
    simp [NI, List.getD, List.getElem?_eq_getElem (show i < l.length by omega)]
set_option maxRecDepth 100000 in
theorem OwnN.gr {w w' : World} {B : Nat} {v : Value} {l : List Nat} {u u' : Value} (h : OwnN w B v l) (hg : Gr w u w' u') (hne : v.ownBlock = none ∨ v.ownBlock ≠ u.ownBlock) : OwnN w' B v l := World.ownsRow.kept h hg.grow hne
set_option maxRecDepth 100000 in
theorem OwnN.cf {w w' : World} {B : Nat} {v : Value} {l : List Nat} {r : Nat} (h : OwnN w B v l) (hc : Cf (· = r) w w') (hne : v.ownBlock ≠ some r) : OwnN w' B v l :=
  World.ownsRow.kept (row := some r) h ⟨hc.os, hc.tape, hc.output, hc.size, fun k hk hk2 => hc.block k hk (fun e => hk2 (by rw [e]))⟩ (.inr hne)
set_option maxRecDepth 100000 in
theorem OwnN.below {w w' : World} {B : Nat} {v : Value} {l : List Nat} (h : OwnN w B v l) (hb : Below w.heap.size w w') : OwnN w' B v l := h.gr (Gr.ofBelow (.slice none 0 0) hb) (by
  cases hv : v.ownBlock with
  | none => exact .inl rfl
  | some k => exact .inr (by simp [Value.ownBlock]))
set_option maxRecDepth 100000 in
/-- It does not lie in a block of another type. -/
theorem OwnN.apart {w : World} {B : Nat} {v : Value} {l : List Nat} (h : OwnN w B v l) {g : Nat} {xs : Array Value} {t : TypeId} {fr : Nat × Nat} (hg : w.heap[g]? = some (.cells xs t fr)) (ht : t ≠ 3) : v.ownBlock ≠ some g := by
  intro e
  unfold OwnN at h
  rcases h.2 with ⟨rfl, _⟩ | ⟨q, cap, cur, rfl, _, hh, _⟩
  · cases e
  · simp only [Value.ownBlock, Option.some.injEq] at e
    subst e
    rw [hg] at hh
    simp at hh
    exact ht hh.2.1
set_option maxRecDepth 100000 in
/-- 'append(out, x)' of one whole number, at a step of a region that draws its order. -/
theorem step_appN {ops : Array Oper} {o : Oper} {a : Act} {w : World} {K : Act → World → Prop} {Q : Exit → Act → World → Prop} {E : Prop} (hgd : o.guard = none) (s x : Operand)
    (ho : o.op = .call { callee := .builtin .append, args := #[s, x], argTypes := #[61, 61] }) (B : Nat) (l : List Nat) (y : Nat) (v : Value) (g : Nat) (hs : a.eval s = v) (hx : a.eval x = .slice (some ⟨g, 0, none⟩) 1 1)
    (hown : OwnN w B v l) (hy : w.cell? ⟨g, 0, none⟩ = some (.int .i64 (y : Int))) (hb : l.length + 1 ≤ 1000000) (hbase : B ≤ w.heap.size)
    (h : ∀ v' w', OwnN w' B v' (l ++ [y]) → Gr w v w' v' → K (a.put o.dst v') w') :
    if Region.wanted o (yielded ops a.tmps) = true then Oper.wp Tryz.prog o a w K Q else E := by
  have hw : Region.wanted o (yielded ops a.tmps) = true := by simp [Region.wanted, hgd]
  rw [if_pos hw]
  obtain ⟨i0, hi, hz0, hz1, hz2⟩ := info_parts infoI
  obtain ⟨v', w', hr, h1, h2, _, h4⟩ := run_append_own_at (P := Tryz.prog) w B 61 o.type 3 i0 (.int .i64 0) 1 8 Tryz.underlying61 hi hz0 hz1 hz2 rfl (by decide) v l.length (NI l) hown ⟨g, 0, none⟩ 1 1 (NI [y]) (by simp [NI])
    (fun j u hu => by
      have h1 : j < 1 := by have := (List.getElem?_eq_some_iff.1 hu).1; simpa [NI] using this
      obtain rfl : j = 0 := by omega
      simp [NI] at hu
      rw [← hu]
      simpa [Addr.add] using hy) (NI_one [y]) (by unfold maxLen; omega) (by omega) hbase
  have hfin := h v' w' (by unfold OwnN; rw [show NI (l ++ [y]) = NI l ++ NI [y] from by simp [NI], List.length_append]; exact h1) ⟨h2, h4.imp id fun e => ⟨_, e, Nat.le_refl _⟩⟩
  unfold Oper.wp
  simp [execOp, ho, resolve, invoke, builtin, hs, hx, hr, Result.andThen]
  exact hfin
/-- A page in memory. -/
structure PgQ (w : World) (a : Nat) (k : Int) (n : Nat) (po : Option Addr) (pn pc : Nat) (bo : Option Addr) (bn bc : Nat) (so : Option Addr) (sn sc : Nat) (ws : Int) (P body : List Int) (st : List Nat) : Prop where
  row : w.heap[a]? = some (.cells #[.int .i64 k, .int .i64 (n : Int), .slice po pn pc, .slice bo bn bc, .slice so sn sc, .int .i64 ws] 63 (0, 0))
  pre : Sl w po pn pc P
  body : Sl w bo bn bc body
  starts : SlN w so sn sc st
set_option maxRecDepth 100000 in
theorem PgQ.on {w w' : World} {a : Nat} {k : Int} {n : Nat} {po : Option Addr} {pn pc : Nat} {bo : Option Addr} {bn bc : Nat} {so : Option Addr} {sn sc : Nat} {ws : Int} {P body : List Int} {st : List Nat} (h : PgQ w a k n po pn pc bo bn bc so sn sc ws P body st) (hb : Below w.heap.size w w') : PgQ w' a k n po pn pc bo bn bc so sn sc ws P body st :=
  ⟨box_on h.row hb, h.pre.on (Nat.le_refl _) hb, h.body.on (Nat.le_refl _) hb, h.starts.on hb⟩
set_option maxRecDepth 100000 in
theorem PgQ.cells {w : World} {a : Nat} {k : Int} {n : Nat} {po : Option Addr} {pn pc : Nat} {bo : Option Addr} {bn bc : Nat} {so : Option Addr} {sn sc : Nat} {ws : Int} {P body : List Int} {st : List Nat} (h : PgQ w a k n po pn pc bo bn bc so sn sc ws P body st) :
    w.cell? ⟨a, 0, none⟩ = some (.int .i64 k) ∧ w.cell? ⟨a, 1, none⟩ = some (.int .i64 (n : Int)) ∧ w.cell? ⟨a, 2, none⟩ = some (.slice po pn pc) ∧ w.cell? ⟨a, 3, none⟩ = some (.slice bo bn bc) ∧ w.cell? ⟨a, 4, none⟩ = some (.slice so sn sc) ∧ w.cell? ⟨a, 5, none⟩ = some (.int .i64 ws) := by
  refine ⟨?_, ?_, ?_, ?_, ?_, ?_⟩
  · rw [cell_of_row _ _ 0 _ _ _ h.row]; rfl
  · rw [cell_of_row _ _ 1 _ _ _ h.row]; rfl
  · rw [cell_of_row _ _ 2 _ _ _ h.row]; rfl
  · rw [cell_of_row _ _ 3 _ _ _ h.row]; rfl
  · rw [cell_of_row _ _ 4 _ _ _ h.row]; rfl
  · rw [cell_of_row _ _ 5 _ _ _ h.row]; rfl
/-- Where the cells lie in a page's body. -/
structure LayQ (k : Int) (P : List Int) (cs : List Cl) (body : List Int) (st : List Nat) : Prop where
  len : st.length = cs.length
  beg : Beg k P cs
  fit : ∀ c ∈ cs, c.fit
  at_ : ∀ i c, cs[i]? = some c → ∃ r, body.drop (st.getD i 0) = qB (if k = 3 ∧ i = 0 then 0 else P.length) c ++ r
set_option maxRecDepth 100000 in
theorem qB_pos (m : Nat) (c : Cl) : 0 < (qB m c).length := by unfold qB; simp
set_option maxRecDepth 100000 in
theorem head_any (w : World) (a : Nat) (k : Int) (n : Nat) (po : Option Addr) (pn pc : Nat) (bo : Option Addr) (bn bc : Nat) (so : Option Addr) (sn sc : Nat) (ws : Int) (P body : List Int) (st : List Nat) (h : PgQ w a k n po pn pc bo bn bc so sn sc ws P body st) (i : Nat) :
    Calls Tryz.prog 95 #[.pointer (some ⟨a, 0, none⟩), .int .i64 (i : Int)] w fun e w' => ∃ ho hn hc, e = .returned (.slice ho hn hc) ∧ Hid (Sl w ho hn hc (if k = 3 ∧ i = 0 then [] else P) ∧ hn = (if k = 3 ∧ i = 0 then 0 else pn) ∧ (ho = none ∨ ho = po)) ∧ w' = w := by
  obtain ⟨c0, c1, c2, c3, c4, c5⟩ := h.cells
  by_cases hc : k = 3 ∧ i = 0
  · have HSW : Hid (Calls Tryz.prog 44 #[.int .i64 k, .int .i64 (i : Int)] w fun e w' => e = .returned (.bool true) ∧ w' = w) := hidden (by
      have := standsWhole_any k (i : Int) w
      rwa [decide_eq_true (show k = 3 ∧ (i : Int) = 0 by omega)] at this)
    rw [if_pos hc, if_pos hc]
    clear h hc
    go_enter Tryz.func95, Tryz.ntmps95
    go_wp2_with (first | (go_at_call 44; refine same_call HSW.out ?_))
    go_ret
    exact ⟨none, 0, 0, rfl, hidden ⟨Sl.nil_any _ _ _ (fun _ => rfl), rfl, .inl rfl⟩, rfl⟩
  · have HSW : Hid (Calls Tryz.prog 44 #[.int .i64 k, .int .i64 (i : Int)] w fun e w' => e = .returned (.bool false) ∧ w' = w) := hidden (by
      have := standsWhole_any k (i : Int) w
      rwa [decide_eq_false (show ¬ (k = 3 ∧ (i : Int) = 0) by omega)] at this)
    rw [if_neg hc, if_neg hc]
    have HP := hidden h.pre
    clear h hc
    go_enter Tryz.func95, Tryz.ntmps95
    go_wp2_with (first | (go_at_call 44; refine same_call HSW.out ?_))
    go_ret
    exact ⟨po, pn, pc, rfl, hidden ⟨HP.out, rfl, .inr rfl⟩, rfl⟩
set_option maxRecDepth 100000 in
theorem E6.free {w : World} {g : Nat} {x0 x1 x2 x3 x4 x5 : Value} (h : E6 w g x0 x1 x2 x3 x4 x5) (i : Nat) : w.frozen? ⟨g, i, none⟩ = false := by
  unfold E6 at h
  simp [World.frozen?, h]
set_option maxRecDepth 100000 in
theorem E6.set {w : World} {g : Nat} {x0 x1 x2 x3 x4 x5 : Value} (h : E6 w g x0 x1 x2 x3 x4 x5) (y : Value) :
    E6 (w.setCell ⟨g, 0, none⟩ y) g y x1 x2 x3 x4 x5 ∧ E6 (w.setCell ⟨g, 1, none⟩ y) g x0 y x2 x3 x4 x5 ∧ E6 (w.setCell ⟨g, 2, none⟩ y) g x0 x1 y x3 x4 x5 ∧ E6 (w.setCell ⟨g, 3, none⟩ y) g x0 x1 x2 y x4 x5 ∧ E6 (w.setCell ⟨g, 4, none⟩ y) g x0 x1 x2 x3 y x5 ∧ E6 (w.setCell ⟨g, 5, none⟩ y) g x0 x1 x2 x3 x4 y := by
  unfold E6 at *
  refine ⟨?_, ?_, ?_, ?_, ?_, ?_⟩
  · simpa using set_row (w := w) (a := g) (i := 0) (cs := [x0, x1, x2, x3, x4, x5]) (u := y) h
  · simpa using set_row (w := w) (a := g) (i := 1) (cs := [x0, x1, x2, x3, x4, x5]) (u := y) h
  · simpa using set_row (w := w) (a := g) (i := 2) (cs := [x0, x1, x2, x3, x4, x5]) (u := y) h
  · simpa using set_row (w := w) (a := g) (i := 3) (cs := [x0, x1, x2, x3, x4, x5]) (u := y) h
  · simpa using set_row (w := w) (a := g) (i := 4) (cs := [x0, x1, x2, x3, x4, x5]) (u := y) h
  · simpa using set_row (w := w) (a := g) (i := 5) (cs := [x0, x1, x2, x3, x4, x5]) (u := y) h
/-- An entry written whole. -/
def put6 (w : World) (g : Nat) (y0 y1 y2 y3 y4 y5 : Value) : World := (put5 w g y0 y1 y2 y3 y4).setCell ⟨g, 5, none⟩ y5
set_option maxRecDepth 100000 in
theorem E6.put {w : World} {g : Nat} {x0 x1 x2 x3 x4 x5 : Value} (h : E6 w g x0 x1 x2 x3 x4 x5) (y0 y1 y2 y3 y4 y5 : Value) : E6 (put6 w g y0 y1 y2 y3 y4 y5) g y0 y1 y2 y3 y4 y5 :=
  (((((((h.set y0).1).set y1).2.1.set y2).2.2.1.set y3).2.2.2.1.set y4).2.2.2.2.1.set y5).2.2.2.2.2
set_option maxRecDepth 100000 in
theorem put6_cf (w : World) (g : Nat) (y0 y1 y2 y3 y4 y5 : Value) : Cf (· = g) w (put6 w g y0 y1 y2 y3 y4 y5) := (put5_cf w g y0 y1 y2 y3 y4).go (Cf.set _ _ _ _)
set_option maxRecDepth 100000 in
theorem sizeEnt : (Tryz.prog.info? 78).map (·.size) = some 6 := by kernel_rfl
set_option maxRecDepth 100000 in
theorem E6.cf {w w' : World} {g : Nat} {x0 x1 x2 x3 x4 x5 : Value} {F : Nat → Prop} (h : E6 w g x0 x1 x2 x3 x4 x5) (hc : Cf F w w') (hg : ¬ F g) : E6 w' g x0 x1 x2 x3 x4 x5 := (hc.block g (lt_some h) hg).trans h
set_option maxRecDepth 100000 in
/-- A slice of bytes does not lie in an entry's block. -/
theorem Sl.apart6 {w : World} {ao : Option Addr} {n cap : Nat} {l : List Int} (h : Sl w ao n cap l) {g : Nat} {a b d : Option Addr} {c1 c2 c3 c4 c5 c6 : Nat} {x y z : Int} (hr : E6 w g (.slice a c1 c2) (.slice b c3 c4) (.int .i64 x) (.slice d c5 c6) (.int .i64 y) (.int .i64 z)) : n = 0 ∨ ∀ p, ao = some p → ¬ p.block = g := by
  rcases h.hat with h0 | ⟨q, off, rfl, hg, hc⟩
  · exact .inl h0
  · rcases Nat.eq_zero_or_pos n with h0 | h0
    · exact .inl h0
    · right
      rintro p hp rfl
      injection hp with hp
      subst hp
      have h1 := hc 0 h0
      unfold E6 at hr
      rw [cell_of_row _ _ _ _ _ _ hr] at h1
      rcases Nat.lt_or_ge (off + 0) 6 with h3 | h3
      · have h4 : off + 0 = 0 ∨ off + 0 = 1 ∨ off + 0 = 2 ∨ off + 0 = 3 ∨ off + 0 = 4 ∨ off + 0 = 5 := by omega
        rcases h4 with h4 | h4 | h4 | h4 | h4 | h4 <;> (rw [h4] at h1; simp at h1)
      · rw [Array.getElem?_eq_none (by simpa using h3)] at h1
        cases h1
/-- It lies below a block, or is empty. -/
def Lo (G : Nat) (ao : Option Addr) (n : Nat) : Prop := n = 0 ∨ ∀ q, ao = some q → q.block < G
set_option maxRecDepth 100000 in
theorem Sl.lo {w : World} {ao : Option Addr} {n cap : Nat} {l : List Int} (h : Sl w ao n cap l) : Lo w.heap.size ao n := by
  rcases h.hat with h0 | ⟨b, off, e, hlt, _⟩
  · exact .inl h0
  · exact .inr fun q hq => by rw [e] at hq; injection hq with hq; subst hq; exact hlt
/-- What entry comes to. -/
def EntTo (G : Nat) (c : Cl) (w : World) (e : Ending) (w' : World) : Prop :=
  ∃ (ho : Option Addr) (hn hc : Nat) (ko : Option Addr) (kn kc : Nat) (vo : Option Addr) (vn vc : Nat) (h key : List Int), e = .returned (.agg #[.slice ho hn hc, .slice ko kn kc, .int .i64 c.kd, .slice vo vn vc, .int .i64 c.pg, .int .i64 c.ct]) ∧ Hid (Sl w' ho hn hc h ∧ Sl w' ko kn kc key ∧ Sl w' vo vn vc c.val ∧ h ++ key = c.key ∧ Lo G ho hn ∧ Lo G ko kn ∧ Lo G vo vn) ∧ Hid (Below w.heap.size w w')
set_option maxRecDepth 100000 in
set_option maxHeartbeats 1000000 in
theorem pentry_any (w : World) (a : Nat) (k : Int) (n : Nat) (po : Option Addr) (pn pc : Nat) (bo : Option Addr) (bn bc : Nat) (so : Option Addr) (sn sc : Nat) (ws : Int) (P body : List Int) (st : List Nat) (cs : List Cl) (h : PgQ w a k n po pn pc bo bn bc so sn sc ws P body st) (hl : LayQ k P cs body st) (i : Nat) (c : Cl) (hci : cs[i]? = some c) (G : Nat) (hG1 : Lo G po pn) (hG2 : Lo G bo bn) :
    Calls Tryz.prog 61 #[.pointer (some ⟨a, 0, none⟩), .int .i64 (i : Int)] w fun e w' => EntTo G c w e w' := by
  obtain ⟨c0, c1, c2, c3, c4, c5⟩ := h.cells
  have hcf := hl.fit c (List.mem_of_getElem? hci)
  obtain ⟨r, hat⟩ := hl.at_ i c hci
  have hil : i < sn := by
    have := (List.getElem?_eq_some_iff.1 hci).1
    have := hl.len
    have := h.starts.hlen
    omega
  obtain ⟨m, hm⟩ : ∃ m, (if k = 3 ∧ i = 0 then 0 else P.length) = m := ⟨_, rfl⟩
  obtain ⟨hd, hhd⟩ : ∃ hd, (if k = 3 ∧ i = 0 then [] else P) = hd := ⟨_, rfl⟩
  have hkey : hd ++ c.key.drop m = c.key := by
    rw [← hm, ← hhd]
    by_cases hc : k = 3 ∧ i = 0
    · rw [if_pos hc, if_pos hc]
      simp
    · rw [if_neg hc, if_neg hc]
      have hb := hl.beg c (mem_ktl hci hc)
      conv => lhs; rw [← hb]
      rw [show (List.take P.length c.key).length = P.length from by rw [hb]]
      exact List.take_append_drop _ _
  rw [hm] at hat
  have hpc : pC (body.drop (st.getD i 0)) = some (c.cut m, r) := by rw [hat, pC_mid m c r hcf]
  have hlen : (st.getD i 0) < bn := by
    have h1 := congrArg List.length hat
    rw [List.length_drop, List.length_append, h.body.hlen] at h1
    have := qB_pos m c
    omega
  obtain ⟨s0, hst⟩ : ∃ s0, st.getD i 0 = s0 := ⟨_, rfl⟩
  rw [hst] at hpc hlen
  obtain ⟨gb, off, rfl⟩ : ∃ gb off, bo = some ⟨gb, off, none⟩ := by
    rcases h.body.hat with h0 | ⟨b, off, e, _⟩
    · omega
    · exact ⟨b, off, e⟩
  obtain ⟨gs, offs, rfl, hgs, hcs⟩ : ∃ b off, so = some ⟨b, off, none⟩ ∧ b < w.heap.size ∧ ∀ j, j < sn → w.cell? ⟨b, off + j, none⟩ = some (.int .i64 ((st.getD j 0 : Nat) : Int)) := by
    rcases h.starts.hat with h0 | h0
    · omega
    · exact h0
  have cj := hcs i hil
  rw [hst] at cj
  have HPC := hidden hpc
  have HSL := hidden h.body
  have HPG := hidden h
  have HKEY := hidden hkey
  have i0 : (i : Int) < (sn : Int) := by omega
  have i1 : i < sn := hil
  have hstb : s0 ≤ bn := by omega
  have hbx : ∀ o, Below w.heap.size w (w.alloc o) := fun o => bl_al (Below.refl _ _) (Nat.le_refl _) _
  have hbxx : ∀ o o', Below w.heap.size w ((w.alloc o).alloc o') := fun o o' => bl_al (hbx o) (Nat.le_refl _) _
  have HBXX := hidden hbxx
  have d2 := fun o => (h.on (hbx o)).cells.2.2.2.1
  have d3 := fun o => (h.on (hbx o)).cells.2.2.2.2.1
  have e2 := fun o o' => (h.on (hbxx o o')).cells.2.2.2.1
  have e3 := fun o o' => (h.on (hbxx o o')).cells.2.2.2.2.1
  have dj := fun o => ((hbx o).cell (p := ⟨gs, offs + i, none⟩) hgs).trans cj
  have ej := fun o o' => ((hbxx o o').cell (p := ⟨gs, offs + i, none⟩) hgs).trans cj
  have HHD := hidden hhd
  clear h hpc hcs hcf hbx hbxx hci hl hat hkey hm hst hhd
  go_enter Tryz.func61, Tryz.ntmps61
  go_wp2_with fail
  go_region
  obtain ⟨g4, hg4⟩ : ∃ g4, w.heap.size = g4 := ⟨_, rfl⟩
  obtain ⟨x, hx⟩ : ∃ x, ((w.alloc (.cells #[.slice none 0 0, .slice none 0 0, .int .i64 0, .slice none 0 0, .int .i64 0, .int .i64 0] 78)).alloc (.cells #[.slice (some ⟨gb, off, none⟩) bn bc, .int .i64 (s0 : Int), .bool false] 104)).drew = x := ⟨_, rfl⟩
  have hbx : Below w.heap.size w x := by rw [← hx]; exact (HBXX.out _ _).drew
  have HRD : Hid (Rdq x (g4 + 1) (some ⟨gb, off, none⟩) bn bc s0 false) := by
    rw [← hx, ← hg4]
    have hz : (w.alloc (.cells #[.slice none 0 0, .slice none 0 0, .int .i64 0, .slice none 0 0, .int .i64 0, .int .i64 0] 78)).heap.size = w.heap.size + 1 := by simp
    have := heap_alloc_last (w.alloc (.cells #[.slice none 0 0, .slice none 0 0, .int .i64 0, .slice none 0 0, .int .i64 0, .int .i64 0] 78)) (.cells #[.slice (some ⟨gb, off, none⟩) bn bc, .int .i64 (s0 : Int), .bool false] 104)
    rw [hz] at this
    exact hidden this
  have HC4 : Hid (E6 x g4 (.slice none 0 0) (.slice none 0 0) (.int .i64 0) (.slice none 0 0) (.int .i64 0) (.int .i64 0)) := by
    rw [← hx, ← hg4]
    exact hidden ((Below.heap_alloc _ _ _ (by simp)).trans (heap_alloc_last w _))
  have HSX : Hid (Sl x (some ⟨gb, off, none⟩) bn bc body) := hidden (HSL.out.on (Nat.le_refl _) hbx)
  have HBX := hidden hbx
  rw [hx, hg4]
  have HHE := hidden (head_any x a k n po pn pc _ bn bc _ sn sc ws P body st (HPG.out.on hbx) i)
  rw [HHD.out] at HHE
  have HCL := hidden (ucell_any body x (g4 + 1) gb off bn bc s0 false HRD.out HSX.out hstb)
  have HG4 := hidden hg4
  clear hx hbx c0 c1 c2 c3 c4 c5 cj d2 d3 e2 e3 dj ej hg4
  go_wp2_with (first | (go_at_call 95; refine HHE.out.mono ?_; rintro e w1 ⟨ho, hn, hc, rfl, HHS, hw1⟩; refine Hid.out ?_))
  apply hidden
  clear hw1 HHE
  have HHS1 := hidden HHS.out.1
  have HLH : Hid (Lo G ho hn) := hidden (by
    obtain ⟨_, h2, h3⟩ := HHS.out
    rcases h3 with h3 | h3
    · exact .inr fun q hq => by rw [h3] at hq; cases hq
    · rcases hG1 with h4 | h4
      · left
        rw [h2]
        split <;> omega
      · exact .inr fun q hq => h4 q (by rw [← h3]; exact hq))
  have HGB : Hid (gb < G) := hidden (by
    rcases hG2 with h0 | h0
    · omega
    · exact h0 _ rfl)
  clear HHS
  go_wp2_with (first | (go_at_call 90; refine HCL.out.mono ?_; rintro e w2 ⟨ko, kn, kc, kd, vo, vn, vc, pg, ct, q, en, key, val, rfl, HR2, HCF, HQ⟩; refine Hid.out ?_))
  apply hidden
  obtain ⟨hks, hvs, hlk, hlv, _, hcase⟩ := HQ.out
  have HLKV : Hid (Lo G ko kn ∧ Lo G vo vn) := hidden ⟨.inr fun q hq => by rw [hlk q hq]; exact HGB.out, .inr fun q hq => by rw [hlv q hq]; exact HGB.out⟩
  rw [HPC.out] at hcase
  rcases hcase with ⟨hcase, _⟩ | ⟨hcase, _⟩
  · injection hcase with hcase
    injection hcase with hc1 hc2
    unfold Cl.cut at hc1
    injection hc1 with g1 g2 g3 g4' g5
    subst g1 g2 g3 g4' g5
    have HKS := hidden hks
    have HVS := hidden hvs
    have HC42 : Hid (E6 w2 g4 (.slice none 0 0) (.slice none 0 0) (.int .i64 0) (.slice none 0 0) (.int .i64 0) (.int .i64 0)) := hidden (HC4.out.cf HCF.out (by omega))
    have HHS2 : Hid (Sl w2 ho hn hc hd) := hidden (HHS1.out.cf HCF.out (HHS1.out.apart HRD.out))
    obtain ⟨b0, b1, b2, b3, b4, b5⟩ := HC42.out.cells
    have f0 := HC42.out.free 0
    have f1 := HC42.out.free 1
    have f2 := HC42.out.free 2
    have f3 := HC42.out.free 3
    have f4 := HC42.out.free 4
    have f5 := HC42.out.free 5
    have HBE : Hid (Below w.heap.size w w2) := hidden (HBX.out.trans (HCF.out.below HBX.out.size (by have := HG4.out; intro i hi e; omega)))
    clear HQ hks hvs hlk hlv hc2 HCL HCF HR2 HRD HSX HC4 HBX HBXX HHS1
    go_wp2
    refine bodyPost_ret (results_cell_row rfl _ _ g4 78 #[.slice ho hn hc, .slice ko kn kc, .int .i64 c.kd, .slice vo vn vc, .int .i64 c.pg, .int .i64 c.ct] (0, 0) _ (by rfl) (HC42.out.put _ _ _ _ _ _) Tryz.underlying78 rfl sizeEnt) rfl ?_
    have hf := put6_cf w2 g4 (.slice ho hn hc) (.slice ko kn kc) (.int .i64 c.kd) (.slice vo vn vc) (.int .i64 c.pg) (.int .i64 c.ct)
    exact ⟨ho, hn, hc, ko, kn, kc, vo, vn, vc, hd, c.key.drop m, rfl, hidden ⟨HHS2.out.cf hf (HHS2.out.apart6 HC42.out), HKS.out.cf hf (HKS.out.apart6 HC42.out), HVS.out.cf hf (HVS.out.apart6 HC42.out), HKEY.out, HLH.out, HLKV.out.1, HLKV.out.2⟩, hidden (HBE.out.trans (hf.below HBE.out.size (by have := HG4.out; intro i hi e; omega)))⟩
  · cases hcase
end Go.Proofs.YtbefpojdopfeeaaGreatDoor
