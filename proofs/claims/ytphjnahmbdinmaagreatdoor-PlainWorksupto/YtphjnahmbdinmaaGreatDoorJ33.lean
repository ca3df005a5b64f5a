/- Layer 6: plain mathematics of the document's Decode: of a page each slot leads to its cell. -/
import Derived.Test.YtphjnahmbdinmaaGreatDoorZd
import Derived.Test.YtphjnahmbdinmaaGreatDoorJ04
import Derived.Carry
import Derived.Deep.RegionLaw
import Derived.Laws.OwnMore
import Derived.Handy
import Derived.Test.YtphjnahmbdinmaaGreatDoorJ21
import Derived.Test.YtphjnahmbdinmaaGreatDoorJ16
namespace Go.Proofs.YtphjnahmbdinmaaGreatDoor
open Go.RowKit

set_option maxRecDepth 100000 in
theorem sloB_app (a b : List Nat) : sloB (a ++ b) = sloB a ++ sloB b := by simp [sloB]
set_option maxRecDepth 100000 in
theorem enc_is6 {k : Int} {n : Nat} {cs : List Cl} {b : List Int} (h : encE k n cs = 0) (e : pgB k n cs = b) : Is k n cs b := by
  unfold encE at h
  by_cases h1 : isKd k ∧ pw (n : Int)
  · rw [if_pos h1] at h
    by_cases h2 : chk k n none cs = 0
    · rw [if_pos h2] at h
      by_cases h3 : (n : Int) < szN cs
      · rw [if_pos h3] at h; cases h
      · exact ⟨h1.1, h1.2, h2, by omega, e⟩
    · rw [if_neg h2] at h; exact absurd h h2
  · rw [if_neg h1] at h; cases h
set_option maxRecDepth 100000 in
theorem Is.enc6 {k : Int} {n : Nat} {cs : List Cl} {b : List Int} (h : Is k n cs b) : encE k n cs = 0 := by
  unfold encE
  have := h.fit
  rw [if_pos ⟨h.kd, h.sz⟩, if_pos h.ok, if_neg (by omega)]
set_option maxRecDepth 100000 in
/-- Of a page: how many cells, and where each of them begins. -/
theorem Is.slots {k : Int} {n : Nat} {cs : List Cl} {b : List Int} (h : Is k n cs b) : rdN b 2 2 = cs.length ∧ b.length = n ∧ ∀ (t : Nat) (c : Cl), cs[t]? = some c → 4 + 2 * t + 2 ≤ n ∧ ∃ s : Nat, rdN b (4 + 2 * t) 2 = s ∧ s ≤ n ∧ ∃ r, pCell (b.drop s) = some (c, r) := by
  obtain ⟨h1, h2, h3, h4, h5⟩ := h
  have hp := pw_nat h2
  have hz := szN_eq cs
  have hlen : b.length = n := by rw [← h5, pgB_length k n cs h4]
  obtain ⟨U, hU, hsp⟩ := pgB_split k n cs
  rw [h5] at hsp
  refine ⟨?_, hlen, fun t c ht => ?_⟩
  · rw [hsp, rdN_mid [k, 1] (fB 2 cs.length) _ 2 2 rfl (fB_length _ _)]
    exact fB_read 2 _ (by omega) (by omega)
  · obtain ⟨htl, e⟩ := List.getElem?_eq_some_iff.1 ht
    have hbt : bdy cs = bdy (cs.take t) ++ (cB c ++ bdy (cs.drop (t + 1))) := by
      rw [← bdy_cons, ← e, ← List.drop_eq_getElem_cons htl, ← bdy_append, List.take_append_drop]
    obtain ⟨B, hB⟩ : ∃ B, n - 4 - (bdy cs).length = B := ⟨_, rfl⟩
    rw [hB] at hsp
    have hbl : (bdy (cs.take t)).length ≤ (bdy cs).length := bdy_le6 cs t
    have hsl := sts_get B t cs htl
    obtain ⟨s, hs⟩ : ∃ s, B + (bdy (cs.take t)).length = s := ⟨_, rfl⟩
    rw [hs] at hsl
    have hst : (sts B cs)[t]? = some s := by
      have hl : t < (sts B cs).length := by rw [sts_length]; exact htl
      rw [List.getElem?_eq_getElem hl]
      rw [List.getD, List.getElem?_eq_getElem hl] at hsl
      simpa using hsl
    have hsplit : sts B cs = (sts B cs).take t ++ (s :: (sts B cs).drop (t + 1)) := by
      obtain ⟨hl, e2⟩ := List.getElem?_eq_some_iff.1 hst
      rw [← e2, ← List.drop_eq_getElem_cons hl, List.take_append_drop]
    have hsloc : sloB (sts B cs) = sloB ((sts B cs).take t) ++ (fB 2 (s : Int) ++ sloB ((sts B cs).drop (t + 1))) := by
      conv => lhs; rw [hsplit]
      rw [sloB_app]
      rfl
    refine ⟨by omega, s, ?_, by omega, bdy (cs.drop (t + 1)) ++ U, ?_⟩
    · have e3 : b = ([k, 1] ++ (fB 2 cs.length ++ sloB ((sts B cs).take t))) ++ (fB 2 (s : Int) ++ (sloB ((sts B cs).drop (t + 1)) ++ (zs (n - szN cs) ++ (bdy cs ++ U)))) := by
        rw [hsp, hsloc]
        simp only [List.append_assoc]
      rw [e3, rdN_mid _ (fB 2 (s : Int)) _ (4 + 2 * t) 2 (by simp only [List.length_append, List.length_cons, List.length_nil, fB_length, sloB_length, List.length_take, sts_length]; omega) (fB_length _ _)]
      exact fB_read 2 _ (by omega) (by omega)
    · have e4 : b = (([k, 1] ++ (fB 2 cs.length ++ (sloB (sts B cs) ++ zs (n - szN cs)))) ++ bdy (cs.take t)) ++ (cB c ++ (bdy (cs.drop (t + 1)) ++ U)) := by
        rw [hsp]
        conv => lhs; rw [hbt]
        simp only [List.append_assoc]
      rw [e4, List.drop_left' (by simp only [List.length_append, List.length_cons, List.length_nil, fB_length, sloB_length, sts_length, zs_length]; omega)]
      exact pCell_mid c _ ((chk_all6 k n none cs h3 c (List.mem_of_getElem? ht)).fit (by omega))
end Go.Proofs.YtphjnahmbdinmaaGreatDoor

/- The document's ReadFixed (of RefReads, alone). -/

namespace Go.Proofs.YtphjnahmbdinmaaGreatDoor
open Go.RowKit

/-- What ReadFixed comes to. -/
def rF (l : List Int) (p x : Int) : Int × Int := if (x < 1 ∨ 8 < x) ∨ (p < 0 ∨ l.length < p) then (0, 1) else if (l.length : Int) - p < x then (0, 10) else (rdB ((l.drop p.toNat).take x.toNat), 0)
end Go.Proofs.YtphjnahmbdinmaaGreatDoor

/- Layer 6: the document's number. -/

namespace Go.Proofs.YtphjnahmbdinmaaGreatDoor
open Go.RowKit

end Go.Proofs.YtphjnahmbdinmaaGreatDoor

/- Layer 6: append in a region that draws its order; a result of a struct and a word. -/

namespace Go.Proofs.YtphjnahmbdinmaaGreatDoor
open Go.RowKit

set_option maxRecDepth 100000 in
/-- 'append(out, x...)' as it runs. -/
theorem run_app_sl (w : World) (ty : TypeId) (B : Nat) (l news : List Int) (v : Value) (ao : Option Addr) (n c : Nat) (hown : OwnB w B v l) (hsl : Sl w ao n c news) (hb : l.length + n ≤ 140737488355328) (hbase : B ≤ w.heap.size) :
    ∃ v' w', (Builtin.append_ #[38, 38] ty #[v, .slice ao n c]).run Tryz.prog w = .ok v' w' ∧ OwnB w' B v' (l ++ news) ∧ Gr w v w' v' := by
  obtain ⟨i0, hi, hz0, hz1, hz2⟩ := info_parts info5
  have hlen := hsl.hlen
  cases ao with
  | none =>
    have : n = 0 := by have := hsl.hnil rfl; have := hsl.hcap; omega
    subst this
    have hc0 := hsl.hnil rfl
    subst hc0
    obtain rfl : news = [] := List.eq_nil_of_length_eq_zero hlen
    exact ⟨v, w, run_append_owned_none (P := Tryz.prog) (w := w) B 38 ty 5 i0 1 Tryz.underlying38 hi v l.length (By l) hown, by simpa using hown, Gr.refl _ _⟩
  | some ad =>
    obtain ⟨v', w', hr, h1, h2, _, h4⟩ := run_append_own_at (P := Tryz.prog) w B 38 ty 5 i0 (.int .u8 0) 1 1 Tryz.underlying38 hi hz0 hz1 hz2 rfl (by decide) v l.length (By l) hown ad n c (By news) (by simp [By, hlen])
      (fun j u hu => by
        obtain ⟨h1, h2⟩ := getElem?_By news j u hu
        rw [h2]
        rcases hsl.hat with h0 | ⟨b, off, e, _, hc⟩
        · omega
        · injection e with e
          subst e
          rw [Addr.add_lit]
          exact hc j (by omega)) (By_one news) (by unfold maxLen; omega) (by omega) hbase
    refine ⟨v', w', hr, ?_, ⟨h2, h4.imp id fun e => ⟨_, e, Nat.le_refl _⟩⟩⟩
    unfold OwnB
    rw [By_append, List.length_append, hlen]
    exact h1
set_option maxRecDepth 100000 in
/-- 'append(out, x...)' at a step of a region that draws its order. -/
theorem step_sl {ops : Array Oper} {o : Oper} {a : Act} {w : World} {K : Act → World → Prop} {Q : Exit → Act → World → Prop} {E : Prop} (hgd : o.guard = none) (s x : Operand)
    (ho : o.op = .call { callee := .builtin .append, args := #[s, x], argTypes := #[38, 38] }) (B : Nat) (l news : List Int) (v : Value) (ao : Option Addr) (n c : Nat) (hs : a.eval s = v) (hx : a.eval x = .slice ao n c)
    (hown : OwnB w B v l) (hsl : Sl w ao n c news) (hb : l.length + n ≤ 140737488355328) (hbase : B ≤ w.heap.size)
    (h : ∀ v' w', OwnB w' B v' (l ++ news) → Gr w v w' v' → K (a.put o.dst v') w') :
    if Region.wanted o (yielded ops a.tmps) = true then Oper.wp Tryz.prog o a w K Q else E := by
  have hw : Region.wanted o (yielded ops a.tmps) = true := by simp [Region.wanted, hgd]
  rw [if_pos hw]
  obtain ⟨v', w', hr, h1, h2⟩ := run_app_sl w o.type B l news v ao n c hown hsl hb hbase
  have hfin := h v' w' h1 h2
  unfold Oper.wp
  simp [execOp, ho, resolve, invoke, builtin, hs, hx, hr, Result.andThen]
  exact hfin
set_option maxRecDepth 100000 in
theorem results_row26 {P : Program} {fn : Func} {p u : Tmp} {ty : TypeId} (h : fn.results = #[.cell p ty, .tmp u]) (tmps : Array Value) (w : World) (g : Nat) (t : TypeId) (cs : Array Value) (fr : Nat × Nat) (d : TypeDesc) (v : Value)
    (hp : tmps.getD p undef = .pointer (some ⟨g, 0, none⟩)) (hv : tmps.getD u undef = v) (hg : w.heap[g]? = some (.cells cs t fr))
    (hu : P.underlying ty = some d) (hd : (match d with | .struct _ | .array _ _ => true | _ => false) = true) (hi : (P.info? ty).map (·.size) = some cs.size) :
    (results fn tmps).run P w = .ok (.tuple #[.agg cs, v]) w := by
  subst hv
  rw [results_cell_tmp h, hp]
  simp [asAddr, run_loadVar_row w g t ty cs fr d hg hu hd hi, Result.andThen]
end Go.Proofs.YtphjnahmbdinmaaGreatDoor

/- Layer 6: plain mathematics of the document's cellAt. -/

namespace Go.Proofs.YtphjnahmbdinmaaGreatDoor
open Go.RowKit

set_option maxRecDepth 100000 in
theorem pNum_at (l : List Int) (p d : Nat) (h : p + d ≤ l.length) : pNum d (l.drop p) = some (rdN l p d, l.drop (p + d)) := by
  unfold pNum
  rw [if_neg (by rw [List.length_drop]; omega), List.drop_drop]
  rfl
set_option maxRecDepth 100000 in
theorem pNum_off (l : List Int) (p d : Nat) (h : l.length < p + d) (hd : 0 < d) : pNum d (l.drop p) = none := by
  unfold pNum
  rw [if_pos (by rw [List.length_drop]; omega)]
set_option maxRecDepth 100000 in
theorem pText_at (l : List Int) (p m : Nat) (hm : rdN l p 2 = m) (h : p + 2 + m ≤ l.length) : pText (l.drop p) = some ((l.drop (p + 2)).take m, l.drop (p + 2 + m)) := by
  unfold pText
  rw [pNum_at l p 2 (by omega), hm]
  simp only
  rw [if_neg (by rw [List.length_drop]; omega), Int.toNat_natCast, List.drop_drop]
set_option maxRecDepth 100000 in
theorem pText_off (l : List Int) (p m : Nat) (hm : rdN l p 2 = m) (h : l.length < p + 2 + m) : pText (l.drop p) = none := by
  unfold pText
  by_cases h2 : p + 2 ≤ l.length
  · rw [pNum_at l p 2 h2, hm]
    simp only
    rw [if_pos (by rw [List.length_drop]; omega)]
  · rw [pNum_off l p 2 (by omega) (by omega)]
set_option maxRecDepth 100000 in
theorem pCell_few (l : List Int) (p : Nat) (h : l.length < p + 3) : pCell (l.drop p) = none := by
  unfold pCell
  by_cases h1 : p + 1 ≤ l.length
  · rw [pNum_at l p 1 h1]
    simp only
    have : pText (l.drop (p + 1)) = none := by
      unfold pText
      rw [pNum_off l (p + 1) 2 (by omega) (by omega)]
    rw [this]
  · rw [pNum_off l p 1 (by omega) (by omega)]
set_option maxRecDepth 100000 in
theorem pCell_short (l : List Int) (p M : Nat) (hM : rdN l (p + 1) 2 = M) (h3 : p + 3 ≤ l.length) (h : l.length < p + 3 + M + 2) : pCell (l.drop p) = none := by
  unfold pCell
  rw [pNum_at l p 1 (by omega)]
  simp only
  by_cases hk : p + 1 + 2 + M ≤ l.length
  · rw [pText_at l (p + 1) M hM hk]
    simp only
    split
    · have : pText (l.drop (p + 1 + 2 + M)) = none := by
        unfold pText
        rw [pNum_off l (p + 1 + 2 + M) 2 (by omega) (by omega)]
      rw [this]
    · rw [pNum_off l (p + 1 + 2 + M) 4 (by omega) (by omega)]
  · rw [pText_off l (p + 1) M hM (by omega)]
set_option maxRecDepth 100000 in
theorem pCell_val (l : List Int) (p M m : Nat) (hM : rdN l (p + 1) 2 = M) (hk : rdN l p 1 = 1) (hm : rdN l (p + 3 + M) 2 = m) (h : p + 3 + M + 2 ≤ l.length) :
    (l.length < p + 3 + M + 2 + m → pCell (l.drop p) = none) ∧ (p + 3 + M + 2 + m ≤ l.length → ∃ r, pCell (l.drop p) = some (⟨(l.drop (p + 3)).take M, 1, (l.drop (p + 3 + M + 2)).take m, 0, 0⟩, r)) := by
  have e : pCell (l.drop p) = match pText (l.drop (p + 3 + M)) with | none => none | some (val, r) => some (⟨(l.drop (p + 3)).take M, 1, val, 0, 0⟩, r) := by
    unfold pCell
    rw [pNum_at l p 1 (by omega), hk]
    simp only
    have ht : pText (l.drop (p + 1)) = some ((l.drop (p + 3)).take M, l.drop (p + 3 + M)) := pText_at l (p + 1) M hM (by omega)
    rw [ht]
    simp only [if_true]
    cases pText (l.drop (p + 3 + M)) with
    | none => rfl
    | some q => rfl
  refine ⟨fun hh => ?_, fun hh => ?_⟩
  · rw [e, pText_off l _ m hm hh]
  · rw [e, pText_at l _ m hm hh]
    exact ⟨_, rfl⟩
set_option maxRecDepth 100000 in
theorem pCell_num (l : List Int) (p M : Nat) (hM : rdN l (p + 1) 2 = M) (hk : rdN l p 1 ≠ 1) (h : p + 3 + M + 2 ≤ l.length) :
    (l.length < p + 3 + M + 8 → pCell (l.drop p) = none) ∧ (p + 3 + M + 8 ≤ l.length → ∃ r, pCell (l.drop p) = some (⟨(l.drop (p + 3)).take M, rdN l p 1, [], rdN l (p + 3 + M) 4, rdN l (p + 3 + M + 4) 4⟩, r)) := by
  have e : pCell (l.drop p) = match pNum 4 (l.drop (p + 3 + M)) with | none => none | some (a, r) => match pNum 4 r with | none => none | some (c, r) => some (⟨(l.drop (p + 3)).take M, rdN l p 1, [], a, c⟩, r) := by
    unfold pCell
    rw [pNum_at l p 1 (by omega)]
    simp only
    have ht : pText (l.drop (p + 1)) = some ((l.drop (p + 3)).take M, l.drop (p + 3 + M)) := pText_at l (p + 1) M hM (by omega)
    rw [ht]
    simp only [if_neg hk]
    cases pNum 4 (l.drop (p + 3 + M)) with
    | none => rfl
    | some q =>
      obtain ⟨a, r⟩ := q
      simp only
      cases pNum 4 r with
      | none => rfl
      | some q => rfl
  refine ⟨fun hh => ?_, fun hh => ?_⟩
  · rw [e]
    by_cases h4 : p + 3 + M + 4 ≤ l.length
    · rw [pNum_at l _ 4 h4]
      simp only
      rw [pNum_off l _ 4 (by omega) (by omega)]
    · rw [pNum_off l _ 4 (by omega) (by omega)]
  · rw [e, pNum_at l _ 4 (by omega)]
    simp only
    rw [pNum_at l _ 4 (by omega)]
    exact ⟨_, rfl⟩
set_option maxRecDepth 100000 in
theorem rdN_one (l : List Int) (p : Nat) (h : p < l.length) : rdN l p 1 = l.getD p 0 := by
  unfold rdN
  rw [List.drop_eq_getElem_cons h]
  have : rdB (List.take 1 (l[p] :: List.drop (p + 1) l)) = 0 * 256 + l[p] := rfl
  rw [this]
  simp [List.getD, h]
end Go.Proofs.YtphjnahmbdinmaaGreatDoor

/- Layer 6: the document's cellAt. -/

namespace Go.Proofs.YtphjnahmbdinmaaGreatDoor
open Go.RowKit

/-- What cellAt comes to. -/
def CatTo (l : List Int) (p : Nat) (w : World) (e : Ending) (w' : World) : Prop :=
  ∃ (ko : Option Addr) (kn kc : Nat) (kd : Int) (vo : Option Addr) (vn vc : Nat) (pg ct : Int) (ok : Bool), e = .returned (.tuple #[.agg #[.slice ko kn kc, .int .i64 kd, .slice vo vn vc, .int .i64 pg, .int .i64 ct], .bool ok]) ∧ Hid (Below w.heap.size w w') ∧
    Hid ((ok = false ∧ pCell (l.drop p) = none) ∨ (ok = true ∧ ∃ key val r, pCell (l.drop p) = some (⟨key, kd, val, pg, ct⟩, r) ∧ OwnB w' w.heap.size (.slice ko kn kc) key ∧ OwnB w' w.heap.size (.slice vo vn vc) val))
set_option maxRecDepth 100000 in
/-- Two boxes. -/
theorem two_box (w : World) (y0 y1 y2 y3 y4 : Value) :
    C5 ((w.alloc (.cells #[.slice none 0 0, .int .i64 0, .slice none 0 0, .int .i64 0, .int .i64 0] 40)).alloc (.cells #[y0, y1, y2, y3, y4] 40)) w.heap.size (.slice none 0 0) (.int .i64 0) (.slice none 0 0) (.int .i64 0) (.int .i64 0) ∧ C5 ((w.alloc (.cells #[.slice none 0 0, .int .i64 0, .slice none 0 0, .int .i64 0, .int .i64 0] 40)).alloc (.cells #[y0, y1, y2, y3, y4] 40)) (w.heap.size + 1) y0 y1 y2 y3 y4 ∧ Below w.heap.size w ((w.alloc (.cells #[.slice none 0 0, .int .i64 0, .slice none 0 0, .int .i64 0, .int .i64 0] 40)).alloc (.cells #[y0, y1, y2, y3, y4] 40)) := by
  obtain ⟨y, hy⟩ : ∃ y, w.alloc (.cells #[.slice none 0 0, .int .i64 0, .slice none 0 0, .int .i64 0, .int .i64 0] 40) = y := ⟨_, rfl⟩
  have hz : y.heap.size = w.heap.size + 1 := by rw [← hy]; simp
  have h1 : C5 y w.heap.size (.slice none 0 0) (.int .i64 0) (.slice none 0 0) (.int .i64 0) (.int .i64 0) := by rw [← hy]; exact C5.box w _ _ _ _ _
  have hby : Below w.heap.size w y := by rw [← hy]; exact bl_al (Below.refl _ _) (Nat.le_refl _) _
  rw [hy]
  have h2 := C5.box y y0 y1 y2 y3 y4
  rw [hz] at h2
  have hbz : Below y.heap.size y (y.alloc (.cells #[y0, y1, y2, y3, y4] 40)) := bl_al (Below.refl _ _) (Nat.le_refl _) _
  exact ⟨box_on h1 hbz, h2, bl_go hby (Nat.le_refl _) hbz⟩

set_option maxRecDepth 100000 in
theorem own_slice6m {w : World} {B m : Nat} {v : Value} {l : List Int} (h : OwnB w B v ([] ++ l)) (hl : l.length = m) : ∃ ao c, v = .slice ao m c ∧ Hid (OwnB w B (.slice ao m c) l) := by
  rw [List.nil_append] at h
  obtain ⟨ao, c, rfl⟩ := own_slice6 h
  subst hl
  exact ⟨ao, c, rfl, hidden h⟩
set_option maxRecDepth 100000 in
theorem apt_none (u : Value) : Apt u (.slice none 0 0) := by
  unfold Apt
  cases h : u.ownBlock with
  | none => exact .inl rfl
  | some z => exact .inr (by simp [Value.ownBlock])
set_option maxRecDepth 100000 in
theorem wrap64n (t : Nat) (h : t ≤ 140737488355328) : IntKind.i64.wrap (t : Int) = (t : Int) := by
  unfold IntKind.wrap
  simp [IntKind.bits, IntKind.signed]
  omega
end Go.Proofs.YtphjnahmbdinmaaGreatDoor

/- What Find finds among rising keys; decoded cells as a slice of cells. -/

namespace Go.Proofs.YtphjnahmbdinmaaGreatDoor
open Go.RowKit

set_option maxRecDepth 100000 in
theorem kl_irr (a : List Int) : ¬ kl a a := by unfold kl; rw [ordL_self]; decide
set_option maxRecDepth 100000 in
theorem kl_anti {a b : List Int} (h : kl a b) : ¬ kl b a := fun g => kl_irr a (kl_trans _ _ _ h g)
/-- The keys rise. -/
def Rise (cs : List Cl) : Prop := ∀ (i j : Nat) (c d : Cl), i < j → cs[i]? = some c → cs[j]? = some d → kl c.key d.key
set_option maxRecDepth 100000 in
theorem Fnd.one {cs : List Cl} {q : List Int} {r s : Nat} (h : Fnd cs q r) (g : Fnd cs q s) : r = s := by
  rcases Nat.lt_trichotomy r s with e | e | e
  · obtain ⟨c, hc⟩ : ∃ c, cs[r]? = some c := ⟨_, List.getElem?_eq_getElem (by have := g.le; omega)⟩
    exact absurd (g.lo r c e hc) (h.hi r c (Nat.le_refl _) hc)
  · exact e
  · obtain ⟨c, hc⟩ : ∃ c, cs[s]? = some c := ⟨_, List.getElem?_eq_getElem (by have := h.le; omega)⟩
    exact absurd (h.lo s c e hc) (g.hi s c (Nat.le_refl _) hc)
set_option maxRecDepth 100000 in
theorem fnd_self {cs : List Cl} (hr : Rise cs) (i : Nat) (c : Cl) (hc : cs[i]? = some c) : Fnd cs c.key i := by
  refine ⟨Nat.le_of_lt (List.getElem?_eq_some_iff.1 hc).1, fun j d hj hd => hr j i d c hj hd hc, fun j d hj hd hk => ?_⟩
  rcases Nat.lt_or_ge i j with e | e
  · exact kl_anti hk (hr i j c d e hc hd)
  · obtain rfl : j = i := by omega
    rw [hc] at hd
    injection hd with hd
    subst hd
    exact kl_irr _ hk
set_option maxRecDepth 100000 in
theorem fnd_ex {cs : List Cl} (hr : Rise cs) (q : List Int) : ∃ r, Fnd cs q r := by
  have key : ∀ m, m ≤ cs.length → ∃ r, r ≤ m ∧ (∀ i c, i < r → cs[i]? = some c → kl c.key q) ∧ (r = m ∨ ∃ c, cs[r]? = some c ∧ ¬ kl c.key q) := by
    intro m
    induction m with
    | zero => intro _; exact ⟨0, by omega, fun i c hi => by omega, .inl rfl⟩
    | succ m ih =>
      intro hm
      obtain ⟨r, h1, h2, h3⟩ := ih (by omega)
      rcases h3 with rfl | h3
      · obtain ⟨c, hc⟩ : ∃ c, cs[r]? = some c := ⟨_, List.getElem?_eq_getElem (by omega)⟩
        by_cases hk : kl c.key q
        · refine ⟨r + 1, by omega, fun i d hi hd => ?_, .inl rfl⟩
          by_cases e : i = r
          · subst e
            rw [hc] at hd
            injection hd with hd
            subst hd
            exact hk
          · exact h2 i d (by omega) hd
        · exact ⟨r, by omega, h2, .inr ⟨c, hc, hk⟩⟩
      · exact ⟨r, by omega, h2, .inr h3⟩
  obtain ⟨r, h1, h2, h3⟩ := key cs.length (Nat.le_refl _)
  refine ⟨r, h1, h2, fun i c hi hc hk => ?_⟩
  have hil := (List.getElem?_eq_some_iff.1 hc).1
  rcases h3 with h3 | ⟨d, hd, hn⟩
  · omega
  · by_cases e : i = r
    · subst e
      rw [hc] at hd
      injection hd with hd
      subst hd
      exact hn hk
    · exact hn (kl_trans _ _ _ (hr r i d c (by omega) hd hc) hk)
set_option maxRecDepth 100000 in
/-- The cell at i stands ahead just where i is below r. -/
theorem Fnd.iff {cs : List Cl} {q : List Int} {r : Nat} (h : Fnd cs q r) (i : Nat) (c : Cl) (hc : cs[i]? = some c) : kl c.key q ↔ i < r := by
  constructor
  · intro hk
    rcases Nat.lt_or_ge i r with e | e
    · exact e
    · exact absurd hk (h.hi i c e hc)
  · intro hi
    exact h.lo i c hi hc

set_option maxRecDepth 100000 in
theorem Is.rise {k : Int} {n : Nat} {cs : List Cl} {b : List Int} (h : Is k n cs b) : Rise cs := fun i j c d hij hc hd => chk_rise h.ok i j c d hij hc hd
set_option maxRecDepth 100000 in
theorem Is.fits {k : Int} {n : Nat} {cs : List Cl} {b : List Int} (h : Is k n cs b) : ∀ c ∈ cs, c.fit := fun c hc => (chk_may h.ok c hc).fit (by have := pw_nat h.sz; omega)
set_option maxRecDepth 100000 in
theorem Is.few {k : Int} {n : Nat} {cs : List Cl} {b : List Int} (h : Is k n cs b) : cs.length ≤ 65536 ∧ szN cs ≤ 65536 ∧ (bdy cs).length ≤ 65536 := by
  have h1 := pw_nat h.sz
  have h2 := szN_eq cs
  have h3 := h.fit
  omega
set_option maxRecDepth 100000 in
theorem dec_slc {w' : World} {B g : Nat} {cs : List Cl} (hr : RowC w' g cs.length) (hd : ∀ i d, cs[i]? = some d → DAt w' B g (i * 5) d) (hwf : ∀ d ∈ cs, d.Wf) (hfit : ∀ d ∈ cs, d.fit) (hl : cs.length ≤ 65536) : SlC w' (some ⟨g, 0, none⟩) cs.length cs.length cs := by
  refine ⟨rfl, Nat.le_refl _, by omega, (by intro h; cases h), .inr ⟨g, 0, rfl, hr.lt, fun i c hc => ?_⟩⟩
  have hm : c ∈ cs := List.mem_of_getElem? hc
  have h1 := (hfit c hm).key
  have h2 := (hfit c hm).val
  rw [Nat.zero_add]
  exact (hd i c hc).cat (hwf c hm) (by omega) (by omega)
set_option maxRecDepth 100000 in
/-- What is encoded is a page of these cells. -/
theorem enc_is {k n : Int} {cs : List Cl} (h : encE k n cs = 0) : Is k n.toNat cs (pgB k n.toNat cs) ∧ ((n.toNat : Nat) : Int) = n := by
  unfold encE at h
  split at h
  · next h1 =>
    have hp := pw_le h1.2
    have e : ((n.toNat : Nat) : Int) = n := by omega
    split at h
    · next h2 =>
      split at h
      · simp at h
      · next h3 =>
        refine ⟨⟨h1.1, by rw [e]; exact h1.2, by rw [e]; exact h2, by omega, rfl⟩, e⟩
    · next h2 => exact absurd h h2
  · simp at h
set_option maxRecDepth 100000 in
theorem Is.enc {k : Int} {n : Nat} {cs : List Cl} {b : List Int} (h : Is k n cs b) : encE k (n : Int) cs = 0 := by
  unfold encE
  have := h.fit
  rw [if_pos ⟨h.kd, h.sz⟩, if_pos h.ok, if_neg (by omega)]
end Go.Proofs.YtphjnahmbdinmaaGreatDoor

/- The law's great; the document's SameCell and SameCells. -/

namespace Go.Proofs.YtphjnahmbdinmaaGreatDoor
open Go.RowKit

/-- How much cells are. -/
def gN (cs : List Cl) : Nat := (cs.map fun c => c.key.length + c.val.length).sum
set_option maxRecDepth 100000 in
theorem gN_take (cs : List Cl) (i : Nat) (c : Cl) (h : cs[i]? = some c) : gN (cs.take (i + 1)) = gN (cs.take i) + (c.key.length + c.val.length) := by
  unfold gN
  rw [List.take_add_one, h]
  simp
set_option maxRecDepth 100000 in
theorem gN_szN (cs : List Cl) : szN cs ≤ 8 + 13 * cs.length + gN cs := by
  unfold szN gN
  induction cs with
  | nil => simp
  | cons c r ih =>
    simp only [List.map_cons, List.sum_cons, List.length_cons]
    have : ctk c ≤ 13 + (c.key.length + c.val.length) := by unfold ctk; split <;> omega
    omega

/-- What great comes to. -/
def GrtTo (n : Nat) (cs : List Cl) (w : World) (e : Ending) (w' : World) : Prop := ∃ b : Bool, e = .returned (.bool b) ∧ Hid (Below w.heap.size w w') ∧ Hid (b = false → n ≤ 100000 ∧ szN cs ≤ 8388608)
set_option maxRecDepth 100000 in
theorem sameCell_self (c : Cl) (ka ka' va va' : Option Addr) (kc kc' vc vc' : Nat) (w : World) (h1 : Sl w ka c.key.length kc c.key) (h2 : Sl w ka' c.key.length kc' c.key) (h3 : Sl w va c.val.length vc c.val) (h4 : Sl w va' c.val.length vc' c.val) :
    Calls Tryz.prog 29 #[.agg #[.slice ka c.key.length kc, .int .i64 c.kd, .slice va c.val.length vc, .int .i64 c.pg, .int .i64 c.ct], .agg #[.slice ka' c.key.length kc', .int .i64 c.kd, .slice va' c.val.length vc', .int .i64 c.pg, .int .i64 c.ct]] w fun e w' => e = .returned (.bool true) ∧ Below w.heap.size w w' := by
  obtain ⟨x, hx⟩ : ∃ x, ((w.alloc (.cells #[.slice ka c.key.length kc, .int .i64 c.kd, .slice va c.val.length vc, .int .i64 c.pg, .int .i64 c.ct] 40)).alloc (.cells #[.slice ka' c.key.length kc', .int .i64 c.kd, .slice va' c.val.length vc', .int .i64 c.pg, .int .i64 c.ct] 40)) = x := ⟨_, rfl⟩
  have hb : Below w.heap.size w x := by rw [← hx]; exact bl_al (bl_al (Below.refl _ _) (Nat.le_refl _) _) (Nat.le_refl _) _
  have k1 : ∀ q, (convert 38 9 (.slice ka c.key.length kc)).run Tryz.prog (x.drewN q) = .ok (.string (strOfNums c.key)) (x.drewN q) := fun q => conv_sl ((h1.on (Nat.le_refl _) hb).drewN q)
  have k2 : ∀ q, (convert 38 9 (.slice ka' c.key.length kc')).run Tryz.prog (x.drewN q) = .ok (.string (strOfNums c.key)) (x.drewN q) := fun q => conv_sl ((h2.on (Nat.le_refl _) hb).drewN q)
  have k3 : ∀ q, (convert 38 9 (.slice va c.val.length vc)).run Tryz.prog (x.drewN q) = .ok (.string (strOfNums c.val)) (x.drewN q) := fun q => conv_sl ((h3.on (Nat.le_refl _) hb).drewN q)
  have k4 : ∀ q, (convert 38 9 (.slice va' c.val.length vc')).run Tryz.prog (x.drewN q) = .ok (.string (strOfNums c.val)) (x.drewN q) := fun q => conv_sl ((h4.on (Nat.le_refl _) hb).drewN q)
  have j1 := conv_sl (h1.on (Nat.le_refl _) hb)
  have j2 := conv_sl (h2.on (Nat.le_refl _) hb)
  have j3 := conv_sl (h3.on (Nat.le_refl _) hb)
  have j4 := conv_sl (h4.on (Nat.le_refl _) hb)
  have hz1 : (w.alloc (.cells #[.slice ka c.key.length kc, .int .i64 c.kd, .slice va c.val.length vc, .int .i64 c.pg, .int .i64 c.ct] 40)).heap.size = w.heap.size + 1 := by simp
  have b1 : C5 x w.heap.size (.slice ka c.key.length kc) (.int .i64 c.kd) (.slice va c.val.length vc) (.int .i64 c.pg) (.int .i64 c.ct) := by
    rw [← hx]
    exact box_on (C5.box w _ _ _ _ _) (bl_al (Below.refl _ _) (Nat.le_refl _) _)
  have b2 : C5 x (w.heap.size + 1) (.slice ka' c.key.length kc') (.int .i64 c.kd) (.slice va' c.val.length vc') (.int .i64 c.pg) (.int .i64 c.ct) := by
    rw [← hx, ← hz1]
    exact C5.box _ _ _ _ _ _
  obtain ⟨c0, c1, c2, c3, c4⟩ := b1.cells
  obtain ⟨d0, d1, d2, d3, d4⟩ := b2.cells
  have HB := hidden hb
  clear h1 h2 h3 h4 hb b1 b2 hz1
  go_enter Tryz.func29, Tryz.ntmps29
  go_wp2
  go_ret
  exact ⟨rfl, HB.out⟩
end Go.Proofs.YtphjnahmbdinmaaGreatDoor
