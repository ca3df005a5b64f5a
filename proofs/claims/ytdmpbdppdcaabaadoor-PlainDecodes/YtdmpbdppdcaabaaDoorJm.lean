/- Layer 6: append in a region that draws its order; a result of a struct and a word. -/
import Derived.Test.YtdmpbdppdcaabaaDoorJl
import Derived.Carry
import Derived.Deep.RegionLaw
import Derived.Laws.OwnMore
import Derived.Handy
import Derived.Test.YtdmpbdppdcaabaaDoorJf
namespace Go.Proofs.YtdmpbdppdcaabaaDoor
open Go.RowKit

set_option maxRecDepth 100000 in
/-- 'append(out, x...)' as it runs. -/
theorem run_app_sl (w : World) (ty : TypeId) (B : Nat) (l news : List Int) (v : Value) (ao : Option Addr) (n c : Nat) (hown : OwnB w B v l) (hsl : Sl w ao n c news) (hb : l.length + n ≤ 140737488355328) (hbase : B ≤ w.heap.size) :
    ∃ v' w', (Builtin.append_ #[22, 22] ty #[v, .slice ao n c]).run Tryd.prog w = .ok v' w' ∧ OwnB w' B v' (l ++ news) ∧ Gr w v w' v' := by
  obtain ⟨i0, hi, hz0, hz1, hz2⟩ := info_parts info5
  have hlen := hsl.hlen
  cases ao with
  | none =>
    have : n = 0 := by have := hsl.hnil rfl; have := hsl.hcap; omega
    subst this
    have hc0 := hsl.hnil rfl
    subst hc0
    obtain rfl : news = [] := List.eq_nil_of_length_eq_zero hlen
    exact ⟨v, w, run_append_owned_none (P := Tryd.prog) (w := w) B 22 ty 5 i0 1 Tryd.underlying22 hi v l.length (By l) hown, by simpa using hown, Gr.refl _ _⟩
  | some ad =>
    obtain ⟨v', w', hr, h1, h2, _, h4⟩ := run_append_own_at (P := Tryd.prog) w B 22 ty 5 i0 (.int .u8 0) 1 1 Tryd.underlying22 hi hz0 hz1 hz2 rfl (by decide) v l.length (By l) hown ad n c (By news) (by simp [By, hlen])
      (fun j u hu => by
        obtain ⟨h1, h2⟩ := getElem?_By news j u hu
        rw [h2]
        rcases hsl.hat with h0 | ⟨b, off, e, _, hc⟩
        · omega
        · injection e with e
          subst e
          rw [Addr.add_lit]
          exact hc j (by omega)) (By_one news) (by unfold maxLen; omega) (by omega) hbase
    refine ⟨v', w', hr, ?_, ⟨h2, h4.imp id fun e => ⟨_, e, Nat.le_refl _⟩⟩⟩
    unfold OwnB
    rw [By_append, List.length_append, hlen]
    exact h1
set_option maxRecDepth 100000 in
/-- 'append(out, x...)' at a step of a region that draws its order. -/
theorem step_sl {ops : Array Oper} {o : Oper} {a : Act} {w : World} {K : Act → World → Prop} {Q : Exit → Act → World → Prop} {E : Prop} (hgd : o.guard = none) (s x : Operand)
    (ho : o.op = .call { callee := .builtin .append, args := #[s, x], argTypes := #[22, 22] }) (B : Nat) (l news : List Int) (v : Value) (ao : Option Addr) (n c : Nat) (hs : a.eval s = v) (hx : a.eval x = .slice ao n c)
    (hown : OwnB w B v l) (hsl : Sl w ao n c news) (hb : l.length + n ≤ 140737488355328) (hbase : B ≤ w.heap.size)
    (h : ∀ v' w', OwnB w' B v' (l ++ news) → Gr w v w' v' → K (a.put o.dst v') w') :
    if Region.wanted o (yielded ops a.tmps) = true then Oper.wp Tryd.prog o a w K Q else E := by
  have hw : Region.wanted o (yielded ops a.tmps) = true := by simp [Region.wanted, hgd]
  rw [if_pos hw]
  obtain ⟨v', w', hr, h1, h2⟩ := run_app_sl w o.type B l news v ao n c hown hsl hb hbase
  have hfin := h v' w' h1 h2
  unfold Oper.wp
  simp [execOp, ho, resolve, invoke, builtin, hs, hx, hr, Result.andThen]
  exact hfin
set_option maxRecDepth 100000 in
theorem results_row26 {P : Program} {fn : Func} {p u : Tmp} {ty : TypeId} (h : fn.results = #[.cell p ty, .tmp u]) (tmps : Array Value) (w : World) (g : Nat) (t : TypeId) (cs : Array Value) (fr : Nat × Nat) (d : TypeDesc) (v : Value)
    (hp : tmps.getD p undef = .pointer (some ⟨g, 0, none⟩)) (hv : tmps.getD u undef = v) (hg : w.heap[g]? = some (.cells cs t fr))
    (hu : P.underlying ty = some d) (hd : (match d with | .struct _ | .array _ _ => true | _ => false) = true) (hi : (P.info? ty).map (·.size) = some cs.size) :
    (results fn tmps).run P w = .ok (.tuple #[.agg cs, v]) w := by
  subst hv
  rw [results_cell_tmp h, hp]
  simp [asAddr, run_loadVar_row w g t ty cs fr d hg hu hd hi, Result.andThen]
end Go.Proofs.YtdmpbdppdcaabaaDoor

/- Layer 6: plain mathematics of the document's cellAt. -/

namespace Go.Proofs.YtdmpbdppdcaabaaDoor
open Go.RowKit

set_option maxRecDepth 100000 in
theorem pNum_at (l : List Int) (p d : Nat) (h : p + d ≤ l.length) : pNum d (l.drop p) = some (rdN l p d, l.drop (p + d)) := by
  unfold pNum
  rw [if_neg (by rw [List.length_drop]; omega), List.drop_drop]
  rfl
set_option maxRecDepth 100000 in
theorem pNum_off (l : List Int) (p d : Nat) (h : l.length < p + d) (hd : 0 < d) : pNum d (l.drop p) = none := by
  unfold pNum
  rw [if_pos (by rw [List.length_drop]; omega)]
set_option maxRecDepth 100000 in
theorem pText_at (l : List Int) (p m : Nat) (hm : rdN l p 2 = m) (h : p + 2 + m ≤ l.length) : pText (l.drop p) = some ((l.drop (p + 2)).take m, l.drop (p + 2 + m)) := by
  unfold pText
  rw [pNum_at l p 2 (by omega), hm]
  simp only
  rw [if_neg (by rw [List.length_drop]; omega), Int.toNat_natCast, List.drop_drop]
set_option maxRecDepth 100000 in
theorem pText_off (l : List Int) (p m : Nat) (hm : rdN l p 2 = m) (h : l.length < p + 2 + m) : pText (l.drop p) = none := by
  unfold pText
  by_cases h2 : p + 2 ≤ l.length
  · rw [pNum_at l p 2 h2, hm]
    simp only
    rw [if_pos (by rw [List.length_drop]; omega)]
  · rw [pNum_off l p 2 (by omega) (by omega)]
set_option maxRecDepth 100000 in
theorem pCell_few (l : List Int) (p : Nat) (h : l.length < p + 3) : pCell (l.drop p) = none := by
  unfold pCell
  by_cases h1 : p + 1 ≤ l.length
  · rw [pNum_at l p 1 h1]
    simp only
    have : pText (l.drop (p + 1)) = none := by
      unfold pText
      rw [pNum_off l (p + 1) 2 (by omega) (by omega)]
    rw [this]
  · rw [pNum_off l p 1 (by omega) (by omega)]
set_option maxRecDepth 100000 in
theorem pCell_short (l : List Int) (p M : Nat) (hM : rdN l (p + 1) 2 = M) (h3 : p + 3 ≤ l.length) (h : l.length < p + 3 + M + 2) : pCell (l.drop p) = none := by
  unfold pCell
  rw [pNum_at l p 1 (by omega)]
  simp only
  by_cases hk : p + 1 + 2 + M ≤ l.length
  · rw [pText_at l (p + 1) M hM hk]
    simp only
    split
    · have : pText (l.drop (p + 1 + 2 + M)) = none := by
        unfold pText
        rw [pNum_off l (p + 1 + 2 + M) 2 (by omega) (by omega)]
      rw [this]
    · rw [pNum_off l (p + 1 + 2 + M) 4 (by omega) (by omega)]
  · rw [pText_off l (p + 1) M hM (by omega)]
set_option maxRecDepth 100000 in
theorem pCell_val (l : List Int) (p M m : Nat) (hM : rdN l (p + 1) 2 = M) (hk : rdN l p 1 = 1) (hm : rdN l (p + 3 + M) 2 = m) (h : p + 3 + M + 2 ≤ l.length) :
    (l.length < p + 3 + M + 2 + m → pCell (l.drop p) = none) ∧ (p + 3 + M + 2 + m ≤ l.length → ∃ r, pCell (l.drop p) = some (⟨(l.drop (p + 3)).take M, 1, (l.drop (p + 3 + M + 2)).take m, 0, 0⟩, r)) := by
  have e : pCell (l.drop p) = match pText (l.drop (p + 3 + M)) with | none => none | some (val, r) => some (⟨(l.drop (p + 3)).take M, 1, val, 0, 0⟩, r) := by
    unfold pCell
    rw [pNum_at l p 1 (by omega), hk]
    simp only
    have ht : pText (l.drop (p + 1)) = some ((l.drop (p + 3)).take M, l.drop (p + 3 + M)) := pText_at l (p + 1) M hM (by omega)
    rw [ht]
    simp only [if_true]
    cases pText (l.drop (p + 3 + M)) with
    | none => rfl
    | some q => rfl
  refine ⟨fun hh => ?_, fun hh => ?_⟩
  · rw [e, pText_off l _ m hm hh]
  · rw [e, pText_at l _ m hm hh]
    exact ⟨_, rfl⟩
set_option maxRecDepth 100000 in
theorem pCell_num (l : List Int) (p M : Nat) (hM : rdN l (p + 1) 2 = M) (hk : rdN l p 1 ≠ 1) (h : p + 3 + M + 2 ≤ l.length) :
    (l.length < p + 3 + M + 8 → pCell (l.drop p) = none) ∧ (p + 3 + M + 8 ≤ l.length → ∃ r, pCell (l.drop p) = some (⟨(l.drop (p + 3)).take M, rdN l p 1, [], rdN l (p + 3 + M) 4, rdN l (p + 3 + M + 4) 4⟩, r)) := by
  have e : pCell (l.drop p) = match pNum 4 (l.drop (p + 3 + M)) with | none => none | some (a, r) => match pNum 4 r with | none => none | some (c, r) => some (⟨(l.drop (p + 3)).take M, rdN l p 1, [], a, c⟩, r) := by
    unfold pCell
    rw [pNum_at l p 1 (by omega)]
    simp only
    have ht : pText (l.drop (p + 1)) = some ((l.drop (p + 3)).take M, l.drop (p + 3 + M)) := pText_at l (p + 1) M hM (by omega)
    rw [ht]
    simp only [if_neg hk]
    cases pNum 4 (l.drop (p + 3 + M)) with
    | none => rfl
    | some q =>
      obtain ⟨a, r⟩ := q
      simp only
      cases pNum 4 r with
      | none => rfl
      | some q => rfl
  refine ⟨fun hh => ?_, fun hh => ?_⟩
  · rw [e]
    by_cases h4 : p + 3 + M + 4 ≤ l.length
    · rw [pNum_at l _ 4 h4]
      simp only
      rw [pNum_off l _ 4 (by omega) (by omega)]
    · rw [pNum_off l _ 4 (by omega) (by omega)]
  · rw [e, pNum_at l _ 4 (by omega)]
    simp only
    rw [pNum_at l _ 4 (by omega)]
    exact ⟨_, rfl⟩
set_option maxRecDepth 100000 in
theorem rdN_one (l : List Int) (p : Nat) (h : p < l.length) : rdN l p 1 = l.getD p 0 := by
  unfold rdN
  rw [List.drop_eq_getElem_cons h]
  have : rdB (List.take 1 (l[p] :: List.drop (p + 1) l)) = 0 * 256 + l[p] := rfl
  rw [this]
  simp [List.getD, h]
end Go.Proofs.YtdmpbdppdcaabaaDoor

/- Layer 6: the document's cellAt. -/

namespace Go.Proofs.YtdmpbdppdcaabaaDoor
open Go.RowKit

/-- What cellAt comes to. -/
def CatTo (l : List Int) (p : Nat) (w : World) (e : Ending) (w' : World) : Prop :=
  ∃ (ko : Option Addr) (kn kc : Nat) (kd : Int) (vo : Option Addr) (vn vc : Nat) (pg ct : Int) (ok : Bool), e = .returned (.tuple #[.agg #[.slice ko kn kc, .int .i64 kd, .slice vo vn vc, .int .i64 pg, .int .i64 ct], .bool ok]) ∧ Hid (Below w.heap.size w w') ∧
    Hid ((ok = false ∧ pCell (l.drop p) = none) ∨ (ok = true ∧ ∃ key val r, pCell (l.drop p) = some (⟨key, kd, val, pg, ct⟩, r) ∧ OwnB w' w.heap.size (.slice ko kn kc) key ∧ OwnB w' w.heap.size (.slice vo vn vc) val))
set_option maxRecDepth 100000 in
/-- Two boxes. -/
theorem two_box (w : World) (y0 y1 y2 y3 y4 : Value) :
    C5 ((w.alloc (.cells #[.slice none 0 0, .int .i64 0, .slice none 0 0, .int .i64 0, .int .i64 0] 44)).alloc (.cells #[y0, y1, y2, y3, y4] 44)) w.heap.size (.slice none 0 0) (.int .i64 0) (.slice none 0 0) (.int .i64 0) (.int .i64 0) ∧ C5 ((w.alloc (.cells #[.slice none 0 0, .int .i64 0, .slice none 0 0, .int .i64 0, .int .i64 0] 44)).alloc (.cells #[y0, y1, y2, y3, y4] 44)) (w.heap.size + 1) y0 y1 y2 y3 y4 ∧ Below w.heap.size w ((w.alloc (.cells #[.slice none 0 0, .int .i64 0, .slice none 0 0, .int .i64 0, .int .i64 0] 44)).alloc (.cells #[y0, y1, y2, y3, y4] 44)) := by
  obtain ⟨y, hy⟩ : ∃ y, w.alloc (.cells #[.slice none 0 0, .int .i64 0, .slice none 0 0, .int .i64 0, .int .i64 0] 44) = y := ⟨_, rfl⟩
  have hz : y.heap.size = w.heap.size + 1 := by rw [← hy]; simp
  have h1 : C5 y w.heap.size (.slice none 0 0) (.int .i64 0) (.slice none 0 0) (.int .i64 0) (.int .i64 0) := by rw [← hy]; exact C5.box w _ _ _ _ _
  have hby : Below w.heap.size w y := by rw [← hy]; exact bl_al (Below.refl _ _) (Nat.le_refl _) _
  rw [hy]
  have h2 := C5.box y y0 y1 y2 y3 y4
  rw [hz] at h2
  have hbz : Below y.heap.size y (y.alloc (.cells #[y0, y1, y2, y3, y4] 44)) := bl_al (Below.refl _ _) (Nat.le_refl _) _
  exact ⟨box_on h1 hbz, h2, bl_go hby (Nat.le_refl _) hbz⟩

set_option maxRecDepth 100000 in
theorem own_slice6m {w : World} {B m : Nat} {v : Value} {l : List Int} (h : OwnB w B v ([] ++ l)) (hl : l.length = m) : ∃ ao c, v = .slice ao m c ∧ Hid (OwnB w B (.slice ao m c) l) := by
  rw [List.nil_append] at h
  obtain ⟨ao, c, rfl⟩ := own_slice6 h
  subst hl
  exact ⟨ao, c, rfl, hidden h⟩
set_option maxRecDepth 100000 in
theorem apt_none (u : Value) : Apt u (.slice none 0 0) := by
  unfold Apt
  cases h : u.ownBlock with
  | none => exact .inl rfl
  | some z => exact .inr (by simp [Value.ownBlock])
set_option maxRecDepth 100000 in
theorem wrap64n (t : Nat) (h : t ≤ 140737488355328) : IntKind.i64.wrap (t : Int) = (t : Int) := by
  unfold IntKind.wrap
  simp [IntKind.bits, IntKind.signed]
  omega
set_option maxRecDepth 100000 in
set_option maxHeartbeats 4000000 in
theorem cellAt_any (ao : Option Addr) (n cap : Nat) (l : List Int) (p : Nat) (w : World) (hs : Sl w ao n cap l) (hp : p ≤ 65536) :
    Calls Tryd.prog 49 #[.slice ao n cap, .int .i64 (p : Int)] w fun e w' => CatTo l p w e w' := by
  obtain ⟨k, hk⟩ : ∃ k, w.heap.size = k := ⟨_, rfl⟩
  have hn := hs.hroom
  have hcap := hs.hcap
  have HLEN := hidden hs.hlen
  have HS := hidden hs
  have hpI : (p : Int) ≤ 65536 := by omega
  obtain ⟨s, hse⟩ : ∃ s, p + 3 = s := ⟨_, rfl⟩
  have hsI : (p : Int) + 3 = (s : Int) := by omega
  have HSE := hidden hse
  by_cases h3 : n < s
  · have h3I : (n : Int) < (s : Int) := by omega
    have HB0 : Hid (Below w.heap.size w (w.alloc (.cells #[.slice none 0 0, .int .i64 0, .slice none 0 0, .int .i64 0, .int .i64 0] 44))) := hidden (bl_al (Below.refl _ _) (Nat.le_refl _) _)
    have HC0 : Hid (C5 (w.alloc (.cells #[.slice none 0 0, .int .i64 0, .slice none 0 0, .int .i64 0, .int .i64 0] 44)) k (.slice none 0 0) (.int .i64 0) (.slice none 0 0) (.int .i64 0) (.int .i64 0)) := hidden (by rw [← hk]; exact C5.box w _ _ _ _ _)
    have HN : Hid (pCell (l.drop p) = none) := hidden (pCell_few l p (by rw [HLEN.out]; omega))
    clear hs hse
    go_enter Tryd.func49, Tryd.ntmps49
    go_wp2
    refine bodyPost_ret (results_row26 rfl _ _ k 44 #[.slice none 0 0, .int .i64 0, .slice none 0 0, .int .i64 0, .int .i64 0] (0, 0) _ (.bool false) (by rfl) (by rfl) HC0.out Tryd.underlying44 rfl sizeCell) rfl ?_
    exact ⟨none, 0, 0, 0, none, 0, 0, 0, 0, false, rfl, HB0, hidden (.inl ⟨rfl, HN.out⟩)⟩
  · have h3I : ¬ (n : Int) < (s : Int) := by omega
    obtain ⟨g, off, rfl, hgl, hcl⟩ : ∃ g off, ao = some ⟨g, off, none⟩ ∧ g < w.heap.size ∧ ∀ i, i < n → w.cell? ⟨g, off + i, none⟩ = some (.int .u8 (l.getD i 0)) := by
      rcases hs.hat with h0 | h0
      · omega
      · exact h0
    have hpn : (p : Int) < (n : Int) := by omega
    have b0 : (w.alloc (.cells #[.slice none 0 0, .int .i64 0, .slice none 0 0, .int .i64 0, .int .i64 0] 44)).cell? ⟨g, off + p, none⟩ = some (.int .u8 (l.getD p 0)) := ((bl_al (Below.refl w.heap.size w) (Nat.le_refl _) _).cell (p := ⟨g, off + p, none⟩) hgl).trans (hcl p (by omega))
    have HX : Hid (rdN l p 1 = l.getD p 0) := hidden (rdN_one l p (by rw [HLEN.out]; omega))
    have hxb : 0 ≤ l.getD p 0 ∧ l.getD p 0 ≤ 255 := by
      have := rdN_bound l hs.wf p 1
      rw [HX.out] at this
      simp at this
      simp
      omega
    obtain ⟨x, hx⟩ : ∃ x, l.getD p 0 = x := ⟨_, rfl⟩
    rw [hx] at b0 HX hxb
    obtain ⟨hx0, hx1⟩ := hxb
    have hMb := rdN_bound l hs.wf (p + 1) 2
    obtain ⟨M, hM⟩ := Int.eq_ofNat_of_zero_le hMb.1
    have hM6 : (M : Int) < 65536 := by have := hMb.2; rw [hM] at this; simpa using this
    have HM : Hid (rdN l (p + 1) 2 = (M : Int)) := hidden hM
    have HN1 : Hid (∀ u, Below k w u → Calls Tryd.prog 48 #[.slice (some ⟨g, off, none⟩) n cap, .int .i64 ((p : Int) + 1), .int .i64 2] u fun e w' => e = .returned (.int .i64 (M : Int)) ∧ Hid (w' = u)) := hidden (fun u hu => by
      have h := rnumb6_any (some ⟨g, off, none⟩) n cap l ((p : Int) + 1) 2 u (HS.out.on (by rw [hk]; exact Nat.le_refl _) hu) (by omega) (by omega) (.inl rfl)
      rw [show ((p : Int) + 1).toNat = p + 1 by omega, show (2 : Int).toNat = 2 from rfl, HM.out] at h
      exact h.mono (fun e w' hh => ⟨hh.1, hidden hh.2⟩))
    have TB := two_box w (.slice none 0 0) (.int .i64 x) (.slice none 0 0) (.int .i64 0) (.int .i64 0)
    rw [hk] at TB
    have HTB := hidden TB
    obtain ⟨t, hte⟩ : ∃ t, s + M = t := ⟨_, rfl⟩
    have htI : (s : Int) + (M : Int) = (t : Int) := by omega
    have HTE := hidden hte
    clear hs hcl hM hMb TB hx hgl hse hte
    go_enter Tryd.func49, Tryd.ntmps49
    go_wp2_with (first | (go_at_call 48; refine (HN1.out _ ?_).mono ?_; exact HTB.out.2.2; rintro e w1 ⟨rfl, hw1⟩; refine Hid.out ?_))
    apply hidden
    have H1 : Hid (C5 w1 k (.slice none 0 0) (.int .i64 0) (.slice none 0 0) (.int .i64 0) (.int .i64 0) ∧ C5 w1 (k + 1) (.slice none 0 0) (.int .i64 x) (.slice none 0 0) (.int .i64 0) (.int .i64 0) ∧ Below k w w1) := hidden (by rw [hw1.out]; exact HTB.out)
    clear hw1 HTB HN1 b0
    have hns : k + 2 ≤ w1.heap.size := by have := lt_some H1.out.2.1; omega
    have HSE2 := And.intro HSE.out HTE.out
    by_cases h5 : n < t + 2
    · have h5I : (n : Int) < (t : Int) + 2 := by omega
      have HN : Hid (pCell (l.drop p) = none) := hidden (pCell_short l p M HM.out (by rw [HLEN.out]; have := HSE.out; omega) (by rw [HLEN.out]; have := HSE.out; have := HTE.out; omega))
      clear HSE2
      obtain ⟨c0, c1, c2, c3, c4⟩ := H1.out.1.cells
      obtain ⟨f0, f1, f2, f3, f4⟩ := H1.out.1.free
      go_wp2
      refine bodyPost_ret (results_row26 rfl _ _ k 44 #[.slice none 0 0, .int .i64 0, .slice none 0 0, .int .i64 0, .int .i64 0] (0, 0) _ (.bool false) (by rfl) (by rfl) (H1.out.1.put _ _ _ _ _) Tryd.underlying44 rfl sizeCell) rfl ?_
      have hf := put5_cf w1 k (.slice none 0 0) (.int .i64 0) (.slice none 0 0) (.int .i64 0) (.int .i64 0)
      exact ⟨none, 0, 0, 0, none, 0, 0, 0, 0, false, rfl, hidden (by rw [hk]; exact H1.out.2.2.trans (hf.below (by omega) (fun j hj e => by omega))), hidden (.inl ⟨rfl, HN.out⟩)⟩
    · have h5I : ¬ (n : Int) < (t : Int) + 2 := by omega
      have hse := HSE.out
      have hte := HTE.out
      have HSP : Hid (∀ u, Below k w u → Sl u (some ⟨g, off + s, none⟩) (t - s) (cap - s) ((l.drop s).take M)) := hidden (fun u hu => by
        have h := (HS.out.on (by rw [hk]; exact Nat.le_refl _) hu).piece s M (cap - s) (by omega) (by omega)
        rw [show M = t - s by omega] at h ⊢
        exact h)
      have t1 : s ≤ t := by omega
      have t3 : t ≤ cap := by omega
      have t4 : (s : Int) ≤ (t : Int) := by omega
      have t5 : (t : Int) ≤ (cap : Int) := by omega
      have t6 : ¬ cap = s := by omega
      have t7 : s < cap := by omega
      have t8 : ¬ cap - s = 0 := by omega
      have hwt := wrap64n t (by omega)
      have HH : Hid (k ≤ w1.heap.size) := hidden (by omega)
      have HTS : Hid (t - s ≤ 140737488355328) := hidden (by omega)
      clear hse hte HSE2
      obtain ⟨c0, c1, c2, c3, c4⟩ := H1.out.2.1.cells
      go_wp2_with fail
      have HPL : Hid (((l.drop s).take M).length = M) := hidden (by rw [List.length_take, List.length_drop, HLEN.out]; omega)
      go_region_law (first
        | (refine step_sl rfl _ _ rfl k [] ((l.drop s).take M) (.slice none 0 0) (some ⟨g, off + s, none⟩) (t - s) (cap - s) rfl rfl (OwnB.nil _ _) (HSP.out _ (H1.out.2.2.trans (by (repeat (first | exact Below.refl _ _ | apply Below.drew | apply below_drewN))))) (by simpa using HTS.out) (by exact HH.out) ?_; intro v2 w2 ho hg; obtain ⟨f0, _⟩ := (C5.gr (w := w1.drew) (v := .slice none 0 0) H1.out.2.1 hg (by simp [Value.ownBlock])).free; obtain ⟨e0, _⟩ := (C5.gr (w := w1.drew) (v := .slice none 0 0) H1.out.2.1 hg (by simp [Value.ownBlock])).cells; obtain ⟨ko, kc, rfl, HO2⟩ := own_slice6m ho HPL.out; have HG2 := hidden hg; clear ho hg))
      all_goals
        have HC2 : Hid (C5 w2 (k + 1) (.slice none 0 0) (.int .i64 x) (.slice none 0 0) (.int .i64 0) (.int .i64 0)) := hidden (C5.gr (w := w1.drew) (v := .slice none 0 0) H1.out.2.1 HG2.out (by simp [Value.ownBlock]))
        have HK2 : Hid (C5 w2 k (.slice none 0 0) (.int .i64 0) (.slice none 0 0) (.int .i64 0) (.int .i64 0)) := hidden (C5.gr (w := w1.drew) (v := .slice none 0 0) H1.out.1 HG2.out (by simp [Value.ownBlock]))
        have HB2 : Hid (Below k w w2) := hidden ((Below.drew H1.out.2.2).trans (HG2.out.below (OwnB.nil w1.drew k) HH.out))
        have HS2 : Hid (k + 2 ≤ w2.heap.size) := hidden (by have := lt_some HC2.out; omega)
        obtain ⟨w3, hw3⟩ : ∃ w3, w2.setCell ⟨k + 1, 0, none⟩ (.slice ko M kc) = w3 := ⟨_, rfl⟩
        have hcf : Cf (· = k + 1) w2 w3 := by rw [← hw3]; exact Cf.set _ _ _ _
        have HC3 : Hid (C5 w3 (k + 1) (.slice ko M kc) (.int .i64 x) (.slice none 0 0) (.int .i64 0) (.int .i64 0)) := hidden (by rw [← hw3]; exact (HC2.out.set _).1)
        have HK3 : Hid (C5 w3 k (.slice none 0 0) (.int .i64 0) (.slice none 0 0) (.int .i64 0) (.int .i64 0)) := hidden (HK2.out.cf hcf (by omega))
        have HB3 : Hid (Below k w w3) := hidden (HB2.out.trans (hcf.below (by have := HS2.out; omega) (fun j hj e => by omega)))
        have HO3 : Hid (OwnB w3 k (.slice ko M kc) ((l.drop s).take M)) := hidden (HO2.out.cfX hcf (fun j hj e => (HO2.out.apart5 HC2.out) (by rw [hj, e])))
        have HS3 : Hid (k + 2 ≤ w3.heap.size) := hidden (Nat.le_trans HS2.out hcf.size)
        rw [hw3]
        clear hw3 hcf HC2 HK2 HB2 HS2 HO2 HG2 f0 e0 c0 c1 c2 c3 c4 H1 hns HSP HTS HH t1 t3 t4 t5 t6 t7 t8 hwt
        have HNU : Hid (∀ (u : World) (j d : Int), Below k w u → 0 ≤ j → j + d ≤ n → (d = 2 ∨ d = 4) → Calls Tryd.prog 48 #[.slice (some ⟨g, off, none⟩) n cap, .int .i64 j, .int .i64 d] u fun e w' => e = .returned (.int .i64 (rdN l j.toNat d.toNat)) ∧ Hid (w' = u)) := hidden (fun u j d hu h0 h1 h2 => (rnumb6_any (some ⟨g, off, none⟩) n cap l j d u (HS.out.on (by rw [hk]; exact Nat.le_refl _) hu) h0 h1 h2).mono (fun e w' hh => ⟨hh.1, hidden hh.2⟩))
        have HTP : Hid (p + 3 + M = t) := hidden (by have := HSE.out; have := HTE.out; omega)
        have HFIN : Hid (∀ (u : World) (vo : Option Addr) (vn vc : Nat) (pg ct : Int) (val r : List Int), C5 u k (.slice none 0 0) (.int .i64 0) (.slice none 0 0) (.int .i64 0) (.int .i64 0) → Below k w u → OwnB u k (.slice ko M kc) ((l.drop s).take M) → OwnB u k (.slice vo vn vc) val → k ≤ u.heap.size → pCell (l.drop p) = some (⟨(l.drop s).take M, x, val, pg, ct⟩, r) → CatTo l p w (.returned (.tuple #[.agg #[.slice ko M kc, .int .i64 x, .slice vo vn vc, .int .i64 pg, .int .i64 ct], .bool true])) (put5 u k (.slice ko M kc) (.int .i64 x) (.slice vo vn vc) (.int .i64 pg) (.int .i64 ct))) := hidden (fun u vo vn vc pg ct val r hC hB hO hV hu hp => by
          have hf := put5_cf u k (.slice ko M kc) (.int .i64 x) (.slice vo vn vc) (.int .i64 pg) (.int .i64 ct)
          exact ⟨ko, M, kc, x, vo, vn, vc, pg, ct, true, rfl, hidden (by rw [hk]; exact hB.trans (hf.below hu (fun j hj e => by omega))), hidden (.inr ⟨rfl, _, val, r, hp, by rw [hk]; exact hO.cfX hf (fun j hj e => (hO.apart5 hC) (by rw [hj, e])), by rw [hk]; exact hV.cfX hf (fun j hj e => (hV.apart5 hC) (by rw [hj, e]))⟩)⟩)
        have HREF : Hid (∀ u : World, C5 u k (.slice none 0 0) (.int .i64 0) (.slice none 0 0) (.int .i64 0) (.int .i64 0) → Below k w u → k ≤ u.heap.size → pCell (l.drop p) = none → CatTo l p w (.returned (.tuple #[.agg #[.slice none 0 0, .int .i64 0, .slice none 0 0, .int .i64 0, .int .i64 0], .bool false])) (put5 u k (.slice none 0 0) (.int .i64 0) (.slice none 0 0) (.int .i64 0) (.int .i64 0))) := hidden (fun u hC hB hu hp => by
          have hf := put5_cf u k (.slice none 0 0) (.int .i64 0) (.slice none 0 0) (.int .i64 0) (.int .i64 0)
          exact ⟨none, 0, 0, 0, none, 0, 0, 0, 0, false, rfl, hidden (by rw [hk]; exact hB.trans (hf.below hu (fun j hj e => by omega))), hidden (.inl ⟨rfl, hp⟩)⟩)
        have h5n : t + 2 ≤ n := by omega
        have hsk : (s : Int) ≤ 65539 := by omega
        have htk : (t : Int) ≤ 140737488355328 := by omega
        clear h5 h5I
        by_cases hx : x = 1
        · have hxe : (x == 1) = true := by simpa using hx
          have HX1 : Hid (rdN l p 1 = 1) := hidden (by rw [HX.out]; exact hx)
          have HXX := hidden hx
          have hmb := rdN_bound l HS.out.wf t 2
          obtain ⟨m, hm⟩ := Int.eq_ofNat_of_zero_le hmb.1
          have hm6 : (m : Int) < 65536 := by have := hmb.2; rw [hm] at this; simpa using this
          have HPV := hidden (pCell_val l p M m HM.out HX1.out (by rw [HTP.out]; exact hm) (by rw [HLEN.out]; have := HTP.out; omega))
          rw [HTP.out, HSE.out, HLEN.out] at HPV
          have hA := HNU.out w3 (t : Int) 2 HB3.out (by omega) (by omega) (.inl rfl)
          rw [show ((t : Int)).toNat = t by omega, show (2 : Int).toNat = 2 from rfl, hm] at hA
          have HA := hidden hA
          clear hx hmb hm hA
          obtain ⟨c0, c1, c2, c3, c4⟩ := HC3.out.cells
          go_wp2_with (first | (go_at_call 48; refine HA.out.mono ?_; rintro e w4 ⟨rfl, hw4⟩; refine Hid.out ?_))
          apply hidden
          have hww : w3 = w4 := hw4.out.symm
          subst hww
          obtain ⟨r, hre⟩ : ∃ r, t + 2 = r := ⟨_, rfl⟩
          have hrI : (t : Int) + 2 = (r : Int) := by omega
          obtain ⟨q, hqe⟩ : ∃ q, r + m = q := ⟨_, rfl⟩
          have hqI : (r : Int) + (m : Int) = (q : Int) := by omega
          have HTR := hidden hre
          have HRQ := hidden hqe
          have hrn : r ≤ n := by omega
          have HS3L : Hid (k ≤ w3.heap.size) := hidden (by have := HS3.out; omega)
          clear c0 c1 c2 c3 c4 HA hw4
          by_cases h6 : n < q
          · have h6I : (n : Int) < (q : Int) := by omega
            have HNO := hidden (HPV.out.1 (by omega))
            clear hre hqe
            obtain ⟨d0, d1, d2, d3, d4⟩ := HK3.out.cells
            obtain ⟨f0, f1, f2, f3, f4⟩ := HK3.out.free
            go_wp2
            refine bodyPost_ret (results_row26 rfl _ _ k 44 #[.slice none 0 0, .int .i64 0, .slice none 0 0, .int .i64 0, .int .i64 0] (0, 0) _ (.bool false) (by rfl) (by rfl) (HK3.out.put _ _ _ _ _) Tryd.underlying44 rfl sizeCell) rfl ?_
            exact HREF.out w3 HK3.out HB3.out HS3L.out HNO.out
          · have h6I : ¬ (n : Int) < (q : Int) := by omega
            obtain ⟨rr, hrr⟩ := HPV.out.2 (by omega)
            rw [hre] at hrr
            have HRR : Hid (pCell (l.drop p) = some (⟨(l.drop s).take M, x, (l.drop r).take m, 0, 0⟩, rr)) := hidden (by rw [HXX.out]; exact hrr)
            clear hrr
            by_cases hrc : cap = r
            · have hm0 : m = 0 := by omega
              subst hm0
              have hqr : r = q := by omega
              subst hqr
              have t5 : (r : Int) ≤ (cap : Int) := by omega
              have t6 : r ≤ cap := by omega
              have hwt := wrap64n r (by omega)
              rw [List.take_zero] at HRR
              clear hre hqe hqI HPV
              have HPL2 : Hid (([] : List Int).length = 0) := hidden rfl
              obtain ⟨c0, c1, c2, c3, c4⟩ := HC3.out.cells
              go_wp2_with fail
              go_region_law (first
                | (refine step_sl rfl _ _ rfl k [] ([] : List Int) (.slice none 0 0) _ _ _ rfl rfl (OwnB.nil _ _) (Sl.nil_any _ _ _ (by intro h; cases h)) (by simp) (by exact HS3L.out) ?_; intro v2 w5 ho hg; obtain ⟨_, _, f2, _⟩ := (C5.gr (w := w3.drew) (v := .slice none 0 0) HC3.out hg (by simp [Value.ownBlock])).free; obtain ⟨_, _, e2, _⟩ := (C5.gr (w := w3.drew) (v := .slice none 0 0) HC3.out hg (by simp [Value.ownBlock])).cells; obtain ⟨vo, vc, rfl, HV5⟩ := own_slice6m ho HPL2.out; have HG5 := hidden hg; clear ho hg))
              all_goals
                have HC5 : Hid (C5 w5 (k + 1) (.slice ko M kc) (.int .i64 x) (.slice none 0 0) (.int .i64 0) (.int .i64 0)) := hidden (C5.gr (w := w3.drew) (v := .slice none 0 0) HC3.out HG5.out (by simp [Value.ownBlock]))
                have HK5 : Hid (C5 w5 k (.slice none 0 0) (.int .i64 0) (.slice none 0 0) (.int .i64 0) (.int .i64 0)) := hidden (C5.gr (w := w3.drew) (v := .slice none 0 0) HK3.out HG5.out (by simp [Value.ownBlock]))
                have HB5 : Hid (Below k w w5) := hidden ((Below.drew HB3.out).trans (HG5.out.below (OwnB.nil w3.drew k) HS3L.out))
                have HO5 : Hid (OwnB w5 k (.slice ko M kc) ((l.drop s).take M)) := hidden (own_keep (w := w3.drew) HO3.out HG5.out (apt_none _))
                have hcf : Cf (· = k + 1) w5 (w5.setCell ⟨k + 1, 2, none⟩ (.slice vo 0 vc)) := Cf.set _ _ _ _
                have HC6 : Hid (C5 (w5.setCell ⟨k + 1, 2, none⟩ (.slice vo 0 vc)) (k + 1) (.slice ko M kc) (.int .i64 x) (.slice vo 0 vc) (.int .i64 0) (.int .i64 0)) := hidden (HC5.out.set _).2.2.1
                have HK6 : Hid (C5 (w5.setCell ⟨k + 1, 2, none⟩ (.slice vo 0 vc)) k (.slice none 0 0) (.int .i64 0) (.slice none 0 0) (.int .i64 0) (.int .i64 0)) := hidden (HK5.out.cf hcf (by omega))
                have HB6 : Hid (Below k w (w5.setCell ⟨k + 1, 2, none⟩ (.slice vo 0 vc))) := hidden (HB5.out.trans (hcf.below (by have := lt_some HC5.out; omega) (fun j hj e => by omega)))
                have HO6 : Hid (OwnB (w5.setCell ⟨k + 1, 2, none⟩ (.slice vo 0 vc)) k (.slice ko M kc) ((l.drop s).take M)) := hidden (HO5.out.cfX hcf (fun j hj e => (HO5.out.apart5 HC5.out) (by rw [hj, e])))
                have HV6 : Hid (OwnB (w5.setCell ⟨k + 1, 2, none⟩ (.slice vo 0 vc)) k (.slice vo 0 vc) ([] : List Int)) := hidden (HV5.out.cfX hcf (fun j hj e => (HV5.out.apart5 HC5.out) (by rw [hj, e])))
                have HS6 : Hid (k ≤ (w5.setCell ⟨k + 1, 2, none⟩ (.slice vo 0 vc)).heap.size) := hidden (by have := lt_some HC6.out; omega)
                clear c0 c1 c2 c3 c4 f2 e2 hcf
                obtain ⟨g0, g1, g2, g3, g4⟩ := HC6.out.cells
                obtain ⟨i0, i1, i2, i3, i4⟩ := HK6.out.free
                obtain ⟨j0, j1, j2, j3, j4⟩ := HK6.out.cells
                go_wp2
                refine bodyPost_ret (results_row26 rfl _ _ k 44 #[.slice ko M kc, .int .i64 x, .slice vo 0 vc, .int .i64 0, .int .i64 0] (0, 0) _ (.bool true) (by rfl) (by rfl) (HK6.out.put _ _ _ _ _) Tryd.underlying44 rfl sizeCell) rfl ?_
                exact HFIN.out _ vo 0 vc 0 0 [] rr HK6.out HB6.out HO6.out HV6.out HS6.out HRR.out
            · have HSP2 : Hid (∀ u, Below k w u → Sl u (some ⟨g, off + r, none⟩) (q - r) (cap - r) ((l.drop r).take m)) := hidden (fun u hu => by
                have h := (HS.out.on (by rw [hk]; exact Nat.le_refl _) hu).piece r m (cap - r) (by omega) (by omega)
                rw [show m = q - r by omega] at h ⊢
                exact h)
              have t1 : r ≤ q := by omega
              have t3 : q ≤ cap := by omega
              have t4 : (r : Int) ≤ (q : Int) := by omega
              have t5 : (q : Int) ≤ (cap : Int) := by omega
              have t7 : r < cap := by omega
              have t8 : ¬ cap - r = 0 := by omega
              have hwt := wrap64n q (by omega)
              have HTS2 : Hid (q - r ≤ 140737488355328) := hidden (by omega)
              clear hre hqe
              have HPL2 : Hid (((l.drop r).take m).length = m) := hidden (by rw [List.length_take, List.length_drop, HLEN.out]; have := HTR.out; have := HRQ.out; omega)
              obtain ⟨c0, c1, c2, c3, c4⟩ := HC3.out.cells
              go_wp2_with fail
              go_region_law (first
                | (refine step_sl rfl _ _ rfl k [] ((l.drop r).take m) (.slice none 0 0) (some ⟨g, off + r, none⟩) (q - r) (cap - r) rfl rfl (OwnB.nil _ _) (HSP2.out _ (HB3.out.trans (by (repeat (first | exact Below.refl _ _ | apply Below.drew | apply below_drewN))))) (by simpa using HTS2.out) (by exact HS3L.out) ?_; intro v2 w5 ho hg; obtain ⟨_, _, f2, _⟩ := (C5.gr (w := w3.drew) (v := .slice none 0 0) HC3.out hg (by simp [Value.ownBlock])).free; obtain ⟨_, _, e2, _⟩ := (C5.gr (w := w3.drew) (v := .slice none 0 0) HC3.out hg (by simp [Value.ownBlock])).cells; obtain ⟨vo, vc, rfl, HV5⟩ := own_slice6m ho HPL2.out; have HG5 := hidden hg; clear ho hg))
              all_goals
                have HC5 : Hid (C5 w5 (k + 1) (.slice ko M kc) (.int .i64 x) (.slice none 0 0) (.int .i64 0) (.int .i64 0)) := hidden (C5.gr (w := w3.drew) (v := .slice none 0 0) HC3.out HG5.out (by simp [Value.ownBlock]))
                have HK5 : Hid (C5 w5 k (.slice none 0 0) (.int .i64 0) (.slice none 0 0) (.int .i64 0) (.int .i64 0)) := hidden (C5.gr (w := w3.drew) (v := .slice none 0 0) HK3.out HG5.out (by simp [Value.ownBlock]))
                have HB5 : Hid (Below k w w5) := hidden ((Below.drew HB3.out).trans (HG5.out.below (OwnB.nil w3.drew k) HS3L.out))
                have HO5 : Hid (OwnB w5 k (.slice ko M kc) ((l.drop s).take M)) := hidden (own_keep (w := w3.drew) HO3.out HG5.out (apt_none _))
                have hcf : Cf (· = k + 1) w5 (w5.setCell ⟨k + 1, 2, none⟩ (.slice vo m vc)) := Cf.set _ _ _ _
                have HC6 : Hid (C5 (w5.setCell ⟨k + 1, 2, none⟩ (.slice vo m vc)) (k + 1) (.slice ko M kc) (.int .i64 x) (.slice vo m vc) (.int .i64 0) (.int .i64 0)) := hidden (HC5.out.set _).2.2.1
                have HK6 : Hid (C5 (w5.setCell ⟨k + 1, 2, none⟩ (.slice vo m vc)) k (.slice none 0 0) (.int .i64 0) (.slice none 0 0) (.int .i64 0) (.int .i64 0)) := hidden (HK5.out.cf hcf (by omega))
                have HB6 : Hid (Below k w (w5.setCell ⟨k + 1, 2, none⟩ (.slice vo m vc))) := hidden (HB5.out.trans (hcf.below (by have := lt_some HC5.out; omega) (fun j hj e => by omega)))
                have HO6 : Hid (OwnB (w5.setCell ⟨k + 1, 2, none⟩ (.slice vo m vc)) k (.slice ko M kc) ((l.drop s).take M)) := hidden (HO5.out.cfX hcf (fun j hj e => (HO5.out.apart5 HC5.out) (by rw [hj, e])))
                have HV6 : Hid (OwnB (w5.setCell ⟨k + 1, 2, none⟩ (.slice vo m vc)) k (.slice vo m vc) ((l.drop r).take m)) := hidden (HV5.out.cfX hcf (fun j hj e => (HV5.out.apart5 HC5.out) (by rw [hj, e])))
                have HS6 : Hid (k ≤ (w5.setCell ⟨k + 1, 2, none⟩ (.slice vo m vc)).heap.size) := hidden (by have := lt_some HC6.out; omega)
                clear c0 c1 c2 c3 c4 f2 e2 hcf
                obtain ⟨g0, g1, g2, g3, g4⟩ := HC6.out.cells
                obtain ⟨i0, i1, i2, i3, i4⟩ := HK6.out.free
                obtain ⟨j0, j1, j2, j3, j4⟩ := HK6.out.cells
                go_wp2
                refine bodyPost_ret (results_row26 rfl _ _ k 44 #[.slice ko M kc, .int .i64 x, .slice vo m vc, .int .i64 0, .int .i64 0] (0, 0) _ (.bool true) (by rfl) (by rfl) (HK6.out.put _ _ _ _ _) Tryd.underlying44 rfl sizeCell) rfl ?_
                exact HFIN.out _ vo m vc 0 0 ((l.drop r).take m) rr HK6.out HB6.out HO6.out HV6.out HS6.out HRR.out
        · have hxe : (x == 1) = false := by simpa using hx
          have HX1 : Hid (rdN l p 1 ≠ 1) := hidden (by rw [HX.out]; exact hx)
          have HPN := hidden (pCell_num l p M HM.out HX1.out (by rw [HLEN.out]; have := HTP.out; omega))
          rw [HTP.out, HX.out, HSE.out, HLEN.out] at HPN
          clear hx
          obtain ⟨c0, c1, c2, c3, c4⟩ := HC3.out.cells
          by_cases h8 : n < t + 8
          · have h8I : (n : Int) < (t : Int) + 8 := by omega
            obtain ⟨d0, d1, d2, d3, d4⟩ := HK3.out.cells
            obtain ⟨f0, f1, f2, f3, f4⟩ := HK3.out.free
            go_wp2
            refine bodyPost_ret (results_row26 rfl _ _ k 44 #[.slice none 0 0, .int .i64 0, .slice none 0 0, .int .i64 0, .int .i64 0] (0, 0) _ (.bool false) (by rfl) (by rfl) (HK3.out.put _ _ _ _ _) Tryd.underlying44 rfl sizeCell) rfl ?_
            exact HREF.out w3 HK3.out HB3.out (by have := HS3.out; omega) (HPN.out.1 h8)
          · have h8I : ¬ (n : Int) < (t : Int) + 8 := by omega
            have hA := HNU.out w3 (t : Int) 4 HB3.out (by omega) (by omega) (.inr rfl)
            rw [show ((t : Int)).toNat = t by omega, show (4 : Int).toNat = 4 from rfl] at hA
            obtain ⟨r, hr⟩ := HPN.out.2 (by omega)
            have HR := hidden hr
            obtain ⟨A, hAA⟩ : ∃ A, rdN l t 4 = A := ⟨_, rfl⟩
            obtain ⟨C, hCC⟩ : ∃ C, rdN l (t + 4) 4 = C := ⟨_, rfl⟩
            rw [hAA] at hA HR
            rw [hCC] at HR
            have HA := hidden hA
            have HCC := hidden hCC
            have h8n : t + 8 ≤ n := by omega
            clear hr hA hAA hCC HPN h8
            go_wp2_with (first | (go_at_call 48; refine HA.out.mono ?_; rintro e w4 ⟨rfl, hw4⟩; refine Hid.out ?_))
            apply hidden
            have := hw4.out
            subst this
            obtain ⟨f0, f1, f2, f3, f4⟩ := HC3.out.free
            obtain ⟨y, hy⟩ : ∃ y, w4.setCell ⟨k + 1, 3, none⟩ (.int .i64 A) = y := ⟨_, rfl⟩
            have hcf : Cf (· = k + 1) w4 y := by rw [← hy]; exact Cf.set _ _ _ _
            have HC4 : Hid (C5 y (k + 1) (.slice ko M kc) (.int .i64 x) (.slice none 0 0) (.int .i64 A) (.int .i64 0)) := hidden (by rw [← hy]; exact (HC3.out.set _).2.2.2.1)
            have HK4 : Hid (C5 y k (.slice none 0 0) (.int .i64 0) (.slice none 0 0) (.int .i64 0) (.int .i64 0)) := hidden (HK3.out.cf hcf (by omega))
            have HB4 : Hid (Below k w y) := hidden (HB3.out.trans (hcf.below (by have := HS3.out; omega) (fun j hj e => by omega)))
            have HO4 : Hid (OwnB y k (.slice ko M kc) ((l.drop s).take M)) := hidden (HO3.out.cfX hcf (fun j hj e => (HO3.out.apart5 HC3.out) (by rw [hj, e])))
            have hC := HNU.out y ((t : Int) + 4) 4 HB4.out (by omega) (by omega) (.inr rfl)
            rw [show ((t : Int) + 4).toNat = t + 4 by omega, show (4 : Int).toNat = 4 from rfl, HCC.out] at hC
            have HCX := hidden hC
            have HY := hidden hy
            clear hC hy hcf HA hw4
            go_wp2_with (first | (go_at_call 48; refine (show Calls _ _ _ _ _ from (by rw [HY.out]; exact HCX.out)).mono ?_; rintro e w5 ⟨rfl, hw5⟩; refine Hid.out ?_))
            apply hidden
            have hw5' := hw5.out
            subst hw5'
            obtain ⟨e0, e1, e2, e3, e4⟩ := HC4.out.cells
            obtain ⟨f0, f1, f2, f3, f4⟩ := HC4.out.free
            have hcf : Cf (· = k + 1) w5 (w5.setCell ⟨k + 1, 4, none⟩ (.int .i64 C)) := Cf.set _ _ _ _
            have HC5 : Hid (C5 (w5.setCell ⟨k + 1, 4, none⟩ (.int .i64 C)) (k + 1) (.slice ko M kc) (.int .i64 x) (.slice none 0 0) (.int .i64 A) (.int .i64 C)) := hidden (HC4.out.set _).2.2.2.2
            have HK5 : Hid (C5 (w5.setCell ⟨k + 1, 4, none⟩ (.int .i64 C)) k (.slice none 0 0) (.int .i64 0) (.slice none 0 0) (.int .i64 0) (.int .i64 0)) := hidden (HK4.out.cf hcf (by omega))
            have HB5 : Hid (Below k w (w5.setCell ⟨k + 1, 4, none⟩ (.int .i64 C))) := hidden (HB4.out.trans (hcf.below (by have := lt_some HC4.out; omega) (fun j hj e => by omega)))
            have HO5 : Hid (OwnB (w5.setCell ⟨k + 1, 4, none⟩ (.int .i64 C)) k (.slice ko M kc) ((l.drop s).take M)) := hidden (HO4.out.cfX hcf (fun j hj e => (HO4.out.apart5 HC4.out) (by rw [hj, e])))
            have HS5 : Hid (k ≤ (w5.setCell ⟨k + 1, 4, none⟩ (.int .i64 C)).heap.size) := hidden (by have := lt_some HC5.out; omega)
            obtain ⟨g0, g1, g2, g3, g4⟩ := HC5.out.cells
            obtain ⟨i0, i1, i2, i3, i4⟩ := HK5.out.free
            obtain ⟨j0, j1, j2, j3, j4⟩ := HK5.out.cells
            clear hcf HY HCX hw5
            go_wp2
            refine bodyPost_ret (results_row26 rfl _ _ k 44 #[.slice ko M kc, .int .i64 x, .slice none 0 0, .int .i64 A, .int .i64 C] (0, 0) _ (.bool true) (by rfl) (by rfl) (HK5.out.put _ _ _ _ _) Tryd.underlying44 rfl sizeCell) rfl ?_
            exact HFIN.out _ none 0 0 A C [] r HK5.out HB5.out HO5.out (OwnB.nil _ _) HS5.out HR.out
end Go.Proofs.YtdmpbdppdcaabaaDoor
