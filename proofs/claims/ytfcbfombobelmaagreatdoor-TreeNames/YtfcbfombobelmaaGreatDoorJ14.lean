/- Rows of ints; the bench's Alloc and Taken. -/
import Derived.Test.YtfcbfombobelmaaGreatDoorJ13
import Derived.Test.YtfcbfombobelmaaGreatDoorJ05
import Derived.Handy
import Derived.Laws.EntriesVeiled
import Derived.WideLaws
namespace Go.Proofs.YtfcbfombobelmaaGreatDoor
open Go.RowKit Go.Maps

def IV (l : List Int) : List Value := l.map (Value.int .i64)
set_option maxRecDepth 100000 in
theorem info64 : (Tryz.prog.info? 3).map (fun i => (i.zero, i.size, i.bytes)) = some (some (.int .i64 0), 1, 8) := by kernel_rfl
/-- The slice value v owns the ints l, in a block from B on. -/
def OwnJ (w : World) (B : Nat) (v : Value) (l : List Int) : Prop := w.ownsRow B 3 1 v l.length (IV l)
set_option maxRecDepth 100000 in
theorem OwnJ.nil (w : World) (B : Nat) : OwnJ w B (.slice none 0 0) [] := World.ownsRow_nil w B 3 1
set_option maxRecDepth 100000 in
theorem OwnJ.gr {w w' : World} {B : Nat} {v : Value} {l : List Int} {u u' : Value} (h : OwnJ w B v l) (hg : Gr w u w' u') (hne : v.ownBlock = none ∨ v.ownBlock ≠ u.ownBlock) : OwnJ w' B v l := World.ownsRow.kept h hg.grow hne
set_option maxRecDepth 100000 in
theorem OwnJ.below {w w' : World} {B : Nat} {v : Value} {l : List Int} (h : OwnJ w B v l) (hb : Below w.heap.size w w') : OwnJ w' B v l := h.gr (Gr.ofBelow (.slice none 0 0) hb) (by
  cases hv : v.ownBlock with
  | none => exact .inl rfl
  | some k => exact .inr (by simp [Value.ownBlock]))
set_option maxRecDepth 100000 in
theorem OwnJ.cf {w w' : World} {B : Nat} {v : Value} {l : List Int} {F : Nat → Prop} (h : OwnJ w B v l) (hc : Cf F w w') (hf : ∀ k, v.ownBlock = some k → ¬ F k) : OwnJ w' B v l := by
  unfold OwnJ at *
  rcases h.2 with h2 | ⟨g, cap, cur, e, hg, hh, rest⟩
  · exact ⟨h.1, .inl h2⟩
  · refine ⟨h.1, .inr ⟨g, cap, cur, e, hg, ?_, rest⟩⟩
    rw [hc.block g (lt_some hh) (hf g (by rw [e]; rfl))]
    exact hh
set_option maxRecDepth 100000 in
theorem OwnJ.lt {w : World} {B : Nat} {v : Value} {l : List Int} (h : OwnJ w B v l) {k : Nat} (hk : v.ownBlock = some k) : B ≤ k ∧ k < w.heap.size := by
  unfold OwnJ at h
  exact h.lt k hk
/-- The slice value reads as the ints l. -/
structure SlJ (w : World) (ao : Option Addr) (n cap : Nat) (l : List Int) : Prop where
  hlen : l.length = n
  hcap : n ≤ cap
  hat : n = 0 ∨ ∃ b, ao = some ⟨b, 0, none⟩ ∧ b < w.heap.size ∧ ∀ i, i < n → w.cell? ⟨b, i, none⟩ = some (.int .i64 (l.getD i 0))
set_option maxRecDepth 100000 in
theorem OwnJ.sl {w : World} {B : Nat} {v : Value} {l : List Int} (h' : OwnJ w B v l) : ∃ ao cap, v = .slice ao l.length cap ∧ SlJ w ao l.length cap l := by
  obtain ⟨n, hl⟩ : ∃ n, l.length = n := ⟨_, rfl⟩
  have h : w.ownsRow B 3 1 v n (IV l) := by rw [← hl]; exact h'
  rw [hl]
  rcases h.2 with ⟨rfl, rfl⟩ | ⟨g, cap, cur, rfl, hg, hh, hnc, hm, hs, ht⟩
  · exact ⟨none, 0, rfl, hl, Nat.le_refl _, .inl rfl⟩
  · refine ⟨some ⟨g, 0, none⟩, cap, rfl, hl, hnc, .inr ⟨g, rfl, lt_some hh, ?_⟩⟩
    intro i hi
    have := h.cellAt i (by omega)
    rw [this]
    simp [IV, List.getD, List.getElem?_eq_getElem (show i < l.length by omega)]
set_option maxRecDepth 100000 in
/-- 'append(l, x)', l the call's own or nil. -/
theorem app_j {ops : Array Oper} {rest : List Oper} {o : Oper} {a : Act} {Q : Exit → Act → World → Prop} (w : World) (hgd : o.guard = none) (s x : Operand)
    (ho : o.op = .call { callee := .builtin .append, args := #[s, x], argTypes := #[38, 38] }) (B : Nat) (l : List Int) (y : Int) (v : Value) (g : Nat) (hs : a.eval s = v) (hx : a.eval x = .slice (some ⟨g, 0, none⟩) 1 1)
    (hown : OwnJ w B v l) (hy : w.cell? ⟨g, 0, none⟩ = some (.int .i64 y)) (hb : l.length + 1 ≤ 1000000) (hbase : B ≤ w.heap.size)
    (h : ∀ v' w', OwnJ w' B v' (l ++ [y]) → Gr w v w' v' → wpList Tryz.prog ops Q rest (a.put o.dst v') w') : wpList Tryz.prog ops Q (o :: rest) a w := by
  obtain ⟨i0, hi, hz0, hz1, hz2⟩ := info_parts info64
  refine wpList_append_own_at w hgd s x 38 ho B 3 i0 (.int .i64 0) 1 8 Tryz.underlying38 hi hz0 hz1 hz2 rfl (by decide) v l.length (IV l) hs hown ⟨g, 0, none⟩ 1 1 (IV [y]) hx rfl
    (fun j u hu => by
      have hj : j = 0 := by
        have := (List.getElem?_eq_some_iff.1 hu).1
        simp [IV] at this
        omega
      subst hj
      simp [IV] at hu
      rw [← hu]
      simpa [Addr.add] using hy) (by simp [IV, Value.oneCell']) (by unfold maxLen; omega) (by omega) hbase ?_
  intro v' w' h1 h2 _ h4
  refine h v' w' ?_ ⟨h2, h4.imp id fun e => ⟨_, e, Nat.le_refl _⟩⟩
  unfold OwnJ
  rw [show IV (l ++ [y]) = IV l ++ IV [y] from by simp [IV], List.length_append]
  exact h1
set_option maxRecDepth 100000 in
theorem wf64 (k : Int) (h0 : -9223372036854775808 ≤ k) (h1 : k ≤ 9223372036854775807) : (Lit.int .i64 k).wf = true := by
  have e1 : IntKind.i64.min = -9223372036854775808 := by rfl
  have e2 : IntKind.i64.max = 9223372036854775807 := by rfl
  simp [Lit.wf, e1, e2]
  omega
/-- The pages that are there, of the first j from 2 on. -/
def tkL (M : Int → Option Pf) : Nat → List Int
  | 0 => []
  | j + 1 => tkL M j ++ (if (M ((j : Int) + 2)).isSome then [(j : Int) + 2] else [])
set_option maxRecDepth 100000 in
theorem tkL_length (M : Int → Option Pf) : ∀ j, (tkL M j).length ≤ j
  | 0 => Nat.le_refl _
  | j + 1 => by
    have := tkL_length M j
    unfold tkL
    split <;> simp <;> omega
set_option maxRecDepth 100000 in
set_option maxHeartbeats 1000000 in
theorem taken_list {w : World} {b m : Nat} {en pg ps rd : Int} {M : Int → Option Pf} {ct : Nat} (h : Bn w b m en pg ps rd M ct) (h1 : 2 ≤ ps) (h2 : ps ≤ 65536) :
    Calls Tryz.prog 13 #[pB b] w fun e u => ∃ v, e = .returned v ∧ Hid (OwnJ u w.heap.size v (tkL M (ps - 2).toNat)) ∧ Hid (Below w.heap.size w u) := by
  have HB := hidden h
  obtain ⟨T, hT⟩ : ∃ T : Nat, ps = (T : Int) + 2 := ⟨(ps - 2).toNat, by omega⟩
  have hTt : (ps - 2).toNat = T := by omega
  rw [hTt]
  have hT2 : (T : Int) ≤ 65534 := by omega
  clear h hTt
  go_enter Tryz.func13, Tryz.ntmps13
  go_wp2_with fail
  go_loopw [3, 4] (fun v i wr => ∃ j : Nat, j ≤ T ∧ i = .int .i64 ((j : Int) + 2) ∧ Hid (OwnJ wr w.heap.size v (tkL M j)) ∧ Hid (Below w.heap.size w wr)) (fun _ i _ => T + 2 - (intOf i).toNat)
  case atStart => exact ⟨0, by omega, rfl, hidden (OwnJ.nil _ _), hidden (Below.refl _ _)⟩
  case round =>
    obtain ⟨j, hj, rfl, HO, HW⟩ := hrel
    have HBR := hidden (HB.out.on HW.out)
    obtain ⟨c0, c1, c2, c3, c4, f4⟩ := HBR.out.cells
    by_cases hlt : j < T
    · have hltI : (j : Int) + 2 < ps := by omega
      have hwf : (Lit.int .i64 ((j : Int) + 2)).wf = true := wf64 _ (by omega) (by omega)
      rcases HBR.out.look ((j : Int) + 2) hwf with ⟨hM, hlk⟩ | ⟨f, hM, hlk⟩
      · have HT1 : Hid (tkL M (j + 1) = tkL M j) := hidden (by simp [tkL, hM])
        clear hM
        go_wp2
        go_roundw
        case rel => exact ⟨j + 1, by omega, by go_num, by rw [HT1.out]; exact HO, HW⟩
        case measure => simp [intOf]; omega
      · have HT1 : Hid (tkL M (j + 1) = tkL M j ++ [(j : Int) + 2]) := hidden (by simp [tkL, hM])
        have hlen := tkL_length M j
        obtain ⟨x, hx⟩ : ∃ x, wr.alloc (.cells #[.int .i64 ((j : Int) + 2)] 3) = x := ⟨_, rfl⟩
        have hbx : Below wr.heap.size wr x := by rw [← hx]; exact bl_al (Below.refl _ _) (Nat.le_refl _) _
        have hcx : x.cell? ⟨wr.heap.size, 0, none⟩ = some (.int .i64 ((j : Int) + 2)) := by rw [← hx]; simp
        have HOX := hidden (HO.out.below hbx)
        have hxs : w.heap.size ≤ x.heap.size := Nat.le_trans HW.out.size hbx.size
        have HBX := hidden (bl_go HW.out (Nat.le_refl _) hbx)
        unfold pfV at hlk
        clear hM hbx
        go_wp2_with (at_builtin; refine app_j _ rfl _ _ rfl w.heap.size (tkL M j) ((j : Int) + 2) _ wr.heap.size rfl rfl HOX.out hcx (by omega) hxs ?_; refine Hid.out ?_)
        apply hidden
        intro v' w' ho hg
        have HO2 : Hid (OwnJ w' w.heap.size v' (tkL M (j + 1))) := hidden (by rw [HT1.out]; exact ho)
        have HW2 : Hid (Below w.heap.size w w') := hidden (HBX.out.trans (own_below HOX.out hxs hg.grow))
        clear ho hg hx hcx
        go_wp2
        go_roundw
        case rel => exact ⟨j + 1, by omega, by go_num, HO2, HW2⟩
        case measure => simp [intOf]; omega
    · obtain rfl : j = T := by omega
      have hq : ¬ (j : Int) + 2 < ps := by omega
      go_wp2
      go_ret
      exact ⟨_, rfl, HO, HW⟩
set_option maxRecDepth 100000 in
set_option maxHeartbeats 1000000 in
theorem alloc_yes {w : World} {b m : Nat} {en pg ps rd : Int} {M : Int → Option Pf} {ct : Nat} (h : Bn w b m en pg ps rd M ct) (hp : pw pg) (h2 : ps ≤ 65536) (a : Int) (ha : 2 ≤ a) (hap : a < ps) (hM : M a = none) (hall : ∀ k, 2 ≤ k → k < a → (M k).isSome = true) (hct : ct < 1000000) :
    Calls Tryz.prog 206 #[pB b] w fun e u => e = .returned (.tuple #[.int .i64 a, .int .i64 0]) ∧ Hid (∃ f : Pf, f.l = zs pg.toNat ∧ w.heap.size ≤ f.g ∧ Bn u b m en pg ps rd (putM M a f) (ct + 1) ∧ Cf (· = m) w u) := by
  have HB := hidden h
  have hpl := pw_le hp
  obtain ⟨c0, c1, c2, c3, c4, f4⟩ := h.cells
  have HA := hidden hall
  have HM := hidden hM
  clear h hp hall
  go_enter Tryz.func206, Tryz.ntmps206
  go_wp2_with fail
  go_loop [4] (fun i => ∃ j : Int, 2 ≤ j ∧ j ≤ a ∧ i = .int .i64 j) (fun i => (a - intOf i).toNat)
  case atStart => exact ⟨2, by omega, by omega, rfl⟩
  case round =>
    obtain ⟨j, hj2, hja, rfl⟩ := hrel
    have hjp : j < ps := by omega
    by_cases hlt : j < a
    · rcases HB.out.look j (wf64 _ (by omega) (by omega)) with ⟨hM', hlk⟩ | ⟨f, hM', hlk⟩
      · have := HA.out j hj2 hlt
        rw [hM'] at this
        cases this
      · unfold pfV at hlk
        clear hM' hM
        go_wp2
        go_round
        case rel => exact ⟨j + 1, by omega, by omega, by go_num⟩
        case measure => simp [intOf]; omega
    · obtain rfl : j = a := by omega
      rcases HB.out.look j (wf64 _ (by omega) (by omega)) with ⟨_, hlk⟩ | ⟨f, hM', hlk⟩
      · obtain ⟨P, rfl⟩ : ∃ P : Nat, pg = P := ⟨pg.toNat, by omega⟩
        have hmk := made_full P (by omega)
        obtain ⟨y, hy⟩ : ∃ y, (w.drew).alloc (.cells (madeCells #[.int .u8 0] P) 5) = y := ⟨_, rfl⟩
        have hwy : Below w.heap.size w y := by rw [← hy]; exact bl_al (Below.refl _ w).drew (Nat.le_refl _) _
        have HBY := hidden (HB.out.on hwy)
        have hk : Bk y w.heap.size (zs P) := by rw [← hy]; exact made_zs w.drew P
        have hs := hk.sl (zs_length P) (zs_wf P) (by omega)
        have l1 := HB.out.lt
        have l2 := HB.out.mlt
        obtain ⟨u2, hst, hb2, hc2⟩ := HBY.out.store j (wf64 _ (by omega) (by omega)) ⟨w.heap.size, P, zs P⟩ (by simpa [zs_length] using hs) (by show w.heap.size ≠ b; omega) (by show w.heap.size ≠ m; omega) hct
        rw [HM.out] at hb2
        have HX : Hid (∃ f : Pf, f.l = zs P ∧ w.heap.size ≤ f.g ∧ Bn u2 b m en (P : Int) ps rd (putM M j f) (ct + 1) ∧ Cf (· = m) w u2) := hidden ⟨⟨w.heap.size, P, zs P⟩, rfl, Nat.le_refl _, hb2, (Cf.of_below hwy).go hc2⟩
        have c3y := HBY.out.cells.c3
        have c1y := HBY.out.cells.c1
        unfold pfV at hst
        simp only [zs_length] at hst
        have hPI : (P : Int) ≤ 65536 := by omega
        clear hb2 hc2 hs hk hM hwy
        go_wp2_with fail
        go_region_law (fail)
        all_goals
          clear hst hmk
          go_wp2
          go_ret2
          exact ⟨rfl, HX⟩
      · rw [HM.out] at hM'
        cases hM'
end Go.Proofs.YtfcbfombobelmaaGreatDoor

/- Layer 8: what an engine does: layoutOf, engineOf, asNode. -/

namespace Go.Proofs.YtfcbfombobelmaaGreatDoor
open Go.RowKit

set_option maxRecDepth 100000 in
theorem results_row28 {P : Program} {fn : Func} {p u : Tmp} {ty : TypeId} (h : fn.results = #[.cell p ty, .tmp u]) (tmps : Array Value) (w : World) (g : Nat) (t : TypeId) (cs : Array Value) (fr : Nat × Nat) (d : TypeDesc) (v : Value)
    (hp : tmps.getD p undef = .pointer (some ⟨g, 0, none⟩)) (hv : tmps.getD u undef = v) (hg : w.heap[g]? = some (.cells cs t fr))
    (hu : P.underlying ty = some d) (hd : (match d with | .struct _ | .array _ _ => true | _ => false) = true) (hi : (P.info? ty).map (·.size) = some cs.size) :
    (results fn tmps).run P w = .ok (.tuple #[.agg cs, v]) w := by
  subst hv
  rw [results_cell_tmp h, hp]
  simp [asAddr, run_loadVar_row w g t ty cs fr d hg hu hd hi, Result.andThen]
/-- A function as a value. -/
abbrev fV (f : Nat) : Value := .func (.func f) #[] #[]
/-- What the plain engine does. -/
abbrev ly1 : Array Value := #[fV 75, fV 76, fV 77, fV 78, fV 81]
set_option maxRecDepth 100000 in
theorem sizeLy : (Tryz.prog.info? 117).map (·.size) = some 5 := by kernel_rfl
set_option maxRecDepth 100000 in
theorem layout_1 (w : World) : Calls Tryz.prog 67 #[.int .i64 1] w fun e w' => e = .returned (.tuple #[.agg ly1, .bool true]) ∧ Hid (Below w.heap.size w w') := by
  go_enter Tryz.func67, Tryz.ntmps67
  go_wp2
  refine bodyPost_ret (results_row28 rfl _ _ w.heap.size 117 ly1 (0, 0) _ (.bool true) (by rfl) (by rfl) (heap_alloc_last w _) Tryz.underlying117 rfl sizeLy) rfl ?_
  exact ⟨rfl, hidden (bl_al (Below.refl _ _) (Nat.le_refl _) _)⟩
/-- A node that is a plain page. -/
abbrev iP (a : Nat) : Value := .iface 133 (.pointer (some ⟨a, 0, none⟩))
set_option maxRecDepth 100000 in
theorem asP_yes (a : Nat) (w : World) : Calls Tryz.prog 79 #[.pointer (some ⟨a, 0, none⟩), .int .i64 0] w fun e w' => e = .returned (.tuple #[iP a, .int .i64 0]) ∧ w' = w := by
  go_enter Tryz.func79, Tryz.ntmps79
  go_wp2
  go_ret2
  exact ⟨rfl, rfl⟩
set_option maxRecDepth 100000 in
theorem asP_no (p : Option Addr) (c : Int) (hc : ¬ c = 0) (w : World) : Calls Tryz.prog 79 #[.pointer p, .int .i64 c] w fun e w' => e = .returned (.tuple #[.nilIface, .int .i64 c]) ∧ w' = w := by
  go_enter Tryz.func79, Tryz.ntmps79
  go_wp2
  go_ret2
  exact ⟨rfl, rfl⟩
end Go.Proofs.YtfcbfombobelmaaGreatDoor
