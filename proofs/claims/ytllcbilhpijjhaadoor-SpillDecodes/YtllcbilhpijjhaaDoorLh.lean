/- The bench's calls: Write, Free, Alloc, Taken. -/
import Derived.Test.YtllcbilhpijjhaaDoorLg
namespace Go.Proofs.YtllcbilhpijjhaaDoor
open Go.RowKit Go.Maps

set_option maxRecDepth 100000 in
/-- What Free of a page comes to. -/
theorem bfree_any {w : World} {b m : Nat} {en pg ps rd : Int} {M : Int → Option Pf} {ct : Nat} (h : Bn w b m en pg ps rd M ct) (n : Int) (hn : (Lit.int .i64 n).wf = true) :
    Calls Tryd.prog 65 #[pB b, .int .i64 n] w fun e u => ∃ k, e = .returned (.int .i64 k) ∧ Hid ((M n = none ∧ k = 30 ∧ u = w) ∨ ((M n).isSome = true ∧ k = 0 ∧ Bn u b m en pg ps rd (delM M n) (ct - 1) ∧ Cf (· = m) w u)) := by
  obtain ⟨c0, c1, c2, c3, c4, f4⟩ := h.cells
  rcases h.look n hn with ⟨hM, hlk⟩ | ⟨f, hM, hlk⟩
  · clear h
    go_enter Tryd.func65, Tryd.ntmps65
    go_wp2
    go_ret
    exact ⟨_, rfl, hidden (.inl ⟨hM, rfl, rfl⟩)⟩
  · have hso : (M n).isSome = true := by rw [hM]; rfl
    obtain ⟨u, hr, hbn, hcf⟩ := h.drop n hn hso 0
    have HB := hidden hbn
    have HC := hidden hcf
    have HS := hidden hso
    unfold pfV at hlk
    clear h hbn hcf hM hso
    go_enter Tryd.func65, Tryd.ntmps65
    go_wp2
    go_ret
    exact ⟨_, rfl, hidden (.inr ⟨HS.out, rfl, HB.out, HC.out⟩)⟩
set_option maxRecDepth 100000 in
/-- New bytes are stored as a page. -/
theorem new_store {w y u : World} {b m : Nat} {en pg ps rd : Int} {M : Int → Option Pf} {ct : Nat} (h : Bn w b m en pg ps rd M ct) (n : Int) (hn : (Lit.int .i64 n).wf = true) (hct : ct < 1000000) (hwy : Below w.heap.size w y) {g0 N : Nat} {v' : Value} {d : List Int}
    (HO : OwnB y w.heap.size (.slice (some ⟨g0, 0, none⟩) 0 N) []) (ho : OwnB u w.heap.size v' ([] ++ d)) (hg : Gr y (.slice (some ⟨g0, 0, none⟩) 0 N) u v') (hw : Wf d) (hl : d.length ≤ 140737488355328) :
    u.cell? ⟨b, 3, none⟩ = some (.map (some m)) ∧ ∃ f : Pf, v' = .slice (some ⟨f.g, 0, none⟩) f.l.length f.c ∧ ∃ u2, (Instr.mapUpdate 71 (.map (some m)) (.int .i64 n) (.slice (some ⟨f.g, 0, none⟩) f.l.length f.c)).run Tryd.prog u = .ok () u2 ∧ Hid (f.l = d ∧ w.heap.size ≤ f.g ∧ Bn u2 b m en pg ps rd (putM M n f) (if (M n).isSome then ct else ct + 1) ∧ Cf (· = m) w u2) := by
  rw [List.nil_append] at ho
  have hbu : Below w.heap.size w u := hwy.trans (hg.below HO hwy.size)
  have hB := h.on hbu
  obtain ⟨ao, cap, rfl, hsl, hlow⟩ := ho.sl hw hl
  obtain ⟨g, rfl⟩ : ∃ g, ao = some ⟨g, 0, none⟩ := by
    have hb := ho
    unfold OwnB at hb
    rcases hb.2 with ⟨e, _⟩ | ⟨g, c, cur, e, _⟩
    · have := hg.own
      rw [e] at this
      simp [Value.ownBlock] at this
    · injection e with e1 e2 e3
      exact ⟨g, e1⟩
  have hgl : w.heap.size ≤ g := hlow _ rfl
  have h1 := h.lt
  have h2 := h.mlt
  obtain ⟨u2, hr, hb2, hc2⟩ := hB.store n hn ⟨g, cap, d⟩ hsl (by show g ≠ b; omega) (by show g ≠ m; omega) hct
  exact ⟨hB.cells.c3, ⟨g, cap, d⟩, rfl, u2, hr, hidden ⟨rfl, hgl, hb2, (Cf.of_below hbu).go hc2⟩⟩
set_option maxRecDepth 100000 in
/-- What Write of a page comes to. -/
theorem bwrite_any {w : World} {b m : Nat} {en pg ps rd : Int} {M : Int → Option Pf} {ct : Nat} (h : Bn w b m en pg ps rd M ct) (n : Int) (hn : (Lit.int .i64 n).wf = true) (ao : Option Addr) (dn dc : Nat) (d : List Int) (hd : Sl w ao dn dc d) (hct : ct < 1000000) :
    Calls Tryd.prog 73 #[pB b, .int .i64 n, .slice ao dn dc] w fun e u => ∃ k, e = .returned (.int .i64 k) ∧ Hid ((M n = none ∧ k = 30 ∧ u = w) ∨ ((M n).isSome = true ∧ (dn : Int) ≠ pg ∧ k = 31 ∧ u = w) ∨
      ((M n).isSome = true ∧ (dn : Int) = pg ∧ k = 0 ∧ ∃ f : Pf, f.l = d ∧ w.heap.size ≤ f.g ∧ Bn u b m en pg ps rd (putM M n f) ct ∧ Cf (· = m) w u)) := by
  obtain ⟨c0, c1, c2, c3, c4, f4⟩ := h.cells
  rcases h.look n hn with ⟨hM, hlk⟩ | ⟨f, hM, hlk⟩
  · clear h hd
    go_enter Tryd.func73, Tryd.ntmps73
    go_wp2
    go_ret
    exact ⟨_, rfl, hidden (.inl ⟨hM, rfl, rfl⟩)⟩
  · have hso : (M n).isSome = true := by rw [hM]; rfl
    have HS := hidden hso
    unfold pfV at hlk
    by_cases hp : (dn : Int) = pg
    · have hr := hd.hroom
      have hdl := hd.hlen
      have hmk := made_run dn (by omega)
      have hrI : (dn : Int) ≤ 140737488355328 := by omega
      obtain ⟨y, hy⟩ : ∃ y, (w.drew).alloc (.cells (madeCells #[.int .u8 0] dn) 5) = y := ⟨_, rfl⟩
      have hwy : Below w.heap.size w y := by rw [← hy]; exact bl_al (Below.refl _ w).drew (Nat.le_refl _) _
      have HO : Hid (OwnB y w.heap.size (.slice (some ⟨w.heap.size, 0, none⟩) 0 dn) []) := hidden (by rw [← hy]; exact made_own w.drew _ (by omega))
      have HSY : Hid (Sl y ao dn dc d) := hidden (hd.on (Nat.le_refl _) hwy)
      have HWY := hidden hwy
      have c3y := (h.on hwy).cells.c3
      have hys : w.heap.size ≤ y.heap.size := hwy.size
      have HB := hidden h
      have HD := hidden hd
      have HDL := hidden hdl
      have HP := hidden hp
      clear h hd hwy hdl hM hso
      subst hp
      go_enter Tryd.func73, Tryd.ntmps73
      go_wp2_with fail
      go_region_law (first
        | (refine step_sl rfl _ _ rfl w.heap.size [] d _ ao dn dc rfl rfl HO.out HSY.out (by simp; omega) hys ?_; intro v' u ho hg; obtain ⟨c3u, f2, rfl, u2, hst, HX⟩ := new_store HB.out n hn hct HWY.out HO.out ho hg HD.out.wf (by rw [HDL.out]; exact hr); clear ho hg))
      all_goals
        rw [if_pos HS.out] at HX
        clear hst hmk
        go_wp2
        go_ret
        exact ⟨_, rfl, hidden (.inr (.inr ⟨HS.out, (by trivial), rfl, f2, HX.out⟩))⟩
    · have hp2 : ((dn : Int) == pg) = false := by rw [beq_eq_false_iff_ne]; exact hp
      clear h hd hM hso
      go_enter Tryd.func73, Tryd.ntmps73
      go_wp2
      go_ret
      exact ⟨_, rfl, hidden (.inr (.inl ⟨HS.out, hp, rfl, rfl⟩))⟩
end Go.Proofs.YtllcbilhpijjhaaDoor
