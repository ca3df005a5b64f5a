/- packed.read. -/
import Derived.Test.YtbefpojdopfeeaaGreatDoorJ25
import Derived.Test.YtbefpojdopfeeaaGreatDoorJ26
namespace Go.Proofs.YtbefpojdopfeeaaGreatDoor
open Go.RowKit

/-- A page that owns its body and its starts. -/
structure PO (w : World) (B a : Nat) (k : Int) (n : Nat) (po : Option Addr) (pn pc : Nat) (vb vs : Value) (ws : Int) (P body : List Int) (st : List Nat) : Prop where
  row : QR w a k n (.slice po pn pc) vb vs ws
  pre : Sl w po pn pc P
  ob : OwnB w B vb body
  on : OwnN w B vs st
  far : Far po pn vb
  ha : B ≤ a
set_option maxRecDepth 100000 in
theorem PO.go {w v : World} {B a : Nat} {k : Int} {n : Nat} {po : Option Addr} {pn pc : Nat} {vb vs : Value} {ws : Int} {P body : List Int} {st : List Nat} (h : PO w B a k n po pn pc vb vs ws P body st) (hb : Below w.heap.size w v) : PO v B a k n po pn pc vb vs ws P body st :=
  ⟨box_on h.row hb, h.pre.on (Nat.le_refl _) hb, h.ob.on (Nat.le_refl _) hb, h.on.below hb, h.far, h.ha⟩
set_option maxRecDepth 100000 in
theorem PO.pg {w : World} {B a : Nat} {k : Int} {n : Nat} {po : Option Addr} {pn pc : Nat} {vb vs : Value} {ws : Int} {P body : List Int} {st : List Nat} (h : PO w B a k n po pn pc vb vs ws P body st) (hw : Wf body) (hb : body.length ≤ 140737488355328) (hs : st.length ≤ 140737488355328) :
    ∃ bo bc so sc, vb = .slice bo body.length bc ∧ vs = .slice so st.length sc ∧ PgQ w a k n po pn pc bo body.length bc so st.length sc ws P body st := by
  obtain ⟨bo, bc, rfl, hbs, _⟩ := h.ob.sl hw hb
  obtain ⟨so, sc, rfl, hss⟩ := h.on.sln hs
  exact ⟨bo, bc, so, sc, rfl, rfl, ⟨h.row, h.pre, hbs, hss⟩⟩
/-- What read comes to. -/
def ReadQ (l : List Int) (w : World) (e : Ending) (w' : World) : Prop :=
  ∃ po, e = .returned (.pointer po) ∧ Hid (Below w.heap.size w w') ∧ Hid ((po = none ∧ readQ l = none) ∨ ∃ a qo qn qc vb vs P cs, po = some ⟨a, 0, none⟩ ∧ readQ l = some (P, cs) ∧ PO w' w.heap.size a (l.getD 0 0) l.length qo qn qc vb vs 0 P (qbd P.length (whl (l.getD 0 0)) cs) (qst P.length (whl (l.getD 0 0)) 0 cs))
set_option maxRecDepth 100000 in
theorem ReadQ.no {l : List Int} {w w' : World} (hb : Below w.heap.size w w') (h : readQ l = none) : ReadQ l w (.returned (.pointer none)) w' := ⟨none, rfl, hidden hb, hidden (.inl ⟨rfl, h⟩)⟩
/-- read, behind the two copies. -/
def Rz (w u : World) (a : Nat) (k0 : Int) (n gp pn pc gb bn bc : Nat) (P BD : List Int) : Prop :=
  QR u a k0 n (.slice (some ⟨gp, 0, none⟩) pn pc) (.slice (some ⟨gb, 0, none⟩) bn bc) (.slice none 0 0) 0 ∧ OwnB u w.heap.size (.slice (some ⟨gp, 0, none⟩) pn pc) P ∧ OwnB u w.heap.size (.slice (some ⟨gb, 0, none⟩) bn bc) BD ∧ gp < a ∧ gb < a ∧ gp ≠ gb ∧ w.heap.size ≤ a ∧ Below w.heap.size w u
/-- What a copy comes to. -/
def Cl1 (w u u' : World) (X : List Int) (g m c : Nat) : Prop := OwnB u' w.heap.size (.slice (some ⟨g, 0, none⟩) m c) X ∧ u.heap.size ≤ g ∧ g < u'.heap.size ∧ Below u.heap.size u u'
set_option maxRecDepth 100000 in
theorem Rz.of {w u0 u1 u2 u3 u4 : World} {k0 : Int} {n gp pn pc gb bn bc : Nat} {P BD : List Int} (h0 : Below w.heap.size w u0) (h1 : Cl1 w u0 u1 P gp pn pc) (h12 : Below u1.heap.size u1 u2) (h2 : Cl1 w u2 u3 BD gb bn bc) (h34 : Below u3.heap.size u3 u4) :
    Rz w (u4.alloc (.cells #[.int .i64 k0, .int .i64 (n : Int), .slice (some ⟨gp, 0, none⟩) pn pc, .slice (some ⟨gb, 0, none⟩) bn bc, .slice none 0 0, .int .i64 0] 63)) u4.heap.size k0 n gp pn pc gb bn bc P BD := by
  obtain ⟨a1, a2, a3, a4⟩ := h1
  obtain ⟨b1, b2, b3, b4⟩ := h2
  have e1 := h12.size
  have e2 := b4.size
  have e3 := h34.size
  have e4 := h0.size
  have hb := bl_al (Below.refl _ u4) (Nat.le_refl _) (.cells #[.int .i64 k0, .int .i64 (n : Int), .slice (some ⟨gp, 0, none⟩) pn pc, .slice (some ⟨gb, 0, none⟩) bn bc, .slice none 0 0, .int .i64 0] 63)
  refine ⟨heap_alloc_last u4 _, ((((a1.on (Nat.le_refl _) h12).on (Nat.le_refl _) b4).on (Nat.le_refl _) h34).on (Nat.le_refl _) hb), (b1.on (Nat.le_refl _) h34).on (Nat.le_refl _) hb, by omega, by omega, by omega, by have := a4.size; omega, ?_⟩
  exact bl_go (bl_go (bl_go (bl_go (bl_go h0 (Nat.le_refl _) a4) (Nat.le_refl _) h12) (Nat.le_refl _) b4) (Nat.le_refl _) h34) (Nat.le_refl _) hb
set_option maxRecDepth 100000 in
theorem Rz.fo {w u0 u1 u2 u3 u4 : World} {k0 : Int} {n gp pn pc gb bn bc : Nat} {P BD : List Int} (h0 : Below w.heap.size w u0) (h1 : Cl1 w u0 u1 BD gb bn bc) (h12 : Below u1.heap.size u1 u2) (h2 : Cl1 w u2 u3 P gp pn pc) (h34 : Below u3.heap.size u3 u4) :
    Rz w (u4.alloc (.cells #[.int .i64 k0, .int .i64 (n : Int), .slice (some ⟨gp, 0, none⟩) pn pc, .slice (some ⟨gb, 0, none⟩) bn bc, .slice none 0 0, .int .i64 0] 63)) u4.heap.size k0 n gp pn pc gb bn bc P BD := by
  obtain ⟨a1, a2, a3, a4⟩ := h1
  obtain ⟨b1, b2, b3, b4⟩ := h2
  have e1 := h12.size
  have e2 := b4.size
  have e3 := h34.size
  have e4 := h0.size
  have hb := bl_al (Below.refl _ u4) (Nat.le_refl _) (.cells #[.int .i64 k0, .int .i64 (n : Int), .slice (some ⟨gp, 0, none⟩) pn pc, .slice (some ⟨gb, 0, none⟩) bn bc, .slice none 0 0, .int .i64 0] 63)
  refine ⟨heap_alloc_last u4 _, (b1.on (Nat.le_refl _) h34).on (Nat.le_refl _) hb, ((((a1.on (Nat.le_refl _) h12).on (Nat.le_refl _) b4).on (Nat.le_refl _) h34).on (Nat.le_refl _) hb), by omega, by omega, by omega, by have := a4.size; omega, ?_⟩
  exact bl_go (bl_go (bl_go (bl_go (bl_go h0 (Nat.le_refl _) a4) (Nat.le_refl _) h12) (Nat.le_refl _) b4) (Nat.le_refl _) h34) (Nat.le_refl _) hb
set_option maxRecDepth 100000 in
set_option maxHeartbeats 4000000 in
theorem readQ_tail (ao : Option Addr) (n cap : Nat) (l : List Int) (w : World) (hs : Sl w ao n cap l) (hn : pw n) (hk : isKd (l.getD 0 0)) :
    Calls Tryz.prog 56 #[.slice ao n cap] w fun e w' => ReadQ l w e w' := by
  have hn2 := pw_nat hn
  have hn3 := hn2.1
  have hn4 := hn2.2
  have hlen := hs.hlen
  have hcap := hs.hcap
  obtain ⟨b, off, rfl, hbl, hc⟩ : ∃ b off, ao = some ⟨b, off, none⟩ ∧ b < w.heap.size ∧ ∀ i, i < n → w.cell? ⟨b, off + i, none⟩ = some (.int .u8 (l.getD i 0)) := by
    rcases hs.hat with h | h
    · omega
    · exact h
  have c0 := hc 0 (by omega)
  rw [Nat.add_zero] at c0
  have HC0 : Hid (∀ u, Below w.heap.size w u → u.cell? ⟨b, off, none⟩ = some (.int .u8 (l.getD 0 0))) := hidden fun u hu => (hu.cell (p := ⟨b, off, none⟩) hbl).trans c0
  have hk0 := hs.wf.getD 0
  have hN := rdN_bound l hs.wf 2 2
  have hG4 := rdN_bound l hs.wf 4 2
  obtain ⟨N, hNe⟩ := Int.eq_ofNat_of_zero_le hN.1
  obtain ⟨G, hGe⟩ := Int.eq_ofNat_of_zero_le hG4.1
  obtain ⟨E, hEe⟩ : ∃ E, n - 4 = E := ⟨_, rfl⟩
  have hEI : (n : Int) - 4 = (E : Int) := by omega
  obtain ⟨SL, hSL⟩ : ∃ SL, 6 + G = SL := ⟨_, rfl⟩
  have hSLI : 6 + (G : Int) = (SL : Int) := by omega
  obtain ⟨F, hF⟩ : ∃ F, SL + N * 2 = F := ⟨_, rfl⟩
  have hFI : (SL : Int) + (N : Int) * 2 = (F : Int) := by omega
  have HE : Hid (readQ l = (if (E : Int) < (F : Int) then none else (partQ (l.getD 0 0) n ((l.drop 6).take G) N (whl (l.getD 0 0)) none ((l.drop F).take (E - F))).map fun x => ((l.drop 6).take G, x.1))) := by
    refine hidden ?_
    have e1 : frsQ l = (F : Int) := by unfold frsQ; rw [hNe, hGe]; omega
    unfold readQ
    rw [hlen, if_pos ⟨hn, hk⟩, e1, hEI, hNe, hGe, Int.toNat_natCast, Int.toNat_natCast, Int.toNat_natCast, hEe]
  have hNb : N < 65536 := by omega
  have hGb : G < 65536 := by omega
  have HS2 : Hid (Calls Tryz.prog 99 #[.slice (some ⟨b, off, none⟩) n cap, .int .i64 2] w fun e u' => e = .returned (.int .i64 (N : Int)) ∧ Hid (Below w.heap.size w u')) := by
    have := shortAtq_any w (some ⟨b, off, none⟩) n cap 2 l hs (by omega)
    rw [hNe] at this
    refine hidden ((show Calls Tryz.prog 99 #[.slice (some ⟨b, off, none⟩) n cap, .int .i64 2] w _ from this).mono ?_)
    rintro e u' ⟨rfl, q, rfl⟩
    exact ⟨rfl, hidden (bl_dr (Below.refl _ _) _)⟩
  have HS4 : Hid (∀ u, Below w.heap.size w u → Calls Tryz.prog 99 #[.slice (some ⟨b, off, none⟩) n cap, .int .i64 4] u fun e u' => e = .returned (.int .i64 (G : Int)) ∧ Hid (Below w.heap.size w u')) := by
    refine hidden fun u hu => ?_
    have := shortAtq_any u (some ⟨b, off, none⟩) n cap 4 l (hs.on (Nat.le_refl _) hu) (by omega)
    rw [hGe] at this
    refine (show Calls Tryz.prog 99 #[.slice (some ⟨b, off, none⟩) n cap, .int .i64 4] u _ from this).mono ?_
    rintro e u' ⟨rfl, q, rfl⟩
    exact ⟨rfl, hidden (bl_dr hu _)⟩
  obtain ⟨k0, hk0e⟩ : ∃ k0, l.getD 0 0 = k0 := ⟨_, rfl⟩
  rw [hk0e] at c0 hk0 hk HE HC0
  have d1 : decide (pw (n : Int)) = true := decide_eq_true hn
  have d2 : decide (isKd k0) = true := decide_eq_true hk
  have hw0 : IntKind.i64.wrap k0 = k0 := by rw [IntKind.wrap_i64]; omega
  have HPW := hidden hn
  have HKE := hidden hk0e
  have HLEN := hidden hlen
  have HS := hidden hs
  have bN : (N : Int) < 65536 := by omega
  have bG : (G : Int) < 65536 := by omega
  have bE : (E : Int) ≤ 65536 := by omega
  have bS : (SL : Int) ≤ 131072 := by omega
  have bF : (F : Int) ≤ 262144 := by omega
  have k01 := hk0.1
  have k02 := hk0.2
  have hn0 : (0 : Int) < (n : Int) := by omega
  clear hs hc hk hn hNe hGe hN hG4 hk0e hlen hk0 hn2 hbl
  go_enter Tryz.func56, Tryz.ntmps56
  go_wp2_with (first | (go_at_call 28; refine same_call (isSize_any _ _) ?_; rw [d1]) | (go_at_call 27; refine same_call (isKind_any _ _) ?_; rw [d2]) | (go_at_call 99; refine HS2.out.mono ?_; rintro e u1 ⟨rfl, HB1⟩; refine Hid.out ?_))
  apply hidden
  have HS4' := hidden (HS4.out u1 HB1.out)
  clear HS2 HS4 c0
  go_wp2_with (first | (go_at_call 99; refine HS4'.out.mono ?_; rintro e u2 ⟨rfl, HB2⟩; refine Hid.out ?_))
  apply hidden
  clear HS4' HB1
  by_cases h1 : (E : Int) < (F : Int)
  · have HNO : Hid (readQ l = none) := hidden (by rw [HE.out, if_pos h1])
    go_wp2
    go_ret
    exact ReadQ.no HB2.out HNO.out
  · obtain ⟨bn, hbn⟩ : ∃ bn, E - F = bn := ⟨_, rfl⟩
    obtain ⟨BD, hBD⟩ : ∃ BD, (l.drop F).take (E - F) = BD := ⟨_, rfl⟩
    obtain ⟨P, hP⟩ : ∃ P, (l.drop 6).take G = P := ⟨_, rfl⟩
    have HRM : Hid (readQ l = (partQ k0 n P N (whl k0) none BD).map fun x => (P, x.1)) := hidden (by rw [HE.out, if_neg h1, hBD, hP])
    have HBL : Hid (BD.length = bn) := hidden (by rw [← hBD, List.length_take, List.length_drop, HLEN.out]; omega)
    have HPL : Hid (P.length = G) := hidden (by rw [← hP, List.length_take, List.length_drop, HLEN.out]; omega)
    have HBW : Hid (Wf BD) := hidden (by rw [← hBD]; exact (HS.out.wf.drop _).take _)
    have HPWF : Hid (Wf P) := hidden (by rw [← hP]; exact (HS.out.wf.drop _).take _)
    have e0 : F ≤ E := by omega
    have e1 : (F : Int) ≤ (E : Int) := by omega
    have e2 : E ≤ cap := by omega
    have e3 : (E : Int) ≤ (cap : Int) := by omega
    have e4 : ¬ cap = F := by omega
    have e5 : 6 ≤ SL := by omega
    have e6 : (6 : Int) ≤ (SL : Int) := by omega
    have e7 : SL ≤ cap := by omega
    have e8 : (SL : Int) ≤ (cap : Int) := by omega
    have e9 : ¬ cap = 6 := by omega
    have eA : SL - 6 = G := by omega
    have eB : ¬ cap - 6 = 0 := by omega
    have eC : ¬ cap - F = 0 := by omega
    have HCN : Hid (∀ (X : List Int) (o m c : Nat) u, ((X = P ∧ o = off + 6 ∧ m = G ∧ c = cap - 6) ∨ (X = BD ∧ o = off + F ∧ m = bn ∧ c = cap - F)) → Below w.heap.size w u → Calls Tryz.prog 100 #[.slice (some ⟨b, o, none⟩) m c] u fun e u' => ∃ g c', e = .returned (.slice (some ⟨g, 0, none⟩) m c') ∧ u'.cell? ⟨b, off, none⟩ = some (.int .u8 k0) ∧ Hid (Cl1 w u u' X g m c') ∧ Hid (Below w.heap.size w u')) := by
      refine hidden fun X o m c u hX hu => ?_
      have hsl : Sl u (some ⟨b, o, none⟩) m c X := by
        have hsu := HS.out.on (Nat.le_refl _) hu
        rcases hX with ⟨x1, x2, x3, x4⟩ | ⟨x1, x2, x3, x4⟩
        · rw [x1, x2, x3, x4, ← hP]
          exact hsu.piece 6 G (cap - 6) (by omega) (by omega)
        · rw [x1, x2, x3, x4, ← hBD, hbn]
          exact hsu.piece F bn (cap - F) (by omega) (by omega)
      refine (clone_any _ m c X u hsl).mono ?_
      rintro e u' ⟨g, c', rfl, HO, HB⟩
      have hb := bl_go hu (Nat.le_refl _) HB.out
      exact ⟨g, c', rfl, HC0.out u' hb, hidden ⟨HO.out.1.low hu.size, HO.out.2.1, HO.out.2.2, HB.out⟩, hidden hb⟩
    have hn0N : 0 < n := by omega
    have c0 := HC0.out u2 HB2.out
    have hbn2 : bn ≤ 65536 := by omega
    clear hBD hP HE
    go_upto_region 8 with fail
    go_cut [7] from 35 to 51 (fun v u => ∃ a gp pc gb bc, v = .pointer (some ⟨a, 0, none⟩) ∧ Hid (Rz w u a k0 n gp G pc gb bn bc P BD))
    case first =>
      go_wp2_with fail
      refine wp_region_held_drew (S := (fun u => u.cell? ⟨b, off, none⟩ = some (.int .u8 k0))) (by kernel_rfl) (HC0.out _ HB2.out.drew) (fun hHeld => ?_)
      refine wpAnyH_take (i := 0) (v := ?_) rfl (by kernel_rfl) (by kernel_rfl) (by kernel_rfl) (fun _ _ _ h => h) (Or.inl ⟨by rfl, ?_⟩) (by assumption) ?_
      rotate_left
      · (intro w hSw; (try dsimp only at hSw); go_simp; try (with_reducible rfl))
      try simp only [Act.put, List.getElem_toArray, List.getElem_cons_zero, List.setIfInBounds_toArray, List.set_cons_zero, List.set_cons_succ]
      refine wpAnyH_take (i := 1) (v := ?_) rfl (by kernel_rfl) (by kernel_rfl) (by kernel_rfl) (fun _ _ _ h => h) (Or.inl ⟨by rfl, ?_⟩) (by assumption) ?_
      rotate_left
      · (intro w hSw; (try dsimp only at hSw); go_simp; try (with_reducible rfl))
      try simp only [Act.put, List.getElem_toArray, List.getElem_cons_succ, List.getElem_cons_zero, List.setIfInBounds_toArray, List.set_cons_zero, List.set_cons_succ]
      refine wpAnyH_take (i := 2) (v := ?_) rfl (by kernel_rfl) (by kernel_rfl) (by kernel_rfl) (fun _ _ _ h => h) (Or.inl ⟨by rfl, ?_⟩) (by assumption) ?_
      rotate_left
      · (intro w hSw; (try dsimp only at hSw); go_simp; try (with_reducible rfl))
      try simp only [Act.put, List.getElem_toArray, List.getElem_cons_succ, List.getElem_cons_zero, List.setIfInBounds_toArray, List.set_cons_zero, List.set_cons_succ]
      refine wpAnyH_take (i := 3) (v := ?_) rfl (by kernel_rfl) (by kernel_rfl) (by kernel_rfl) (fun _ _ _ h => h) (Or.inl ⟨by rfl, ?_⟩) (by assumption) ?_
      rotate_left
      · (intro w hSw; (try dsimp only at hSw); go_simp; try (with_reducible rfl))
      try simp only [Act.put, List.getElem_toArray, List.getElem_cons_succ, List.getElem_cons_zero, List.setIfInBounds_toArray, List.set_cons_zero, List.set_cons_succ]
      refine wpAnyH_take (i := 4) (v := ?_) rfl (by kernel_rfl) (by kernel_rfl) (by kernel_rfl) (fun _ _ _ h => h) (Or.inl ⟨by rfl, ?_⟩) (by assumption) ?_
      rotate_left
      · (intro w hSw; (try dsimp only at hSw); go_simp; try (with_reducible rfl))
      try simp only [Act.put, List.getElem_toArray, List.getElem_cons_succ, List.getElem_cons_zero, List.setIfInBounds_toArray, List.set_cons_zero, List.set_cons_succ]
      refine wpAnyH_take (i := 5) (v := ?_) rfl (by kernel_rfl) (by kernel_rfl) (by kernel_rfl) (fun _ _ _ h => h) (Or.inl ⟨by rfl, ?_⟩) (by assumption) ?_
      rotate_left
      · (intro w hSw; (try dsimp only at hSw); go_simp; try (with_reducible rfl))
      try simp only [Act.put, List.getElem_toArray, List.getElem_cons_succ, List.getElem_cons_zero, List.setIfInBounds_toArray, List.set_cons_zero, List.set_cons_succ]
      refine wpAnyH_take (i := 6) (v := ?_) rfl (by kernel_rfl) (by kernel_rfl) (by kernel_rfl) (fun _ _ _ h => h) (Or.inl ⟨by rfl, ?_⟩) (by assumption) ?_
      rotate_left
      · (intro w hSw; (try dsimp only at hSw); go_simp; try (with_reducible rfl))
      try simp only [Act.put, List.getElem_toArray, List.getElem_cons_succ, List.getElem_cons_zero, List.setIfInBounds_toArray, List.set_cons_zero, List.set_cons_succ]
      refine wpAnyH_take (i := 7) (v := ?_) rfl (by kernel_rfl) (by kernel_rfl) (by kernel_rfl) (fun _ _ _ h => h) (Or.inl ⟨by rfl, ?_⟩) (by assumption) ?_
      rotate_left
      · (intro w hSw; (try dsimp only at hSw); go_simp; try (with_reducible rfl))
      try simp only [Act.put, List.getElem_toArray, List.getElem_cons_succ, List.getElem_cons_zero, List.setIfInBounds_toArray, List.set_cons_zero, List.set_cons_succ]
      refine wpAnyH_take (i := 8) (v := ?_) rfl (by kernel_rfl) (by kernel_rfl) (by kernel_rfl) (fun _ _ _ h => h) (Or.inl ⟨by rfl, ?_⟩) (by assumption) ?_
      rotate_left
      · (intro w hSw; (try dsimp only at hSw); go_simp; try (with_reducible rfl))
      try simp only [Act.put, List.getElem_toArray, List.getElem_cons_succ, List.getElem_cons_zero, List.setIfInBounds_toArray, List.set_cons_zero, List.set_cons_succ]
      refine wpAnyH_take (i := 10) (v := ?_) rfl (by kernel_rfl) (by kernel_rfl) (by kernel_rfl) (fun _ _ _ h => h) (Or.inl ⟨by rfl, ?_⟩) (by assumption) ?_
      rotate_left
      · (intro w hSw; (try dsimp only at hSw); go_simp; try (with_reducible rfl))
      try simp only [Act.put, List.getElem_toArray, List.getElem_cons_succ, List.getElem_cons_zero, List.setIfInBounds_toArray, List.set_cons_zero, List.set_cons_succ]
      refine wpAnyH_take (i := 11) (v := ?_) rfl (by kernel_rfl) (by kernel_rfl) (by kernel_rfl) (fun _ _ _ h => h) (Or.inl ⟨by rfl, ?_⟩) (by assumption) ?_
      rotate_left
      · (intro w hSw; (try dsimp only at hSw); go_simp; try (with_reducible rfl))
      try simp only [Act.put, List.getElem_toArray, List.getElem_cons_succ, List.getElem_cons_zero, List.setIfInBounds_toArray, List.set_cons_zero, List.set_cons_succ]
      refine wpAnyH_take (i := 12) (v := ?_) rfl (by kernel_rfl) (by kernel_rfl) (by kernel_rfl) (fun _ _ _ h => h) (Or.inl ⟨by rfl, ?_⟩) (by assumption) ?_
      rotate_left
      · (intro w hSw; (try dsimp only at hSw); go_simp; try (with_reducible rfl))
      try simp only [Act.put, List.getElem_toArray, List.getElem_cons_succ, List.getElem_cons_zero, List.setIfInBounds_toArray, List.set_cons_zero, List.set_cons_succ]
      refine wpAnyH_take (i := 13) (v := ?_) rfl (by kernel_rfl) (by kernel_rfl) (by kernel_rfl) (fun _ _ _ h => h) (Or.inl ⟨by rfl, ?_⟩) (by assumption) ?_
      rotate_left
      · (intro w hSw; (try dsimp only at hSw); go_simp; try (with_reducible rfl))
      try simp only [Act.put, List.getElem_toArray, List.getElem_cons_succ, List.getElem_cons_zero, List.setIfInBounds_toArray, List.set_cons_zero, List.set_cons_succ]
      refine wpAnyH_ready (rs := [9]) (by kernel_rfl) (by simp) ?_
      refine AllReadyH.cons rfl (fun K hK => ?_) AllReadyH.nil
      · go_simp
        go_at_call 100
        refine (HCN.out P (off + 6) G (cap - 6) _ (.inl ⟨rfl, rfl, rfl, rfl⟩) (by first | exact HB2.out | exact HB2.out.drew | exact bl_dr HB2.out _)).mono ?_
        rintro e u3 ⟨g1, c1, rfl, z1, HQ1, HX1⟩
        dsimp only
        refine hK.out _ _ z1 (fun hHeld => ?_)
        clear hK K
        try simp only [Act.put, List.getElem_toArray, List.getElem_cons_succ, List.getElem_cons_zero, List.setIfInBounds_toArray, List.set_cons_zero, List.set_cons_succ]
        refine wpAnyH_ready (rs := [14]) (by kernel_rfl) (by simp) ?_
        refine AllReadyH.cons rfl (fun K hK => ?_) AllReadyH.nil
        go_simp
        go_at_call 100
        refine (HCN.out BD (off + F) bn (cap - F) _ (.inr ⟨rfl, rfl, rfl, rfl⟩) HX1.out).mono ?_
        rintro e u4 ⟨g2, c2, rfl, z2, HQ2, HX2⟩
        dsimp only
        refine hK.out _ _ z2 (fun hHeld => ?_)
        clear hK K
        try simp only [Act.put, List.getElem_toArray, List.getElem_cons_succ, List.getElem_cons_zero, List.setIfInBounds_toArray, List.set_cons_zero, List.set_cons_succ]
        refine wpAnyH_take (i := 15) (v := ?_) rfl (by kernel_rfl) (by kernel_rfl) (by kernel_rfl) (fun _ _ _ h => h) (Or.inl ⟨by rfl, ?_⟩) (by assumption) ?_
        rotate_left
        · (intro w hSw; (try dsimp only at hSw); go_simp; try (with_reducible rfl))
        try simp only [Act.put, List.getElem_toArray, List.getElem_cons_succ, List.getElem_cons_zero, List.setIfInBounds_toArray, List.set_cons_zero, List.set_cons_succ]
        refine wpAnyH_ready (rs := [16]) (by kernel_rfl) (by simp) ?_
        refine AllReadyH.cons rfl (fun K hK => ?_) AllReadyH.nil
        go_simp
        refine hK.out _ _ (HC0.out _ (bl_al HX2.out (Nat.le_refl _) _)) (fun hHeld => ?_)
        clear hK K
        try simp only [Act.put, List.getElem_toArray, List.getElem_cons_succ, List.getElem_cons_zero, List.setIfInBounds_toArray, List.set_cons_zero, List.set_cons_succ]
        refine wpAnyH_take (i := 17) (v := ?_) rfl (by kernel_rfl) (by kernel_rfl) (by kernel_rfl) (fun _ _ _ h => h) (Or.inl ⟨by rfl, ?_⟩) (by assumption) ?_
        rotate_left
        · (intro w hSw; (try dsimp only at hSw); go_simp; try (with_reducible rfl))
        try simp only [Act.put, List.getElem_toArray, List.getElem_cons_succ, List.getElem_cons_zero, List.setIfInBounds_toArray, List.set_cons_zero, List.set_cons_succ]
        refine wpAnyH_done (by kernel_rfl) ?_ _
        try go_wp2_with fail
        go_meet
        exact ⟨_, g1, c1, g2, c2, rfl, hidden (Rz.of (by first | exact HB2.out | exact HB2.out.drew | exact bl_dr HB2.out _) HQ1.out (Below.refl _ _) HQ2.out (Below.refl _ _))⟩
    obtain ⟨a, gp, pc, gb, bc, rfl, HRZ⟩ := hcut
    obtain ⟨u5, hu5⟩ : ∃ u5, u5 = wc := ⟨_, rfl⟩
    subst hu5
    obtain ⟨q1, q2, q3, q4, q5, q6, q7, q8⟩ := HRZ.out
    have hsp : Sl u5 (some ⟨gp, 0, none⟩) G pc P := by
      obtain ⟨x1, x2, x3, x4, _⟩ := q2.sl HPWF.out (by rw [HPL.out]; omega)
      injection x3 with i1 i2 i3
      subst i1 i3
      rwa [HPL.out] at x4
    have hsb : Sl u5 (some ⟨gb, 0, none⟩) bn bc BD := by
      obtain ⟨x1, x2, x3, x4, _⟩ := q3.sl HBW.out (by rw [HBL.out]; omega)
      injection x3 with i1 i2 i3
      subst i1 i3
      rwa [HBL.out] at x4
    have HPT := hidden (partedQ_any N u5 a k0 n (some ⟨gp, 0, none⟩) G pc gb bn bc P BD _ q1 hsp hsb (.inr fun p hp => by injection hp with hp; subst hp; exact q4) q5 HPW.out hbn2 (by omega) (by omega))
    have HSP := hidden hsp
    clear c0 HCN HC0 q1 q2 q3 q4 q5 q6 q7 q8 hsp hsb HB2 e0 e1 e2 e3 e4 e5 e6 e7 e8 e9 eA eB eC
    go_wp2_with (first | (go_at_call 101; refine HPT.out.mono ?_; rintro e u6 ⟨bb, rfl, HC6, HP6⟩; refine Hid.out ?_))
    apply hidden
    obtain ⟨q1, q2, q3, q4, q5, q6, q7, q8⟩ := HRZ.out
    have HBE6 : Hid (Below w.heap.size w u6) := hidden (q8.trans (HC6.out.below q8.size (by intro i hi e; omega)))
    cases bb with
    | true =>
      go_wp2
      go_ret
      rcases HP6.out with ⟨_, cs, vs, h3, h4, h5, h6⟩ | ⟨h3, _⟩
      · refine ⟨some ⟨a, 0, none⟩, rfl, HBE6, hidden (.inr ⟨a, some ⟨gp, 0, none⟩, G, pc, .slice (some ⟨gb, 0, none⟩) (qbd P.length (whl k0) cs).length bc, vs, P, cs, rfl, by rw [HRM.out, h3]; rfl, ?_⟩)⟩
        rw [HKE.out, HLEN.out]
        have hbd : BD.take (qbd P.length (whl k0) cs).length = qbd P.length (whl k0) cs := by
          have := (partQ_inv P HPWF.out _ _ _ _ _ _ HBW.out h3).2.1
          conv => lhs; rw [this]
          exact List.take_left
        have hob : OwnB u6 w.heap.size (.slice (some ⟨gb, 0, none⟩) bn bc) BD := q3.same fun i e => by
          have ei : gb = i := by injection e
          subst ei
          exact HC6.out.block gb (by have := lt_some q1; omega) (by omega)
        have hot := hob.take (qbd P.length (whl k0) cs).length (by rw [← HBL.out]; exact h4)
        rw [hbd] at hot
        refine ⟨h5, HSP.out.cfa HC6.out (.inr fun p hp => by injection hp with hp; subst hp; exact q4), hot, ?_, .inr fun p hp e => ?_, q7⟩
        · have h7 := q8.size
          unfold OwnN at h6 ⊢
          rcases h6.2 with h8 | ⟨g, c, cur, e, hg, r⟩
          · exact ⟨h6.1, .inl h8⟩
          · exact ⟨h6.1, .inr ⟨g, c, cur, e, Nat.le_trans h7 hg, r⟩⟩
        · injection hp with hp
          subst hp
          injection e with e
          exact q6 e.symm
      · cases h3
    | false =>
      go_wp2
      go_ret
      rcases HP6.out with ⟨h3, _⟩ | ⟨_, h3⟩
      · cases h3
      · exact ReadQ.no HBE6.out (by rw [HRM.out, h3]; rfl)
set_option maxRecDepth 100000 in
theorem readQ_any (ao : Option Addr) (n cap : Nat) (l : List Int) (w : World) (hs : Sl w ao n cap l) :
    Calls Tryz.prog 56 #[.slice ao n cap] w fun e w' => ReadQ l w e w' := by
  by_cases hn : pw n
  · by_cases hk : isKd (l.getD 0 0)
    · exact readQ_tail ao n cap l w hs hn hk
    · have hn2 := pw_nat hn
      have hlen := hs.hlen
      obtain ⟨b, off, rfl, hbl, hc⟩ : ∃ b off, ao = some ⟨b, off, none⟩ ∧ b < w.heap.size ∧ ∀ i, i < n → w.cell? ⟨b, off + i, none⟩ = some (.int .u8 (l.getD i 0)) := by
        rcases hs.hat with h | h
        · omega
        · exact h
      have c0 := hc 0 (by omega)
      rw [Nat.add_zero] at c0
      have hk0 := hs.wf.getD 0
      have HNO : Hid (readQ l = none) := hidden (by unfold readQ; rw [if_neg (fun h => hk h.2)])
      have d1 : decide (pw (n : Int)) = true := decide_eq_true hn
      have d2 : decide (isKd (l.getD 0 0)) = false := decide_eq_false hk
      generalize l.getD 0 0 = k0 at *
      have hw0 : IntKind.i64.wrap k0 = k0 := by rw [IntKind.wrap_i64]; omega
      have hn0 : (0 : Int) < (n : Int) := by omega
      have k01 := hk0.1
      have k02 := hk0.2
      clear hs hc hk hn
      go_enter Tryz.func56, Tryz.ntmps56
      go_wp2_with (first | (go_at_call 28; refine same_call (isSize_any _ _) ?_; rw [d1]) | (go_at_call 27; refine same_call (isKind_any _ _) ?_; rw [d2]))
      go_ret
      exact ReadQ.no (Below.refl _ _) HNO.out
  · have hlen := hs.hlen
    have HNO : Hid (readQ l = none) := hidden (by unfold readQ; rw [hlen, if_neg (fun h => hn h.1)])
    have d1 : decide (pw (n : Int)) = false := decide_eq_false hn
    clear hs hn
    go_enter Tryz.func56, Tryz.ntmps56
    go_wp2_with (first | (go_at_call 28; refine same_call (isSize_any _ _) ?_; rw [d1]))
    go_ret
    exact ReadQ.no (Below.refl _ _) HNO.out
end Go.Proofs.YtbefpojdopfeeaaGreatDoor
