/- packed.read. -/
import Derived.Test.YtpjgmepafekhkaaGreatDoorIh
import Derived.Test.YtpjgmepafekhkaaGreatDoorId
namespace Go.Proofs.YtpjgmepafekhkaaGreatDoor
open Go.RowKit

/-- A page that owns its body and its starts. -/
structure PO (w : World) (B a : Nat) (k : Int) (n : Nat) (po : Option Addr) (pn pc : Nat) (vb vs : Value) (ws : Int) (P body : List Int) (st : List Nat) : Prop where
  row : QR w a k n (.slice po pn pc) vb vs ws
  pre : Sl w po pn pc P
  ob : OwnB w B vb body
  on : OwnN w B vs st
  far : Far po pn vb
  ha : B ≤ a
set_option maxRecDepth 100000 in
theorem PO.go {w v : World} {B a : Nat} {k : Int} {n : Nat} {po : Option Addr} {pn pc : Nat} {vb vs : Value} {ws : Int} {P body : List Int} {st : List Nat} (h : PO w B a k n po pn pc vb vs ws P body st) (hb : Below w.heap.size w v) : PO v B a k n po pn pc vb vs ws P body st :=
  ⟨box_on h.row hb, h.pre.on (Nat.le_refl _) hb, h.ob.on (Nat.le_refl _) hb, h.on.below hb, h.far, h.ha⟩
set_option maxRecDepth 100000 in
theorem PO.pg {w : World} {B a : Nat} {k : Int} {n : Nat} {po : Option Addr} {pn pc : Nat} {vb vs : Value} {ws : Int} {P body : List Int} {st : List Nat} (h : PO w B a k n po pn pc vb vs ws P body st) (hw : Wf body) (hb : body.length ≤ 140737488355328) (hs : st.length ≤ 140737488355328) :
    ∃ bo bc so sc, vb = .slice bo body.length bc ∧ vs = .slice so st.length sc ∧ PgQ w a k n po pn pc bo body.length bc so st.length sc ws P body st := by
  obtain ⟨bo, bc, rfl, hbs, _⟩ := h.ob.sl hw hb
  obtain ⟨so, sc, rfl, hss⟩ := h.on.sln hs
  exact ⟨bo, bc, so, sc, rfl, rfl, ⟨h.row, h.pre, hbs, hss⟩⟩
/-- What read comes to. -/
def ReadQ (l : List Int) (w : World) (e : Ending) (w' : World) : Prop :=
  ∃ po, e = .returned (.pointer po) ∧ Hid (Below w.heap.size w w') ∧ Hid ((po = none ∧ readQ l = none) ∨ ∃ a qo qn qc vb vs P cs, po = some ⟨a, 0, none⟩ ∧ readQ l = some (P, cs) ∧ PO w' w.heap.size a (l.getD 0 0) l.length qo qn qc vb vs 0 P (qbd P.length (whl (l.getD 0 0)) cs) (qst P.length (whl (l.getD 0 0)) 0 cs))
set_option maxRecDepth 100000 in
theorem ReadQ.no {l : List Int} {w w' : World} (hb : Below w.heap.size w w') (h : readQ l = none) : ReadQ l w (.returned (.pointer none)) w' := ⟨none, rfl, hidden hb, hidden (.inl ⟨rfl, h⟩)⟩
/-- read, behind the two copies. -/
def Rz (w u : World) (a : Nat) (k0 : Int) (n gp pn pc gb bn bc : Nat) (P BD : List Int) : Prop :=
  QR u a k0 n (.slice (some ⟨gp, 0, none⟩) pn pc) (.slice (some ⟨gb, 0, none⟩) bn bc) (.slice none 0 0) 0 ∧ OwnB u w.heap.size (.slice (some ⟨gp, 0, none⟩) pn pc) P ∧ OwnB u w.heap.size (.slice (some ⟨gb, 0, none⟩) bn bc) BD ∧ gp < a ∧ gb < a ∧ gp ≠ gb ∧ w.heap.size ≤ a ∧ Below w.heap.size w u
/-- What a copy comes to. -/
def Cl1 (w u u' : World) (X : List Int) (g m c : Nat) : Prop := OwnB u' w.heap.size (.slice (some ⟨g, 0, none⟩) m c) X ∧ u.heap.size ≤ g ∧ g < u'.heap.size ∧ Below u.heap.size u u'
set_option maxRecDepth 100000 in
theorem Rz.of {w u0 u1 u2 u3 u4 : World} {k0 : Int} {n gp pn pc gb bn bc : Nat} {P BD : List Int} (h0 : Below w.heap.size w u0) (h1 : Cl1 w u0 u1 P gp pn pc) (h12 : Below u1.heap.size u1 u2) (h2 : Cl1 w u2 u3 BD gb bn bc) (h34 : Below u3.heap.size u3 u4) :
    Rz w (u4.alloc (.cells #[.int .i64 k0, .int .i64 (n : Int), .slice (some ⟨gp, 0, none⟩) pn pc, .slice (some ⟨gb, 0, none⟩) bn bc, .slice none 0 0, .int .i64 0] 72)) u4.heap.size k0 n gp pn pc gb bn bc P BD := by
  obtain ⟨a1, a2, a3, a4⟩ := h1
  obtain ⟨b1, b2, b3, b4⟩ := h2
  have e1 := h12.size
  have e2 := b4.size
  have e3 := h34.size
  have e4 := h0.size
  have hb := bl_al (Below.refl _ u4) (Nat.le_refl _) (.cells #[.int .i64 k0, .int .i64 (n : Int), .slice (some ⟨gp, 0, none⟩) pn pc, .slice (some ⟨gb, 0, none⟩) bn bc, .slice none 0 0, .int .i64 0] 72)
  refine ⟨heap_alloc_last u4 _, ((((a1.on (Nat.le_refl _) h12).on (Nat.le_refl _) b4).on (Nat.le_refl _) h34).on (Nat.le_refl _) hb), (b1.on (Nat.le_refl _) h34).on (Nat.le_refl _) hb, by omega, by omega, by omega, by have := a4.size; omega, ?_⟩
  exact bl_go (bl_go (bl_go (bl_go (bl_go h0 (Nat.le_refl _) a4) (Nat.le_refl _) h12) (Nat.le_refl _) b4) (Nat.le_refl _) h34) (Nat.le_refl _) hb
set_option maxRecDepth 100000 in
theorem Rz.fo {w u0 u1 u2 u3 u4 : World} {k0 : Int} {n gp pn pc gb bn bc : Nat} {P BD : List Int} (h0 : Below w.heap.size w u0) (h1 : Cl1 w u0 u1 BD gb bn bc) (h12 : Below u1.heap.size u1 u2) (h2 : Cl1 w u2 u3 P gp pn pc) (h34 : Below u3.heap.size u3 u4) :
    Rz w (u4.alloc (.cells #[.int .i64 k0, .int .i64 (n : Int), .slice (some ⟨gp, 0, none⟩) pn pc, .slice (some ⟨gb, 0, none⟩) bn bc, .slice none 0 0, .int .i64 0] 72)) u4.heap.size k0 n gp pn pc gb bn bc P BD := by
  obtain ⟨a1, a2, a3, a4⟩ := h1
  obtain ⟨b1, b2, b3, b4⟩ := h2
  have e1 := h12.size
  have e2 := b4.size
  have e3 := h34.size
  have e4 := h0.size
  have hb := bl_al (Below.refl _ u4) (Nat.le_refl _) (.cells #[.int .i64 k0, .int .i64 (n : Int), .slice (some ⟨gp, 0, none⟩) pn pc, .slice (some ⟨gb, 0, none⟩) bn bc, .slice none 0 0, .int .i64 0] 72)
  refine ⟨heap_alloc_last u4 _, (b1.on (Nat.le_refl _) h34).on (Nat.le_refl _) hb, ((((a1.on (Nat.le_refl _) h12).on (Nat.le_refl _) b4).on (Nat.le_refl _) h34).on (Nat.le_refl _) hb), by omega, by omega, by omega, by have := a4.size; omega, ?_⟩
  exact bl_go (bl_go (bl_go (bl_go (bl_go h0 (Nat.le_refl _) a4) (Nat.le_refl _) h12) (Nat.le_refl _) b4) (Nat.le_refl _) h34) (Nat.le_refl _) hb

set_option maxRecDepth 100000 in
set_option maxHeartbeats 4000000 in
theorem readQ_tail (ao : Option Addr) (n cap : Nat) (l : List Int) (w : World) (hs : Sl w ao n cap l) (hn : pw n) (hk : isKd (l.getD 0 0)) :
    Calls Tryz.prog 50 #[.slice ao n cap] w fun e w' => ReadQ l w e w' := by
  have hn2 := pw_nat hn
  have hn3 := hn2.1
  have hn4 := hn2.2
  have hlen := hs.hlen
  have hcap := hs.hcap
  obtain ⟨b, off, rfl, hbl, hc⟩ : ∃ b off, ao = some ⟨b, off, none⟩ ∧ b < w.heap.size ∧ ∀ i, i < n → w.cell? ⟨b, off + i, none⟩ = some (.int .u8 (l.getD i 0)) := by
    rcases hs.hat with h | h
    · omega
    · exact h
  have c0 := hc 0 (by omega)
  rw [Nat.add_zero] at c0
  have HC0 : Hid (∀ u, Below w.heap.size w u → u.cell? ⟨b, off, none⟩ = some (.int .u8 (l.getD 0 0))) := hidden fun u hu => (hu.cell (p := ⟨b, off, none⟩) hbl).trans c0
  have hk0 := hs.wf.getD 0
  have hN := rdN_bound l hs.wf 2 2
  have hG4 := rdN_bound l hs.wf 4 2
  obtain ⟨N, hNe⟩ := Int.eq_ofNat_of_zero_le hN.1
  obtain ⟨G, hGe⟩ := Int.eq_ofNat_of_zero_le hG4.1
  obtain ⟨E, hEe⟩ : ∃ E, n - 4 = E := ⟨_, rfl⟩
  have hEI : (n : Int) - 4 = (E : Int) := by omega
  obtain ⟨SL, hSL⟩ : ∃ SL, 6 + G = SL := ⟨_, rfl⟩
  have hSLI : 6 + (G : Int) = (SL : Int) := by omega
  obtain ⟨F, hF⟩ : ∃ F, SL + N * 2 = F := ⟨_, rfl⟩
  have hFI : (SL : Int) + (N : Int) * 2 = (F : Int) := by omega
  have HE : Hid (readQ l = (if (E : Int) < (F : Int) then none else (partQ (l.getD 0 0) n ((l.drop 6).take G) N (whl (l.getD 0 0)) none ((l.drop F).take (E - F))).map fun x => ((l.drop 6).take G, x.1))) := by
    refine hidden ?_
    have e1 : frsQ l = (F : Int) := by unfold frsQ; rw [hNe, hGe]; omega
    unfold readQ
    rw [hlen, if_pos ⟨hn, hk⟩, e1, hEI, hNe, hGe, Int.toNat_natCast, Int.toNat_natCast, Int.toNat_natCast, hEe]
  have hNb : N < 65536 := by omega
  have hGb : G < 65536 := by omega
  have HS2 : Hid (Calls Tryz.prog 81 #[.slice (some ⟨b, off, none⟩) n cap, .int .i64 2] w fun e u' => e = .returned (.int .i64 (N : Int)) ∧ Hid (Below w.heap.size w u')) := by
    have := shortAt_any w (some ⟨b, off, none⟩) n cap 2 l hs (by omega)
    rw [hNe] at this
    refine hidden ((show Calls Tryz.prog 81 #[.slice (some ⟨b, off, none⟩) n cap, .int .i64 2] w _ from this).mono ?_)
    rintro e u' ⟨rfl, q, rfl⟩
    exact ⟨rfl, hidden (bl_dr (Below.refl _ _) _)⟩
  have HS4 : Hid (∀ u, Below w.heap.size w u → Calls Tryz.prog 81 #[.slice (some ⟨b, off, none⟩) n cap, .int .i64 4] u fun e u' => e = .returned (.int .i64 (G : Int)) ∧ Hid (Below w.heap.size w u')) := by
    refine hidden fun u hu => ?_
    have := shortAt_any u (some ⟨b, off, none⟩) n cap 4 l (hs.on (Nat.le_refl _) hu) (by omega)
    rw [hGe] at this
    refine (show Calls Tryz.prog 81 #[.slice (some ⟨b, off, none⟩) n cap, .int .i64 4] u _ from this).mono ?_
    rintro e u' ⟨rfl, q, rfl⟩
    exact ⟨rfl, hidden (bl_dr hu _)⟩
  obtain ⟨k0, hk0e⟩ : ∃ k0, l.getD 0 0 = k0 := ⟨_, rfl⟩
  rw [hk0e] at c0 hk0 hk HE HC0
  have d1 : decide (pw (n : Int)) = true := decide_eq_true hn
  have d2 : decide (isKd k0) = true := decide_eq_true hk
  have hw0 : IntKind.i64.wrap k0 = k0 := by rw [IntKind.wrap_i64]; omega
  have HPW := hidden hn
  have HKE := hidden hk0e
  have HLEN := hidden hlen
  have HS := hidden hs
  have bN : (N : Int) < 65536 := by omega
  have bG : (G : Int) < 65536 := by omega
  have bE : (E : Int) ≤ 65536 := by omega
  have bS : (SL : Int) ≤ 131072 := by omega
  have bF : (F : Int) ≤ 262144 := by omega
  have k01 := hk0.1
  have k02 := hk0.2
  have hn0 : (0 : Int) < (n : Int) := by omega
  clear hs hc hk hn hNe hGe hN hG4 hk0e hlen hk0 hn2 hbl
  go_enter Tryz.func50, Tryz.ntmps50
  go_wp2_with (first | (go_at_call 29; refine same_call (isSize_any _ _) ?_; rw [d1]) | (go_at_call 28; refine same_call (isKind_any _ _) ?_; rw [d2]) | (go_at_call 81; refine HS2.out.mono ?_; rintro e u1 ⟨rfl, HB1⟩; refine Hid.out ?_))
  apply hidden
  have HS4' := hidden (HS4.out u1 HB1.out)
  clear HS2 HS4 c0
  go_wp2_with (first | (go_at_call 81; refine HS4'.out.mono ?_; rintro e u2 ⟨rfl, HB2⟩; refine Hid.out ?_))
  apply hidden
  clear HS4' HB1
  by_cases h1 : (E : Int) < (F : Int)
  · have HNO : Hid (readQ l = none) := hidden (by rw [HE.out, if_pos h1])
    go_wp2
    go_ret
    exact ReadQ.no HB2.out HNO.out
  · obtain ⟨bn, hbn⟩ : ∃ bn, E - F = bn := ⟨_, rfl⟩
    obtain ⟨BD, hBD⟩ : ∃ BD, (l.drop F).take (E - F) = BD := ⟨_, rfl⟩
    obtain ⟨P, hP⟩ : ∃ P, (l.drop 6).take G = P := ⟨_, rfl⟩
    have HRM : Hid (readQ l = (partQ k0 n P N (whl k0) none BD).map fun x => (P, x.1)) := hidden (by rw [HE.out, if_neg h1, hBD, hP])
    have HBL : Hid (BD.length = bn) := hidden (by rw [← hBD, List.length_take, List.length_drop, HLEN.out]; omega)
    have HPL : Hid (P.length = G) := hidden (by rw [← hP, List.length_take, List.length_drop, HLEN.out]; omega)
    have HBW : Hid (Wf BD) := hidden (by rw [← hBD]; exact (HS.out.wf.drop _).take _)
    have HPWF : Hid (Wf P) := hidden (by rw [← hP]; exact (HS.out.wf.drop _).take _)
    have e0 : F ≤ E := by omega
    have e1 : (F : Int) ≤ (E : Int) := by omega
    have e2 : E ≤ cap := by omega
    have e3 : (E : Int) ≤ (cap : Int) := by omega
    have e4 : ¬ cap = F := by omega
    have e5 : 6 ≤ SL := by omega
    have e6 : (6 : Int) ≤ (SL : Int) := by omega
    have e7 : SL ≤ cap := by omega
    have e8 : (SL : Int) ≤ (cap : Int) := by omega
    have e9 : ¬ cap = 6 := by omega
    have eA : SL - 6 = G := by omega
    have eB : ¬ cap - 6 = 0 := by omega
    have eC : ¬ cap - F = 0 := by omega
    have HCN : Hid (∀ (X : List Int) (o m c : Nat) u, ((X = P ∧ o = off + 6 ∧ m = G ∧ c = cap - 6) ∨ (X = BD ∧ o = off + F ∧ m = bn ∧ c = cap - F)) → Below w.heap.size w u → Calls Tryz.prog 82 #[.slice (some ⟨b, o, none⟩) m c] u fun e u' => ∃ g c', e = .returned (.slice (some ⟨g, 0, none⟩) m c') ∧ u'.cell? ⟨b, off, none⟩ = some (.int .u8 k0) ∧ Hid (Cl1 w u u' X g m c') ∧ Hid (Below w.heap.size w u')) := by
      refine hidden fun X o m c u hX hu => ?_
      have hsl : Sl u (some ⟨b, o, none⟩) m c X := by
        have hsu := HS.out.on (Nat.le_refl _) hu
        rcases hX with ⟨x1, x2, x3, x4⟩ | ⟨x1, x2, x3, x4⟩
        · rw [x1, x2, x3, x4, ← hP]
          exact hsu.piece 6 G (cap - 6) (by omega) (by omega)
        · rw [x1, x2, x3, x4, ← hBD, hbn]
          exact hsu.piece F bn (cap - F) (by omega) (by omega)
      refine (clone_any _ m c X u hsl).mono ?_
      rintro e u' ⟨g, c', rfl, HO, HB⟩
      have hb := bl_go hu (Nat.le_refl _) HB.out
      exact ⟨g, c', rfl, HC0.out u' hb, hidden ⟨HO.out.1.low hu.size, HO.out.2.1, HO.out.2.2, HB.out⟩, hidden hb⟩
    have hn0N : 0 < n := by omega
    have c0 := HC0.out u2 HB2.out
    have hbn2 : bn ≤ 65536 := by omega
    clear hBD hP HE
    go_upto_region 8 with fail
    go_cut [7] from 35 to 51 (fun v u => ∃ a gp pc gb bc, v = .pointer (some ⟨a, 0, none⟩) ∧ Hid (Rz w u a k0 n gp G pc gb bn bc P BD))
    case first =>
      go_wp2_with fail
      refine wp_region_held_drew (S := (fun u => u.cell? ⟨b, off, none⟩ = some (.int .u8 k0))) (by kernel_rfl) (HC0.out _ HB2.out.drew) (fun hHeld => ?_)
      refine wpAnyH_take (i := 0) (v := ?_) rfl (by kernel_rfl) (by kernel_rfl) (by kernel_rfl) (fun _ _ _ h => h) (Or.inl ⟨by rfl, ?_⟩) (by assumption) ?_
      rotate_left
      · (intro w hSw; (try dsimp only at hSw); go_simp; try (with_reducible rfl))
      try simp only [Act.put, List.getElem_toArray, List.getElem_cons_zero, List.setIfInBounds_toArray, List.set_cons_zero, List.set_cons_succ]
      refine wpAnyH_take (i := 1) (v := ?_) rfl (by kernel_rfl) (by kernel_rfl) (by kernel_rfl) (fun _ _ _ h => h) (Or.inl ⟨by rfl, ?_⟩) (by assumption) ?_
      rotate_left
      · (intro w hSw; (try dsimp only at hSw); go_simp; try (with_reducible rfl))
      try simp only [Act.put, List.getElem_toArray, List.getElem_cons_succ, List.getElem_cons_zero, List.setIfInBounds_toArray, List.set_cons_zero, List.set_cons_succ]
      refine wpAnyH_take (i := 2) (v := ?_) rfl (by kernel_rfl) (by kernel_rfl) (by kernel_rfl) (fun _ _ _ h => h) (Or.inl ⟨by rfl, ?_⟩) (by assumption) ?_
      rotate_left
      · (intro w hSw; (try dsimp only at hSw); go_simp; try (with_reducible rfl))
      try simp only [Act.put, List.getElem_toArray, List.getElem_cons_succ, List.getElem_cons_zero, List.setIfInBounds_toArray, List.set_cons_zero, List.set_cons_succ]
      refine wpAnyH_take (i := 3) (v := ?_) rfl (by kernel_rfl) (by kernel_rfl) (by kernel_rfl) (fun _ _ _ h => h) (Or.inl ⟨by rfl, ?_⟩) (by assumption) ?_
      rotate_left
      · (intro w hSw; (try dsimp only at hSw); go_simp; try (with_reducible rfl))
      try simp only [Act.put, List.getElem_toArray, List.getElem_cons_succ, List.getElem_cons_zero, List.setIfInBounds_toArray, List.set_cons_zero, List.set_cons_succ]
      refine wpAnyH_take (i := 4) (v := ?_) rfl (by kernel_rfl) (by kernel_rfl) (by kernel_rfl) (fun _ _ _ h => h) (Or.inl ⟨by rfl, ?_⟩) (by assumption) ?_
      rotate_left
      · (intro w hSw; (try dsimp only at hSw); go_simp; try (with_reducible rfl))
      try simp only [Act.put, List.getElem_toArray, List.getElem_cons_succ, List.getElem_cons_zero, List.setIfInBounds_toArray, List.set_cons_zero, List.set_cons_succ]
      refine wpAnyH_take (i := 5) (v := ?_) rfl (by kernel_rfl) (by kernel_rfl) (by kernel_rfl) (fun _ _ _ h => h) (Or.inl ⟨by rfl, ?_⟩) (by assumption) ?_
      rotate_left
      · (intro w hSw; (try dsimp only at hSw); go_simp; try (with_reducible rfl))
      try simp only [Act.put, List.getElem_toArray, List.getElem_cons_succ, List.getElem_cons_zero, List.setIfInBounds_toArray, List.set_cons_zero, List.set_cons_succ]
      refine wpAnyH_take (i := 6) (v := ?_) rfl (by kernel_rfl) (by kernel_rfl) (by kernel_rfl) (fun _ _ _ h => h) (Or.inl ⟨by rfl, ?_⟩) (by assumption) ?_
      rotate_left
      · (intro w hSw; (try dsimp only at hSw); go_simp; try (with_reducible rfl))
      try simp only [Act.put, List.getElem_toArray, List.getElem_cons_succ, List.getElem_cons_zero, List.setIfInBounds_toArray, List.set_cons_zero, List.set_cons_succ]
      refine wpAnyH_take (i := 7) (v := ?_) rfl (by kernel_rfl) (by kernel_rfl) (by kernel_rfl) (fun _ _ _ h => h) (Or.inl ⟨by rfl, ?_⟩) (by assumption) ?_
      rotate_left
      · (intro w hSw; (try dsimp only at hSw); go_simp; try (with_reducible rfl))
      try simp only [Act.put, List.getElem_toArray, List.getElem_cons_succ, List.getElem_cons_zero, List.setIfInBounds_toArray, List.set_cons_zero, List.set_cons_succ]
      refine wpAnyH_take (i := 8) (v := ?_) rfl (by kernel_rfl) (by kernel_rfl) (by kernel_rfl) (fun _ _ _ h => h) (Or.inl ⟨by rfl, ?_⟩) (by assumption) ?_
      rotate_left
      · (intro w hSw; (try dsimp only at hSw); go_simp; try (with_reducible rfl))
      try simp only [Act.put, List.getElem_toArray, List.getElem_cons_succ, List.getElem_cons_zero, List.setIfInBounds_toArray, List.set_cons_zero, List.set_cons_succ]
      refine wpAnyH_take (i := 10) (v := ?_) rfl (by kernel_rfl) (by kernel_rfl) (by kernel_rfl) (fun _ _ _ h => h) (Or.inl ⟨by rfl, ?_⟩) (by assumption) ?_
      rotate_left
      · (intro w hSw; (try dsimp only at hSw); go_simp; try (with_reducible rfl))
      try simp only [Act.put, List.getElem_toArray, List.getElem_cons_succ, List.getElem_cons_zero, List.setIfInBounds_toArray, List.set_cons_zero, List.set_cons_succ]
      refine wpAnyH_take (i := 11) (v := ?_) rfl (by kernel_rfl) (by kernel_rfl) (by kernel_rfl) (fun _ _ _ h => h) (Or.inl ⟨by rfl, ?_⟩) (by assumption) ?_
      rotate_left
      · (intro w hSw; (try dsimp only at hSw); go_simp; try (with_reducible rfl))
      try simp only [Act.put, List.getElem_toArray, List.getElem_cons_succ, List.getElem_cons_zero, List.setIfInBounds_toArray, List.set_cons_zero, List.set_cons_succ]
      refine wpAnyH_take (i := 12) (v := ?_) rfl (by kernel_rfl) (by kernel_rfl) (by kernel_rfl) (fun _ _ _ h => h) (Or.inl ⟨by rfl, ?_⟩) (by assumption) ?_
      rotate_left
      · (intro w hSw; (try dsimp only at hSw); go_simp; try (with_reducible rfl))
      try simp only [Act.put, List.getElem_toArray, List.getElem_cons_succ, List.getElem_cons_zero, List.setIfInBounds_toArray, List.set_cons_zero, List.set_cons_succ]
      refine wpAnyH_take (i := 13) (v := ?_) rfl (by kernel_rfl) (by kernel_rfl) (by kernel_rfl) (fun _ _ _ h => h) (Or.inl ⟨by rfl, ?_⟩) (by assumption) ?_
      rotate_left
      · (intro w hSw; (try dsimp only at hSw); go_simp; try (with_reducible rfl))
      try simp only [Act.put, List.getElem_toArray, List.getElem_cons_succ, List.getElem_cons_zero, List.setIfInBounds_toArray, List.set_cons_zero, List.set_cons_succ]
      refine wpAnyH_ready (rs := [9]) (by kernel_rfl) (by simp) ?_
      refine AllReadyH.cons rfl (fun K hK => ?_) AllReadyH.nil
      · go_simp
        go_at_call 82
        refine (HCN.out P (off + 6) G (cap - 6) _ (.inl ⟨rfl, rfl, rfl, rfl⟩) (by first | exact HB2.out | exact HB2.out.drew | exact bl_dr HB2.out _)).mono ?_
        rintro e u3 ⟨g1, c1, rfl, z1, HQ1, HX1⟩
        dsimp only
        refine hK.out _ _ z1 (fun hHeld => ?_)
        clear hK K
        try simp only [Act.put, List.getElem_toArray, List.getElem_cons_succ, List.getElem_cons_zero, List.setIfInBounds_toArray, List.set_cons_zero, List.set_cons_succ]
        refine wpAnyH_ready (rs := [14]) (by kernel_rfl) (by simp) ?_
        refine AllReadyH.cons rfl (fun K hK => ?_) AllReadyH.nil
        go_simp
        go_at_call 82
        refine (HCN.out BD (off + F) bn (cap - F) _ (.inr ⟨rfl, rfl, rfl, rfl⟩) HX1.out).mono ?_
        rintro e u4 ⟨g2, c2, rfl, z2, HQ2, HX2⟩
        dsimp only
        refine hK.out _ _ z2 (fun hHeld => ?_)
        clear hK K
        try simp only [Act.put, List.getElem_toArray, List.getElem_cons_succ, List.getElem_cons_zero, List.setIfInBounds_toArray, List.set_cons_zero, List.set_cons_succ]
        refine wpAnyH_take (i := 15) (v := ?_) rfl (by kernel_rfl) (by kernel_rfl) (by kernel_rfl) (fun _ _ _ h => h) (Or.inl ⟨by rfl, ?_⟩) (by assumption) ?_
        rotate_left
        · (intro w hSw; (try dsimp only at hSw); go_simp; try (with_reducible rfl))
        try simp only [Act.put, List.getElem_toArray, List.getElem_cons_succ, List.getElem_cons_zero, List.setIfInBounds_toArray, List.set_cons_zero, List.set_cons_succ]
        refine wpAnyH_ready (rs := [16]) (by kernel_rfl) (by simp) ?_
        refine AllReadyH.cons rfl (fun K hK => ?_) AllReadyH.nil
        go_simp
        refine hK.out _ _ (HC0.out _ (bl_al HX2.out (Nat.le_refl _) _)) (fun hHeld => ?_)
        clear hK K
        try simp only [Act.put, List.getElem_toArray, List.getElem_cons_succ, List.getElem_cons_zero, List.setIfInBounds_toArray, List.set_cons_zero, List.set_cons_succ]
        refine wpAnyH_take (i := 17) (v := ?_) rfl (by kernel_rfl) (by kernel_rfl) (by kernel_rfl) (fun _ _ _ h => h) (Or.inl ⟨by rfl, ?_⟩) (by assumption) ?_
        rotate_left
        · (intro w hSw; (try dsimp only at hSw); go_simp; try (with_reducible rfl))
        try simp only [Act.put, List.getElem_toArray, List.getElem_cons_succ, List.getElem_cons_zero, List.setIfInBounds_toArray, List.set_cons_zero, List.set_cons_succ]
        refine wpAnyH_done (by kernel_rfl) ?_ _
        try go_wp2_with fail
        go_meet
        exact ⟨_, g1, c1, g2, c2, rfl, hidden (Rz.of (by first | exact HB2.out | exact HB2.out.drew | exact bl_dr HB2.out _) HQ1.out (Below.refl _ _) HQ2.out (Below.refl _ _))⟩
    obtain ⟨a, gp, pc, gb, bc, rfl, HRZ⟩ := hcut
    obtain ⟨u5, hu5⟩ : ∃ u5, u5 = wc := ⟨_, rfl⟩
    subst hu5
    obtain ⟨q1, q2, q3, q4, q5, q6, q7, q8⟩ := HRZ.out
    have hsp : Sl u5 (some ⟨gp, 0, none⟩) G pc P := by
      obtain ⟨x1, x2, x3, x4, _⟩ := q2.sl HPWF.out (by rw [HPL.out]; omega)
      injection x3 with i1 i2 i3
      subst i1 i3
      rwa [HPL.out] at x4
    have hsb : Sl u5 (some ⟨gb, 0, none⟩) bn bc BD := by
      obtain ⟨x1, x2, x3, x4, _⟩ := q3.sl HBW.out (by rw [HBL.out]; omega)
      injection x3 with i1 i2 i3
      subst i1 i3
      rwa [HBL.out] at x4
    have HPT := hidden (partedQ_any N u5 a k0 n (some ⟨gp, 0, none⟩) G pc gb bn bc P BD _ q1 hsp hsb (.inr fun p hp => by injection hp with hp; subst hp; exact q4) q5 HPW.out hbn2 (by omega) (by omega))
    have HSP := hidden hsp
    clear c0 HCN HC0 q1 q2 q3 q4 q5 q6 q7 q8 hsp hsb HB2 e0 e1 e2 e3 e4 e5 e6 e7 e8 e9 eA eB eC
    go_wp2_with (first | (go_at_call 83; refine HPT.out.mono ?_; rintro e u6 ⟨bb, rfl, HC6, HP6⟩; refine Hid.out ?_))
    apply hidden
    obtain ⟨q1, q2, q3, q4, q5, q6, q7, q8⟩ := HRZ.out
    have HBE6 : Hid (Below w.heap.size w u6) := hidden (q8.trans (HC6.out.below q8.size (by intro i hi e; omega)))
    cases bb with
    | true =>
      go_wp2
      go_ret
      rcases HP6.out with ⟨_, cs, vs, h3, h4, h5, h6⟩ | ⟨h3, _⟩
      · refine ⟨some ⟨a, 0, none⟩, rfl, HBE6, hidden (.inr ⟨a, some ⟨gp, 0, none⟩, G, pc, .slice (some ⟨gb, 0, none⟩) (qbd P.length (whl k0) cs).length bc, vs, P, cs, rfl, by rw [HRM.out, h3]; rfl, ?_⟩)⟩
        rw [HKE.out, HLEN.out]
        have hbd : BD.take (qbd P.length (whl k0) cs).length = qbd P.length (whl k0) cs := by
          have := (partQ_inv P HPWF.out _ _ _ _ _ _ HBW.out h3).2.1
          conv => lhs; rw [this]
          exact List.take_left
        have hob : OwnB u6 w.heap.size (.slice (some ⟨gb, 0, none⟩) bn bc) BD := q3.same fun i e => by
          have ei : gb = i := by injection e
          subst ei
          exact HC6.out.block gb (by have := lt_some q1; omega) (by omega)
        have hot := hob.take (qbd P.length (whl k0) cs).length (by rw [← HBL.out]; exact h4)
        rw [hbd] at hot
        refine ⟨h5, HSP.out.cfa HC6.out (.inr fun p hp => by injection hp with hp; subst hp; exact q4), hot, ?_, .inr fun p hp e => ?_, q7⟩
        · have h7 := q8.size
          unfold OwnN at h6 ⊢
          rcases h6.2 with h8 | ⟨g, c, cur, e, hg, r⟩
          · exact ⟨h6.1, .inl h8⟩
          · exact ⟨h6.1, .inr ⟨g, c, cur, e, Nat.le_trans h7 hg, r⟩⟩
        · injection hp with hp
          subst hp
          injection e with e
          exact q6 e.symm
      · cases h3
    | false =>
      go_wp2
      go_ret
      rcases HP6.out with ⟨h3, _⟩ | ⟨_, h3⟩
      · cases h3
      · exact ReadQ.no HBE6.out (by rw [HRM.out, h3]; rfl)

set_option maxRecDepth 100000 in
theorem readQ_any (ao : Option Addr) (n cap : Nat) (l : List Int) (w : World) (hs : Sl w ao n cap l) :
    Calls Tryz.prog 50 #[.slice ao n cap] w fun e w' => ReadQ l w e w' := by
  by_cases hn : pw n
  · by_cases hk : isKd (l.getD 0 0)
    · exact readQ_tail ao n cap l w hs hn hk
    · have hn2 := pw_nat hn
      have hlen := hs.hlen
      obtain ⟨b, off, rfl, hbl, hc⟩ : ∃ b off, ao = some ⟨b, off, none⟩ ∧ b < w.heap.size ∧ ∀ i, i < n → w.cell? ⟨b, off + i, none⟩ = some (.int .u8 (l.getD i 0)) := by
        rcases hs.hat with h | h
        · omega
        · exact h
      have c0 := hc 0 (by omega)
      rw [Nat.add_zero] at c0
      have hk0 := hs.wf.getD 0
      have HNO : Hid (readQ l = none) := hidden (by unfold readQ; rw [if_neg (fun h => hk h.2)])
      have d1 : decide (pw (n : Int)) = true := decide_eq_true hn
      have d2 : decide (isKd (l.getD 0 0)) = false := decide_eq_false hk
      generalize l.getD 0 0 = k0 at *
      have hw0 : IntKind.i64.wrap k0 = k0 := by rw [IntKind.wrap_i64]; omega
      have hn0 : (0 : Int) < (n : Int) := by omega
      have k01 := hk0.1
      have k02 := hk0.2
      clear hs hc hk hn
      go_enter Tryz.func50, Tryz.ntmps50
      go_wp2_with (first | (go_at_call 29; refine same_call (isSize_any _ _) ?_; rw [d1]) | (go_at_call 28; refine same_call (isKind_any _ _) ?_; rw [d2]))
      go_ret
      exact ReadQ.no (Below.refl _ _) HNO.out
  · have hlen := hs.hlen
    have HNO : Hid (readQ l = none) := hidden (by unfold readQ; rw [hlen, if_neg (fun h => hn h.1)])
    have d1 : decide (pw (n : Int)) = false := decide_eq_false hn
    clear hs hn
    go_enter Tryz.func50, Tryz.ntmps50
    go_wp2_with (first | (go_at_call 29; refine same_call (isSize_any _ _) ?_; rw [d1]))
    go_ret
    exact ReadQ.no (Below.refl _ _) HNO.out
end Go.Proofs.YtpjgmepafekhkaaGreatDoor

/- packed.Open, packed.New. -/

namespace Go.Proofs.YtpjgmepafekhkaaGreatDoor
open Go.RowKit

set_option maxRecDepth 100000 in
theorem equal7 (ao bo : Option Addr) (n m c d : Nat) (la lb : List Int) (w : World) (ha : Sl w ao n c la) (hb : Sl w bo m d lb) :
    Calls Tryz.prog 51 #[.slice ao n c, .slice bo m d] w fun e w' => e = .returned (.bool (decide (la = lb))) ∧ w' = w := by
  have h1 := conv_sl ha
  have h2 := conv_sl hb
  have h3 := str_beq ha.wf hb.wf
  clear ha hb
  go_enter Tryz.func51, Tryz.ntmps51
  go_wp2
  go_ret
  exact ⟨rfl, rfl⟩
set_option maxRecDepth 100000 in
/-- Cells that may be rise. -/
theorem chk_first {k p : Int} : ∀ {q : List Int} {cs : List Cl}, chk k p (some q) cs = 0 → ∀ c ∈ cs, kl q c.key
  | _, [], _, c, hc => by cases hc
  | q, d :: r, h, c, hc => by
    unfold chk at h
    split at h
    · split at h
      · next h2 =>
        rcases List.mem_cons.1 hc with e | e
        · rw [e]; exact h2
        · exact kl_trans _ _ _ h2 (chk_first h c e)
      · simp at h
    · simp at h
set_option maxRecDepth 100000 in
theorem chk_rs {k p : Int} : ∀ {pr : Option (List Int)} {cs : List Cl}, chk k p pr cs = 0 → Rs cs
  | _, [], _ => List.Pairwise.nil
  | pr, e :: r, h => by
    unfold chk at h
    split at h
    · split at h
      · exact List.Pairwise.cons (fun d hd => chk_first h d hd) (chk_rs h)
      · simp at h
    · simp at h
set_option maxRecDepth 100000 in
theorem chk_fit {k : Int} {n : Nat} {pr : Option (List Int)} {cs : List Cl} (h : chk k n pr cs = 0) (hn : pw n) : ∀ c ∈ cs, c.fit := fun c hc => (chk_may h c hc).fit (by have := pw_nat hn; omega)
/-- What Open comes to. -/
def OpenQ (l : List Int) (w : World) (e : Ending) (w' : World) : Prop :=
  ∃ po k, e = .returned (.tuple #[.pointer po, .int .i64 k]) ∧ Hid (Below w.heap.size w w') ∧ Hid ((po = none ∧ k = 60 ∧ ¬ ∃ cs, IsQ (l.getD 0 0) l.length cs l) ∨ ∃ a qo qn qc vb vs cs, po = some ⟨a, 0, none⟩ ∧ k = 0 ∧ IsQ (l.getD 0 0) l.length cs l ∧ (∀ c ∈ cs, c.Wf) ∧ PO w' w.heap.size a (l.getD 0 0) l.length qo qn qc vb vs 0 (shP (l.getD 0 0) cs) (qbd (shP (l.getD 0 0) cs).length (whl (l.getD 0 0)) cs) (qst (shP (l.getD 0 0) cs).length (whl (l.getD 0 0)) 0 cs))
set_option maxRecDepth 100000 in
set_option maxHeartbeats 1000000 in
theorem openQ_any (ao : Option Addr) (n cap : Nat) (l : List Int) (w : World) (hs : Sl w ao n cap l) (ht : Tab w) (h0 : 1 < w.heap.size) :
    Calls Tryz.prog 18 #[.slice ao n cap] w fun e w' => OpenQ l w e w' := by
  have HR := hidden (readQ_any ao n cap l w hs)
  have HS := hidden hs
  have HT := hidden ht
  clear hs ht
  go_enter Tryz.func18, Tryz.ntmps18
  go_wp2_with (first | (go_at_call 50; refine HR.out.mono ?_; rintro e w1 ⟨po, rfl, HB1, HQ⟩; refine Hid.out ?_))
  apply hidden
  clear HR
  rcases HQ.out with ⟨rfl, hno⟩ | ⟨a, qo, qn, qc, vb, vs, P, cs, rfl, hrm, hpo⟩
  · have HNO : Hid (¬ ∃ cs, IsQ (l.getD 0 0) l.length cs l) := hidden (by
      rintro ⟨cs, h⟩
      have := (readQ_of h).1
      rw [hno] at this
      cases this)
    clear HQ hno
    go_wp2
    go_ret2
    exact ⟨none, 60, rfl, HB1, hidden (.inl ⟨rfl, rfl, HNO.out⟩)⟩
  · have HRM := hidden hrm
    have HPO := hidden hpo
    obtain ⟨i1, i2, i3, i4, i5, i6, i7⟩ := readQ_inv HS.out.wf hrm
    have hf := chk_fit i3 i2
    have hwf : ∀ c ∈ cs, c.Wf ∧ c.fit := fun c hc => ⟨i5 c hc, hf c hc⟩
    have hz := szQ_eq (l.getD 0 0) P.length cs
    have hn2 := pw_nat i2
    have hfit : szQ (l.getD 0 0) (shP (l.getD 0 0) cs).length cs ≤ l.length := Nat.le_trans (szQ_less i6) i4
    have HWF := hidden i5
    obtain ⟨bo, bc, so, sc, rfl, rfl, hpg⟩ := hpo.pg (qbd_wf _ _ _ hwf) (by omega) (by rw [qst_length]; omega)
    have HBY := hidden (bytesQ_any w1 a _ _ qo qn qc bo _ bc so _ sc 0 P _ _ cs hpg (layQ_of i6 hf) (chk_rs i3) i1 i2 hfit (HT.out.on HB1.out h0) (Nat.lt_of_lt_of_le h0 HB1.out.size))
    have HPL : Hid ((pkB (l.getD 0 0) l.length cs).length = l.length) := hidden (pkB_length _ _ _ hfit)
    have HPWF : Hid (Wf (pkB (l.getD 0 0) l.length cs)) := hidden (pkB_wf (by unfold isKd at i1; omega) hwf)
    have hnr := HS.out.hroom
    have HLEN := hidden HS.out.hlen
    clear hrm hpo HQ i1 i2 i3 i4 i5 i6 i7 hf hwf hz hn2 hfit hpg
    obtain ⟨PB, hPB⟩ : ∃ PB, pkB (l.getD 0 0) l.length cs = PB := ⟨_, rfl⟩
    rw [hPB] at HBY HPL HPWF
    have HPB := hidden hPB
    clear hPB
    rw [HLEN.out] at HBY HPL
    cases hd : decide (PB = l) with
    | true =>
      have HEQ : Hid (PB = l) := hidden (by simpa using hd)
      go_wp2_with (first | (go_at_call 20; refine HBY.out.mono ?_; rintro e w2 ⟨g, rfl, HBK, HB2⟩) | (go_at_call 51; refine same_call (equal7 _ _ _ _ _ _ PB l _ (HBK.out.2.sl HPL.out HPWF.out hnr) (HS.out.on (Nat.le_refl _) (bl_go HB1.out (Nat.le_refl _) HB2.out))) ?_; rw [hd]))
      go_ret2
      have his : IsQ (l.getD 0 0) l.length cs l := (isQ_iff HS.out.wf cs).2 ⟨⟨P, HRM.out⟩, by rw [HPB.out]; exact HEQ.out⟩
      have hPP : P = shP (l.getD 0 0) cs := by
        have := (readQ_of his).1
        rw [HRM.out] at this
        injection this with this
        injection this
      have hpo := HPO.out.go HB2.out
      rw [hPP] at hpo
      refine ⟨some ⟨a, 0, none⟩, 0, rfl, hidden (bl_go HB1.out (Nat.le_refl _) HB2.out), hidden (.inr ⟨a, qo, qn, qc, _, _, cs, rfl, rfl, his, HWF.out, hpo⟩)⟩
    | false =>
      have HNO : Hid (¬ ∃ cs, IsQ (l.getD 0 0) l.length cs l) := hidden (by
        rintro ⟨ds, h⟩
        obtain ⟨⟨P', h1⟩, h2⟩ := (isQ_iff HS.out.wf ds).1 h
        rw [HRM.out] at h1
        injection h1 with h1
        injection h1 with _ h1
        subst h1
        rw [HPB.out] at h2
        simp [h2] at hd)
      go_wp2_with (first | (go_at_call 20; refine HBY.out.mono ?_; rintro e w2 ⟨g, rfl, HBK, HB2⟩) | (go_at_call 51; refine same_call (equal7 _ _ _ _ _ _ PB l _ (HBK.out.2.sl HPL.out HPWF.out hnr) (HS.out.on (Nat.le_refl _) (bl_go HB1.out (Nat.le_refl _) HB2.out))) ?_; rw [hd]))
      go_ret2
      exact ⟨none, 60, rfl, hidden (bl_go HB1.out (Nat.le_refl _) HB2.out), hidden (.inl ⟨rfl, rfl, HNO.out⟩)⟩
end Go.Proofs.YtpjgmepafekhkaaGreatDoor

/- packed.Encode. -/

namespace Go.Proofs.YtpjgmepafekhkaaGreatDoor
open Go.RowKit

/-- What Encode finds wrong; 0: nothing. -/
def encQ (k n : Int) (cs : List Cl) : Int := if isKd k ∧ pw n then (if chk k n none cs = 0 then (if n < szQ k (shP k cs).length cs then 61 else 0) else chk k n none cs) else 1
/-- What Encode comes to. -/
def EncQ (k n : Int) (cs : List Cl) (w : World) (e : Ending) (w' : World) : Prop :=
  ∃ ao m cap c, e = .returned (.tuple #[.slice ao m cap, .int .i64 c]) ∧ Hid (Below w.heap.size w w') ∧ Hid (c = encQ k n cs ∧ ((c ≠ 0 ∧ ao = none ∧ m = 0 ∧ cap = 0) ∨ (c = 0 ∧ ∃ g, ao = some ⟨g, 0, none⟩ ∧ m = n.toNat ∧ cap = n.toNat ∧ w.heap.size ≤ g ∧ Bk w' g (pkB k n.toNat cs))))
set_option maxRecDepth 100000 in
theorem EncQ.no {k n : Int} {cs : List Cl} {w w' : World} {c : Int} (hb : Below w.heap.size w w') (hc : c = encQ k n cs) (h0 : c ≠ 0) : EncQ k n cs w (.returned (.tuple #[.slice none 0 0, .int .i64 c])) w' := ⟨none, 0, 0, c, rfl, hidden hb, hidden ⟨hc, .inl ⟨h0, rfl, rfl, rfl⟩⟩⟩
set_option maxRecDepth 100000 in
theorem chk_step (k n : Int) (cs : List Cl) (j : Nat) (c : Cl) (h : cs[j]? = some c) : chk k n (prv (cs.take j)) (cs.drop j) = if mayP k n c then (if ahead (prv (cs.take j)) c.key then chk k n (prv (cs.take (j + 1))) (cs.drop (j + 1)) else 63) else 62 := by
  obtain ⟨hj, e⟩ := List.getElem?_eq_some_iff.1 h
  rw [List.drop_eq_getElem_cons hj, e, chk]
  have : prv (cs.take (j + 1)) = some c.key := by
    rw [List.take_add_one, h]
    simp [prv]
  rw [this]

set_option maxRecDepth 100000 in
set_option maxHeartbeats 4000000 in
theorem encodeQ_any (k n : Int) (co : Option Addr) (cn cc : Nat) (cs : List Cl) (w : World) (hs : SlC w co cn cc cs) (hz : szQ k (shP k cs).length cs ≤ 1099511627776) (ht : Tab w) (h0 : 1 < w.heap.size) :
    Calls Tryz.prog 8 #[.int .i64 k, .slice co cn cc, .int .i64 n] w fun e w' => EncQ k n cs w e w' := by
  obtain ⟨ic, hic, hz0, hz1, hz2⟩ := info_parts infoE
  have HS := hidden hs
  have HZ := hidden hz
  have HT := hidden ht
  have HLEN := hidden hs.hlen
  have hcn : cn ≤ 1099511627776 := by have := hs.hlen; have := szQ_eq k (shP k cs).length cs; omega
  cases h1 : decide (isKd k) with
  | false =>
    have HE : Hid ((1 : Int) = encQ k n cs) := hidden (by unfold encQ; rw [if_neg (fun h => by simp [h.1] at h1)])
    clear hs hz ht
    go_enter Tryz.func8, Tryz.ntmps8
    go_wp2_with (first | (go_at_call 28; refine same_call (isKind_any _ _) ?_; rw [h1]))
    go_ret2
    exact EncQ.no (Below.refl _ _) HE.out (by omega)
  | true =>
    cases h2 : decide (pw n) with
    | false =>
      have HE : Hid ((1 : Int) = encQ k n cs) := hidden (by unfold encQ; rw [if_neg (fun h => by simp [h.2] at h2)])
      clear hs hz ht
      go_enter Tryz.func8, Tryz.ntmps8
      go_wp2_with (first | (go_at_call 28; refine same_call (isKind_any _ _) ?_; rw [h1]) | (go_at_call 29; refine same_call (isSize_any _ _) ?_; rw [h2]))
      go_ret2
      exact EncQ.no (Below.refl _ _) HE.out (by omega)
    | true =>
      have hk : isKd k := by simpa using h1
      have hn : pw n := by simpa using h2
      have hpn := pw_le hn
      obtain ⟨N, rfl⟩ := Int.eq_ofNat_of_zero_le (show 0 ≤ n by omega)
      have HK := hidden hk
      have HPN := hidden hn
      have HE0 : Hid (encQ k N cs = if chk k N none cs = 0 then (if (N : Int) < szQ k (shP k cs).length cs then 61 else 0) else chk k N none cs) := hidden (by unfold encQ; rw [if_pos ⟨hk, hn⟩])
      have hN1 : (N : Int) ≤ 65536 := hpn.2
      have hN2 : 512 ≤ N := by omega
      clear hs hz ht hk hn hpn
      go_enter Tryz.func8, Tryz.ntmps8
      go_wp2_with (first | (go_at_call 28; refine same_call (isKind_any _ _) ?_; rw [h1]) | (go_at_call 29; refine same_call (isSize_any _ _) ?_; rw [h2]))
      clear h1 h2
      go_loopw [23] (fun i wr => ∃ j : Nat, j ≤ cn ∧ i = .int .i64 j ∧ Hid (chk k N none cs = chk k N (prv (cs.take j)) (cs.drop j)) ∧ Hid (Below w.heap.size w wr)) (fun i _ => cn - (intOf i).toNat)
      case atStart => exact ⟨0, by omega, rfl, hidden (by simp [prv]), hidden (Below.refl _ _)⟩
      case round =>
        obtain ⟨j, hj, rfl, HC, HBW⟩ := hrel
        have bj : (j : Int) ≤ 1099511627776 := by omega
        by_cases hlt : j < cn
        · have hltI : (j : Int) < (cn : Int) := by omega
          obtain ⟨b, off, c, ka, kc, va, vc, rfl, hb, hci, c0, c1, c2, c3, c4, hkS, hvS⟩ := (HS.out.on HBW.out).item j hlt
          have HCS := hidden (chk_step k N cs j c hci)
          have HCI := hidden hci
          have hkr := hkS.hroom
          have hvr := hvS.hroom
          have HKS := hidden hkS
          have HMB := hidden (fun u => mayBe_any k (N : Int) ka c.key.length kc c.kd va c.val.length vc c.pg c.ct u (by omega) hN1 hkr hvr)
          have HMI := hidden (mayP_iff k N c)
          clear hci hkS hvS
          cases hm : decide (mayN k N c.key.length c.kd c.val.length c.pg c.ct) with
          | false =>
            have HE : Hid ((62 : Int) = encQ k N cs) := by
              have : ¬ mayP k N c := fun h => by have := HMI.out.2 h; simp at hm; exact hm this
              have e : chk k N none cs = 62 := by rw [HC.out, HCS.out, if_neg this]
              exact hidden (by rw [HE0.out, e]; simp)
            go_wp2_with (first | (go_at_call 30; refine (HMB.out _).mono ?_; rintro e w2 ⟨rfl, hb2⟩; have HB2 := hidden (bl_go (bl_al HBW.out (Nat.le_refl _) _) (Nat.le_refl _) hb2); clear hb2; rw [hm]))
            go_ret2
            exact EncQ.no HB2.out HE.out (by omega)
          | true =>
            have hmp : mayP k N c := HMI.out.1 (by simpa using hm)
            have HMP := hidden hmp
            clear hmp
            go_wp2_with (first | (go_at_call 30; refine (HMB.out _).mono ?_; rintro e w2 ⟨rfl, hb2⟩; have HBOX := hidden (box5 hb2); have HBR := hidden (al5 hb2); have HBW2 := hidden (bl_go (bl_al HBW.out (Nat.le_refl _) _) (Nat.le_refl _) hb2); clear hb2; rw [hm]; refine Hid.out ?_))
            apply hidden
            obtain ⟨g8, hg8⟩ : ∃ g8, wr.heap.size = g8 := ⟨_, rfl⟩
            rw [hg8] at HBOX ⊢
            obtain ⟨z0, z1, z2, z3, z4⟩ := HBOX.out
            clear hg8 HBOX c0 c1 c2 c3 c4 HMB HMI
            by_cases hj0 : j = 0
            · subst hj0
              have HNX : Hid (chk k N none cs = chk k N (prv (cs.take (0 + 1))) (cs.drop (0 + 1))) := hidden (by rw [HC.out, HCS.out, if_pos HMP.out, if_pos (by simp [prv, ahead])])
              go_wp2_with fail
              go_quiet (fail)
              go_wp2
              go_roundw
              case rel => exact ⟨1, by omega, by go_num, HNX, hidden (bl_dr HBW2.out _)⟩
              case measure => simp [intOf]; omega
            · obtain ⟨i, rfl⟩ : ∃ i, j = i + 1 := ⟨j - 1, by omega⟩
              obtain ⟨b', off', c', ka', kc', va', vc', hbo, hb', hci', e0, e1, e2, e3, e4, hk', hv'⟩ := (HS.out.on HBW2.out).item i (by omega)
              injection hbo with hbo
              injection hbo with hb1 hb2
              subst hb1 hb2
              have hprv : prv (cs.take (i + 1)) = some c'.key := by rw [List.take_add_one, hci']; simp [prv]
              have HRI : Hid (∀ q, Calls Tryz.prog 31 #[.slice ka' c'.key.length kc', .slice ka c.key.length kc] (w2.drewN q) fun e w' => e = .returned (.bool (decide (kl c'.key c.key))) ∧ w' = w2.drewN q) :=
                hidden fun q => riseQ_any _ _ _ _ _ _ _ _ _ (hk'.drewN q) ((HKS.out.on (Nat.le_refl _) HBR.out).drewN q)
              have HPR := hidden hprv
              have i1 : (i : Int) < (cn : Int) := by omega
              have i2 : i < cn := by omega
              have i3 : (i : Int) ≤ 1099511627776 := by omega
              clear hk' hv' hprv hci' e1 e2 e3 e4 z1 z2 z3 z4 hj0
              cases hkl : decide (kl c'.key c.key) with
              | true =>
                have HNX : Hid (chk k N none cs = chk k N (prv (cs.take (i + 1 + 1))) (cs.drop (i + 1 + 1))) := hidden (by
                  rw [HC.out, HCS.out, if_pos HMP.out, if_pos (by rw [HPR.out]; simpa [ahead] using hkl)])
                rw [hkl] at HRI
                go_wp2_with fail
                go_quiet (first | (go_at_call 31; exact Calls.quiet_of_same (HRI.out _)))
                go_wp2
                go_roundw
                case rel => exact ⟨i + 1 + 1, by omega, by go_num, HNX, hidden (bl_dr HBW2.out _)⟩
                case measure => simp [intOf]; omega
              | false =>
                have HE : Hid ((63 : Int) = encQ k N cs) := by
                  have e : chk k N none cs = 63 := by rw [HC.out, HCS.out, if_pos HMP.out, if_neg (by rw [HPR.out]; simpa [ahead] using hkl)]
                  exact hidden (by rw [HE0.out, e]; simp)
                rw [hkl] at HRI
                go_wp2_with fail
                go_quiet (first | (go_at_call 31; exact Calls.quiet_of_same (HRI.out _)))
                go_wp2
                go_ret2
                exact EncQ.no (bl_dr HBW2.out _) HE.out (by omega)
        · obtain rfl : j = cn := by omega
          have hlI : ¬ (j : Int) < (j : Int) := by omega
          have HOK : Hid (chk k N none cs = 0) := hidden (by rw [HC.out, List.drop_eq_nil_of_le (by rw [HLEN.out]; exact Nat.le_refl _)]; rfl)
          have HSC := hidden (HS.out.on HBW.out)
          have HSZ := hidden (psize_any k co j cc cs wr HSC.out HZ.out)
          have hszb := HZ.out
          obtain ⟨Z, hZ⟩ : ∃ Z, szQ k (shP k cs).length cs = Z := ⟨_, rfl⟩
          have HZE := hidden hZ
          rw [hZ] at HSZ hszb
          have bZ : (Z : Int) ≤ 1099511627776 := by omega
          clear hZ
          go_wp2_with (first | (go_at_call 25; refine HSZ.out.mono ?_; rintro e w2 ⟨rfl, HB2⟩; refine Hid.out ?_))
          apply hidden
          have HBW2 : Hid (Below w.heap.size w w2) := hidden (bl_go HBW.out (Nat.le_refl _) HB2.out)
          clear HSZ
          by_cases hfit : (N : Int) < (Z : Int)
          · have HE : Hid ((61 : Int) = encQ k N cs) := hidden (by rw [HE0.out, if_pos HOK.out, HZE.out, if_pos hfit])
            go_wp2
            go_ret2
            exact EncQ.no HBW2.out HE.out (by omega)
          · have HE : Hid ((0 : Int) = encQ k N cs) := hidden (by rw [HE0.out, if_pos HOK.out, HZE.out, if_neg hfit])
            have hjb : j ≤ 65536 := by
              have h3 := szQ_eq k (shP k cs).length cs
              have h4 := HLEN.out
              have h5 := HZE.out
              omega
            have hjI : (j : Int) ≤ 65536 := by omega
            have HNF : Hid (szQ k (shP k cs).length cs ≤ N) := hidden (by rw [HZE.out]; omega)
            clear HC
            go_wp2_with (at_make; refine wpList_make_full _ rfl _ _ 55 rfl w2.heap.size 57 ic _ 6 Tryz.underlying55 hic hz0 hz1 .i64 .i64 j j j rfl rfl rfl rfl (by rw [hz2]; omega) (by unfold maxLen; omega) (Nat.le_refl _) ?_; refine Hid.out ?_)
            apply hidden
            intro w3 ho3 hg3
            have hb3 : Below w2.heap.size w2 w3 := (Below.refl _ _).grown hg3 (Nat.le_refl _) (fun k hk => by cases hk)
            obtain ⟨g, hg⟩ : ∃ g, w2.heap.size = g := ⟨_, rfl⟩
            have HRW : Hid (RowE w3 g j) := by
              rcases ho3.2 with ⟨h, _⟩ | ⟨q, c, cur, h, _, hh, _, _, hss, _⟩
              · cases h
              · cases h
                rw [← hg]
                exact hidden ⟨cur, hh, by rw [hss]; omega⟩
            have hgs : Below g w2 w3 := by rw [← hg]; exact hb3
            have HGS := hidden hgs
            have HGW := hidden hg
            have HWG : Hid (w.heap.size ≤ g) := hidden (by rw [← hg]; exact HBW2.out.size)
            rw [hg]
            clear ho3 hg3 hb3 hgs hg HSC HB2
            go_wp2_with fail
            go_loopw [58] (fun i wr => ∃ t : Nat, t ≤ j ∧ i = .int .i64 t ∧ Hid (RowE wr g j) ∧ Hid (Below g w2 wr) ∧ Hid (∀ i d, i < t → cs[i]? = some d → EAt wr g g (i * 6) d)) (fun i _ => j - (intOf i).toNat)
            case atStart => exact ⟨0, by omega, rfl, HRW, HGS, hidden fun i d hi => by omega⟩
            case round =>
              obtain ⟨t, ht, rfl, HR, HG, HD⟩ := hrel
              obtain ⟨wo, hwo⟩ : ∃ wo, wo = wr := ⟨_, rfl⟩
              subst hwo
              have HBE : Hid (Below w.heap.size w wo) := hidden (HBW2.out.trans (HG.out.mono HWG.out))
              have bt : (t : Int) ≤ 65536 := by omega
              clear HRW HGS
              by_cases hlt : t < j
              · have hltI : (t : Int) < (j : Int) := by omega
                obtain ⟨b, off, c, ka, kc, va, vc, rfl, hb, hci, c0, c1, c2, c3, c4, hkS, hvS⟩ := HS.out.item t hlt
                have d0 := (HBE.out.cell (p := ⟨b, off + t * 5, none⟩) hb).trans c0
                have d1 := (HBE.out.cell (p := ⟨b, off + t * 5 + 1, none⟩) hb).trans c1
                have d2 := (HBE.out.cell (p := ⟨b, off + t * 5 + 2, none⟩) hb).trans c2
                have d3 := (HBE.out.cell (p := ⟨b, off + t * 5 + 3, none⟩) hb).trans c3
                have d4 := (HBE.out.cell (p := ⟨b, off + t * 5 + 4, none⟩) hb).trans c4
                have HKS := hidden hkS
                have HVS := hidden hvS
                have HCI := hidden hci
                clear c0 c1 c2 c3 c4 hkS hvS hci
                obtain ⟨x, hx⟩ : ∃ x, wo.alloc (.cells #[.slice ka c.key.length kc, .int .i64 c.kd, .slice va c.val.length vc, .int .i64 c.pg, .int .i64 c.ct] 47) = x := ⟨_, rfl⟩
                have hbx : Below wo.heap.size wo x := by rw [← hx]; exact bl_al (Below.refl _ _) (Nat.le_refl _) _
                have HBX := hidden hbx
                have HR2 : Hid (RowE (wo.alloc (.cells #[.slice ka c.key.length kc, .int .i64 c.kd, .slice va c.val.length vc, .int .i64 c.pg, .int .i64 c.ct] 47)) g j) := hidden (by rw [hx]; exact HR.out.on hbx)
                have HX := hidden hx
                clear hbx hx
                go_wp2_with (refine put_entry (by rfl) _ _ (by rfl) g (t * 6) j none ka va 0 0 c.key.length kc c.val.length vc c.kd c.pg c.ct HR2.out (by rfl) (by rfl) (by omega) ?_; intro u3 HU3; refine Hid.out ?_)
                apply hidden
                rw [HX.out] at HU3 HR2
                have HR3 : Hid (RowE u3 g j) := hidden (by rw [HU3.out]; exact RowE.sets _ _ _ HR2.out)
                have hg2 : Below g w2 x := HG.out.trans (HBX.out.mono (Nat.le_of_lt HR.out.lt))
                have HG3 : Hid (Below g w2 u3) := hidden (by
                  rw [HU3.out]
                  simp only [World.setCells]
                  refine (((((hg2.setCell ?_ _).setCell ?_ _).setCell ?_ _).setCell ?_ _).setCell ?_ _).setCell ?_ _ <;> simp)
                have HD3 : Hid (∀ i d, i < t + 1 → cs[i]? = some d → EAt u3 g g (i * 6) d) := by
                  refine hidden fun i d' hi hd' => ?_
                  rw [HU3.out]
                  have hbw : Below w.heap.size w x := bl_go HBE.out (Nat.le_refl _) HBX.out
                  by_cases e : i = t
                  · subst e
                    rw [HCI.out] at hd'
                    injection hd' with hd'
                    subst hd'
                    exact EAt.new (h := []) (key := c.key) HR2.out (by omega) (Nat.le_refl _) (Sl.nil_any _ _ _ fun _ => rfl) (HKS.out.on (Nat.le_refl _) hbw) (HVS.out.on (Nat.le_refl _) hbw) (by simp) (.inl rfl) (HKS.out.lo.mono HWG.out) (HVS.out.lo.mono HWG.out)
                  · exact ((HD.out i d' (by omega) hd').on HR.out.lt HBX.out).put (Nat.le_refl _) (by omega)
                clear HU3 HR2 HR HG HD hg2 HX d0 d1 d2 d3 d4
                go_wp2
                go_roundw
                case rel => exact ⟨t + 1, by omega, by go_num, HR3, HG3, HD3⟩
                case measure => simp [intOf]; omega
              · obtain rfl : t = j := by omega
                have hlI : ¬ (t : Int) < (t : Int) := by omega
                have hsE : SlE wo g (some ⟨g, 0, none⟩) t t cs := ⟨HLEN.out, Nat.le_refl _, by omega, (by intro h; cases h), .inr ⟨g, 0, rfl, HR.out.lt, fun i d hd => by
                  rw [Nat.zero_add]
                  have := (List.getElem?_eq_some_iff.1 hd).1
                  exact HD.out i d (by rw [← HLEN.out]; exact this) hd⟩⟩
                have hfit := chk_fit HOK.out HPN.out
                have hzz := szQ_eq k (shP k cs).length cs
                have hnf := HNF.out
                have hrs := chk_rs HOK.out
                have HLD := hidden (laid_any k N g _ t t cs wo hsE (Nat.le_of_lt HR.out.lt) hrs hfit hjb (by omega))
                have HWF := hidden hsE.wf
                have HFT := hidden hfit
                have HZZ : Hid ((qbd (shP k cs).length (whl k) cs).length ≤ 1099511627776 ∧ cs.length ≤ 65536) := hidden (by rw [HLEN.out]; omega)
                clear hsE hfit hzz hnf hrs HR HG HD
                go_wp2_with (first | (go_at_call 32; refine HLD.out.mono ?_; intro e w4 hq; obtain ⟨b4, rfl, HL4, HB4, _⟩ := hq.ld HWF.out HFT.out HZZ.out.2 HZZ.out.1; refine Hid.out ?_))
                apply hidden
                have HBW4 : Hid (Below w.heap.size w w4) := hidden (bl_go HBE.out (Nat.le_refl _) HB4.out)
                have HWR := hidden (written_ld HL4.out HK.out HPN.out HNF.out (HT.out.on HBW4.out h0) (Nat.lt_of_lt_of_le h0 HBW4.out.size))
                clear HLD
                go_wp2_with (first | (go_at_call 33; refine HWR.out.mono ?_; rintro e w5 ⟨g5, rfl, hg5, HBK, HB5⟩))
                go_ret2
                refine ⟨some ⟨g5, 0, none⟩, N, N, 0, rfl, hidden (bl_go HBW4.out (Nat.le_refl _) HB5.out), hidden ⟨HE.out, .inr ⟨rfl, g5, rfl, by simp, by simp, Nat.le_trans HBW4.out.size hg5, ?_⟩⟩⟩
                rw [Int.toNat_natCast]
                exact HBK.out
end Go.Proofs.YtpjgmepafekhkaaGreatDoor
