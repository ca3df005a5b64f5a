/- Layer 12: Grow, Concat, EqualFunc of rows of one cell. -/
import Derived.Test.YtfcbfombobelmaaGreatDoorJ37
namespace Go.Proofs.YtfcbfombobelmaaGreatDoor
open Go.RowKit

set_option maxRecDepth 100000 in
theorem grow_1 (w : World) : Calls Tryz.prog 97 #[.slice none 0 0, .int .i64 1] w fun e w' => ∃ g c, e = .returned (.slice (some ⟨g, 0, none⟩) 0 c) ∧ Hid (w'.ownsRow w.heap.size 29 5 (.slice (some ⟨g, 0, none⟩) 0 c) 0 []) ∧ Hid (Below w.heap.size w w') := by
  obtain ⟨ic, hic, hz0, hz1, hz2⟩ := info_parts infoC
  have hr : ∀ ty, (Builtin.append_ #[83, 3] ty #[.slice none 0 0, .int .i64 1]).run Tryz.prog w = .ok (.slice (some ⟨w.heap.size, 0, none⟩) 1 (grownCap w 1 0 29)) (w.drew.alloc (.cells (Builtin.zeroCells (Value.agg #[.slice none 0 0, .int .i64 0, .slice none 0 0, .int .i64 0, .int .i64 0]).cells 1 ++ Builtin.zeroCells (Value.agg #[.slice none 0 0, .int .i64 0, .slice none 0 0, .int .i64 0, .int .i64 0]).cells (grownCap w 1 0 29 - 1)) 29)) := fun ty => by
    have := Lib.run_append_nil_zeros (P := Tryz.prog) w 83 3 ty 29 ic _ .i64 .i64 Tryz.underlying83 Tryz.underlying3 hic hz0 1 (by omega) (by omega) (by omega) (by rw [hz2]; omega)
    simpa using this
  have hge := grownCap_ge w 1 0 29
  have hle := grownCap_le_maxLen w 1 0 29 (by unfold maxLen; omega)
  generalize grownCap w 1 0 29 = c at *
  obtain ⟨w1, hw1⟩ : ∃ w1, w.drew.alloc (.cells (Builtin.zeroCells (Value.agg #[.slice none 0 0, .int .i64 0, .slice none 0 0, .int .i64 0, .int .i64 0]).cells 1 ++ Builtin.zeroCells (Value.agg #[.slice none 0 0, .int .i64 0, .slice none 0 0, .int .i64 0, .int .i64 0]).cells (c - 1)) 29) = w1 := ⟨_, by first | rfl | trivial⟩
  rw [hw1] at hr
  have HF : Hid (w1.ownsRow w.heap.size 29 5 (.slice (some ⟨w.heap.size, 0, none⟩) 0 c) 0 [] ∧ Below w.heap.size w w1) := hidden (by
    rw [← hw1]
    refine ⟨⟨rfl, .inr ⟨w.heap.size, c, _, rfl, Nat.le_refl _, heap_alloc_new w.drew _, by omega, hle, ?_, by simp⟩⟩, bl_al (Below.refl _ _).drew (Nat.le_refl _) _⟩
    rw [Array.size_append, size_zeroCells, size_zeroCells]
    simp only [Value.cells]
    show 1 * 5 + (c - 1) * 5 = c * 5
    omega)
  have HG := hidden hge
  clear hw1 hle hge
  obtain ⟨g, hg⟩ : ∃ g, w.heap.size = g := ⟨_, by first | rfl | trivial⟩
  rw [hg] at hr
  have hcI : (1 : Int) ≤ (c : Int) := by have := HG.out; omega
  have HGG := hidden hg
  clear hg
  go_enter Tryz.func97, Tryz.ntmps97
  go_wp2_with (at_builtin; refine append_wp rfl _ _ _ _ rfl _ _ rfl rfl (hr _) ?_)
  go_ret
  obtain ⟨h1, h2⟩ := HF.out
  rw [HGG.out] at h1
  exact ⟨g, c, rfl, hidden (by rw [HGG.out]; exact h1), hidden h2⟩
set_option maxRecDepth 100000 in
theorem grow_0 (w : World) : Calls Tryz.prog 97 #[.slice none 0 0, .int .i64 0] w fun e w' => e = .returned (.slice none 0 0) ∧ w' = w := by
  go_enter Tryz.func97, Tryz.ntmps97
  go_wp2
  go_ret
  exact ⟨rfl, by first | rfl | trivial⟩
/-- Three slices of cells in a row. -/
def Tri (w : World) (s : Nat) (v0 v1 v2 : Value) : Prop := w.heap[s]? = some (.cells #[v0, v1, v2] 83 (0, 0))
set_option maxRecDepth 100000 in
theorem Tri.cells {w : World} {s : Nat} {v0 v1 v2 : Value} (h : Tri w s v0 v1 v2) : w.cell? ⟨s, 0, none⟩ = some v0 ∧ w.cell? ⟨s, 1, none⟩ = some v1 ∧ w.cell? ⟨s, 2, none⟩ = some v2 := by
  unfold Tri at h
  exact ⟨by rw [cell_of_row _ _ 0 _ _ _ h]; rfl, by rw [cell_of_row _ _ 1 _ _ _ h]; rfl, by rw [cell_of_row _ _ 2 _ _ _ h]; rfl⟩
set_option maxRecDepth 100000 in
set_option maxHeartbeats 1000000 in
theorem concat_0 (w : World) (s : Nat) (a0 a2 : Option Addr) (c0 c2 : Nat) (h : Tri w s (.slice a0 0 c0) (.slice none 0 0) (.slice a2 0 c2)) :
    Calls Tryz.prog 73 #[.slice (some ⟨s, 0, none⟩) 3 3] w fun e w' => e = .returned (.slice none 0 0) ∧ w' = w := by
  obtain ⟨t0, t1, t2⟩ := h.cells
  have hr0 : ∀ ty, (Builtin.append_ #[83, 83] ty #[.slice none 0 0, .slice a0 0 c0]).run Tryz.prog w = .ok (.slice none 0 0) w := fun ty => app_none w ty a0 c0 none 0 0 (by omega)
  have hr1 : ∀ ty, (Builtin.append_ #[83, 83] ty #[.slice none 0 0, .slice none 0 0]).run Tryz.prog w = .ok (.slice none 0 0) w := fun ty => app_none w ty none 0 none 0 0 (by omega)
  have hr2 : ∀ ty, (Builtin.append_ #[83, 83] ty #[.slice none 0 0, .slice a2 0 c2]).run Tryz.prog w = .ok (.slice none 0 0) w := fun ty => app_none w ty a2 c2 none 0 0 (by omega)
  clear h
  go_enter Tryz.func73, Tryz.ntmps73
  go_wp2_with fail
  go_loopw [3, 5, 11] (fun s3 s5 s11 wr => s3 = .int .i64 0 ∧ (s11 = .int .i64 0 ∨ s11 = .int .i64 1 ∨ s11 = .int .i64 2 ∨ s11 = .int .i64 3) ∧ wr = w) (fun _ _ s11 _ => 3 - (intOf s11).toNat)
  case atStart => exact ⟨rfl, .inl rfl, by first | rfl | trivial⟩
  case round =>
    obtain ⟨rfl, rfl | rfl | rfl | rfl, rfl⟩ := hrel
    · go_wp2
      go_roundw
      case rel => exact ⟨rfl, .inr (.inl rfl), by first | rfl | trivial⟩
      case measure => simp [intOf]
    · go_wp2
      go_roundw
      case rel => exact ⟨rfl, .inr (.inr (.inl rfl)), by first | rfl | trivial⟩
      case measure => simp [intOf]
    · go_wp2
      go_roundw
      case rel => exact ⟨rfl, .inr (.inr (.inr rfl)), by first | rfl | trivial⟩
      case measure => simp [intOf]
    · go_wp2_with (first | (go_at_call 97; refine same_call (grow_0 _) ?_))
      go_loopw [6, 8, 27] (fun s6 s8 s27 wx => s6 = .slice none 0 0 ∧ (s27 = .int .i64 0 ∨ s27 = .int .i64 1 ∨ s27 = .int .i64 2 ∨ s27 = .int .i64 3) ∧ wx = wr) (fun _ _ s27 _ => 3 - (intOf s27).toNat)
      case atStart => exact ⟨rfl, .inl rfl, by first | rfl | trivial⟩
      case round =>
        obtain ⟨rfl, rfl | rfl | rfl | rfl, rfl⟩ := hrel
        · go_wp2_with (at_builtin; refine append_wp rfl _ _ _ _ rfl _ _ rfl rfl (hr0 _) ?_)
          go_roundw
          case rel => exact ⟨rfl, .inr (.inl rfl), by first | rfl | trivial⟩
          case measure => simp [intOf]
        · go_wp2_with (at_builtin; refine append_wp rfl _ _ _ _ rfl _ _ rfl rfl (hr1 _) ?_)
          go_roundw
          case rel => exact ⟨rfl, .inr (.inr (.inl rfl)), by first | rfl | trivial⟩
          case measure => simp [intOf]
        · go_wp2_with (at_builtin; refine append_wp rfl _ _ _ _ rfl _ _ rfl rfl (hr2 _) ?_)
          go_roundw
          case rel => exact ⟨rfl, .inr (.inr (.inr rfl)), by first | rfl | trivial⟩
          case measure => simp [intOf]
        · go_wp2
          go_ret
          exact ⟨rfl, by first | rfl | trivial⟩
/-- What Concat makes of one cell. -/
def CcTo (x0 x1 x2 x3 x4 : Value) (w : World) (g c : Nat) (w' : World) : Prop :=
  w'.ownsRow w.heap.size 29 5 (.slice (some ⟨g, 0, none⟩) 1 c) 1 [x0, x1, x2, x3, x4] ∧ Below w.heap.size w w'
set_option maxRecDepth 100000 in
set_option maxHeartbeats 2000000 in
theorem concat_1 (w : World) (s : Nat) (a0 a2 : Option Addr) (c0 c1 c2 h : Nat) (ka : Option Addr) (kn kc : Nat) (kd : Int) (va : Option Addr) (vn vc : Nat) (pg ct : Int) (hs : Tri w s (.slice a0 0 c0) (.slice (some ⟨h, 0, none⟩) 1 c1) (.slice a2 0 c2))
    (hx : ∀ j u, [Value.slice ka kn kc, .int .i64 kd, .slice va vn vc, .int .i64 pg, .int .i64 ct][j]? = some u → w.cell? ⟨h, j, none⟩ = some u) :
    Calls Tryz.prog 73 #[.slice (some ⟨s, 0, none⟩) 3 3] w fun e w' => ∃ g c, e = .returned (.slice (some ⟨g, 0, none⟩) 1 c) ∧ Hid (CcTo (.slice ka kn kc) (.int .i64 kd) (.slice va vn vc) (.int .i64 pg) (.int .i64 ct) w g c w') := by
  obtain ⟨ic, hic, hz0, hz1, hz2⟩ := info_parts infoC
  obtain ⟨t0, t1, t2⟩ := hs.cells
  have HS := hidden hs
  have HX : Hid (∀ u, Below w.heap.size w u → ∀ j q, [Value.slice ka kn kc, .int .i64 kd, .slice va vn vc, .int .i64 pg, .int .i64 ct][j]? = some q → u.cell? ⟨h, 0 + j, none⟩ = some q) := hidden fun u hu j q hj => by
    have h1 := hx j q hj
    rw [Nat.zero_add]
    exact (hu.cell (p := ⟨h, j, none⟩) (World.block_lt_of_cell? w _ (by rw [h1]))).trans h1
  clear hs hx
  go_enter Tryz.func73, Tryz.ntmps73
  go_wp2_with fail
  go_loopw [3, 5, 11] (fun s3 s5 s11 wr => (s3 = .int .i64 0 ∧ s11 = .int .i64 0 ∨ s3 = .int .i64 0 ∧ s11 = .int .i64 1 ∨ s3 = .int .i64 1 ∧ s11 = .int .i64 2 ∨ s3 = .int .i64 1 ∧ s11 = .int .i64 3) ∧ wr = w) (fun _ _ s11 _ => 3 - (intOf s11).toNat)
  case atStart => exact ⟨.inl ⟨rfl, rfl⟩, by first | rfl | trivial⟩
  case round =>
    obtain ⟨⟨rfl, rfl⟩ | ⟨rfl, rfl⟩ | ⟨rfl, rfl⟩ | ⟨rfl, rfl⟩, rfl⟩ := hrel
    · go_wp2
      go_roundw
      case rel => exact ⟨.inr (.inl ⟨rfl, rfl⟩), by first | rfl | trivial⟩
      case measure => simp [intOf]
    · go_wp2
      go_roundw
      case rel => exact ⟨.inr (.inr (.inl ⟨rfl, rfl⟩)), by first | rfl | trivial⟩
      case measure => simp [intOf]
    · go_wp2
      go_roundw
      case rel => exact ⟨.inr (.inr (.inr ⟨rfl, rfl⟩)), by first | rfl | trivial⟩
      case measure => simp [intOf]
    · obtain ⟨wo, hwo⟩ : ∃ wo, wo = wr := ⟨_, rfl⟩
      subst hwo
      have HGR := hidden (grow_1 wo)
      go_wp2_with (first | (go_at_call 97; refine HGR.out.mono ?_; rintro e w1 ⟨g1, k1, rfl, HO1, HB1⟩; refine Hid.out ?_))
      apply hidden
      clear t0 t1 t2 HGR
      go_wp2_with fail
      go_loopw [6, 8, 27] (fun s6 s8 s27 wx => (∃ g c, s6 = .slice (some ⟨g, 0, none⟩) 0 c ∧ (s27 = .int .i64 0 ∨ s27 = .int .i64 1) ∧ Hid (wx.ownsRow wo.heap.size 29 5 (.slice (some ⟨g, 0, none⟩) 0 c) 0 [] ∧ Below wo.heap.size wo wx)) ∨ (∃ g c, s6 = .slice (some ⟨g, 0, none⟩) 1 c ∧ (s27 = .int .i64 2 ∨ s27 = .int .i64 3) ∧ Hid (CcTo (.slice ka kn kc) (.int .i64 kd) (.slice va vn vc) (.int .i64 pg) (.int .i64 ct) wo g c wx))) (fun _ _ s27 _ => 3 - (intOf s27).toNat)
      case atStart => exact .inl ⟨g1, k1, rfl, .inl rfl, hidden ⟨HO1.out, HB1.out⟩⟩
      case round =>
        rcases hrel with ⟨g, c, rfl, rfl | rfl, HR⟩ | ⟨g, c, rfl, rfl | rfl, HR⟩
        · obtain ⟨t0, t1, t2⟩ := (show Tri wr s _ _ _ from box_on HS.out HR.out.2).cells
          have hr0 : ∀ ty, (Builtin.append_ #[83, 83] ty #[.slice (some ⟨g, 0, none⟩) 0 c, .slice a0 0 c0]).run Tryz.prog wr = .ok (.slice (some ⟨g, 0, none⟩) 0 c) wr := fun ty => app_none wr ty a0 c0 _ 0 c (by omega)
          go_wp2_with (at_builtin; refine append_wp rfl _ _ _ _ rfl _ _ rfl rfl (hr0 _) ?_)
          go_roundw
          case rel => exact .inl ⟨g, c, rfl, .inr rfl, HR⟩
          case measure => simp [intOf]
        · obtain ⟨t0, t1, t2⟩ := (show Tri wr s _ _ _ from box_on HS.out HR.out.2).cells
          have HO := hidden HR.out.1
          have hsz := HR.out.2.size
          go_wp2_with (at_builtin; refine wpList_append_own_at wr rfl _ _ 83 rfl wo.heap.size 29 ic _ 5 72 Tryz.underlying83 hic hz0 hz1 hz2 rfl (by decide) _ 0 [] rfl HO.out ⟨h, 0, none⟩ 1 c1 [.slice ka kn kc, .int .i64 kd, .slice va vn vc, .int .i64 pg, .int .i64 ct] rfl (by rfl) (fun j q hq => by rw [Addr.add_lit]; exact HX.out _ HR.out.2 j q hq) (by simp [Value.oneCell']) (by unfold maxLen; omega) (by omega) hsz ?_; refine Hid.out ?_)
          apply hidden
          intro v' w5 q1 q5 _ _
          have hlow := HO.out
          have hb5 : Below wo.heap.size wo w5 := HR.out.2.grown q5 hsz (fun k hk => by
            simp [Value.ownBlock] at hk
            subst hk
            rcases hlow.2 with ⟨e, _⟩ | ⟨q, c', cur, e, hq, _⟩
            · cases e
            · injection e with e
              injection e with e
              injection e with e
              omega)
          obtain ⟨g5, c5, rfl⟩ : ∃ g c, v' = .slice (some ⟨g, 0, none⟩) 1 c := by
            rcases q1.2 with ⟨_, h0⟩ | ⟨q, c', cur, rfl, _⟩
            · cases h0
            · exact ⟨q, c', by first | rfl | trivial⟩
          have HFIN : Hid (CcTo (.slice ka kn kc) (.int .i64 kd) (.slice va vn vc) (.int .i64 pg) (.int .i64 ct) wo g5 c5 w5) := hidden ⟨q1, hb5⟩
          clear q1 q5 hb5 hlow hsz t0 t1 t2 HO HR
          go_wp2
          go_roundw
          case rel => exact .inr ⟨g5, c5, rfl, .inl rfl, HFIN⟩
          case measure => simp [intOf]
        · obtain ⟨t0, t1, t2⟩ := (show Tri wr s _ _ _ from box_on HS.out HR.out.2).cells
          have hc1 : 1 ≤ c := by
            rcases HR.out.1.2 with ⟨e, _⟩ | ⟨q, c', cur, e, _, _, hn, _⟩
            · cases e
            · injection e with e1 e2 e3
              omega
          have hr0 : ∀ ty, (Builtin.append_ #[83, 83] ty #[.slice (some ⟨g, 0, none⟩) 1 c, .slice a2 0 c2]).run Tryz.prog wr = .ok (.slice (some ⟨g, 0, none⟩) 1 c) wr := fun ty => app_none wr ty a2 c2 _ 1 c hc1
          go_wp2_with (at_builtin; refine append_wp rfl _ _ _ _ rfl _ _ rfl rfl (hr0 _) ?_)
          go_roundw
          case rel => exact .inr ⟨g, c, rfl, .inr rfl, HR⟩
          case measure => simp [intOf]
        · go_wp2
          go_ret
          exact ⟨g, c, rfl, HR⟩
set_option maxRecDepth 100000 in
set_option maxHeartbeats 1000000 in
theorem equalF_1 (w : World) (g c h c2 : Nat) (ka : Option Addr) (kn kc : Nat) (k1 : Int) (va : Option Addr) (vn vc : Nat) (pg : Int) (la : Option Addr) (ln lc : Nat) (k2 : Int) (ua : Option Addr) (un uc : Nat) (ct : Int) (hct : ¬ ct = 0)
    (hx : ∀ j u, [Value.slice ka kn kc, .int .i64 k1, .slice va vn vc, .int .i64 pg, .int .i64 ct][j]? = some u → w.cell? ⟨g, j, none⟩ = some u) (hy : C5 w h (.slice la ln lc) (.int .i64 k2) (.slice ua un uc) (.int .i64 pg) (.int .i64 0)) :
    Calls Tryz.prog 61 #[.slice (some ⟨g, 0, none⟩) 1 c, .slice (some ⟨h, 0, none⟩) 1 c2, .func (.func 62) #[] #[]] w fun e w' => e = .returned (.bool false) ∧ Hid (Below w.heap.size w w') := by
  have x0 := hx 0 _ rfl
  have x1 := hx 1 _ rfl
  have x2 := hx 2 _ rfl
  have x3 := hx 3 _ rfl
  have x4 := hx 4 _ rfl
  obtain ⟨y, hyy⟩ : ∃ y, w.alloc (.cells #[.slice ka kn kc, .int .i64 k1, .slice va vn vc, .int .i64 pg, .int .i64 ct] 29) = y := ⟨_, by first | rfl | trivial⟩
  have hby : Below w.heap.size w y := by rw [← hyy]; exact bl_al (Below.refl _ _) (Nat.le_refl _) _
  obtain ⟨z0, z1, z2, z3, z4⟩ := (show C5 y h _ _ _ _ _ from box_on hy hby).cells
  have hyc : C5 y w.heap.size (.slice ka kn kc) (.int .i64 k1) (.slice va vn vc) (.int .i64 pg) (.int .i64 ct) := by rw [← hyy]; exact C5.box _ _ _ _ _ _
  have HYC := hidden hyc
  have HBY := hidden hby
  have HL := hidden (fun u => leadAlike_no u ka kn kc k1 va vn vc pg la ln lc k2 ua un uc ct hct)
  clear hx hy hby hyc
  go_enter Tryz.func61, Tryz.ntmps61
  go_wp2_with fail
  go_loopw [7, 8, 9, 17] (fun s7 s8 s9 s17 wr => s17 = .int .i64 0 ∧ wr = w) (fun _ _ _ _ _ => 0)
  case atStart => exact ⟨rfl, by first | rfl | trivial⟩
  case round =>
    obtain ⟨rfl, rfl⟩ := hrel
    go_upto_region 7 with fail
    obtain ⟨z, hzz⟩ : ∃ z, y.alloc (.cells #[.slice la ln lc, .int .i64 k2, .slice ua un uc, .int .i64 pg, .int .i64 0] 29) = z := ⟨_, rfl⟩
    have hbz : Below y.heap.size y z := by rw [← hzz]; exact bl_al (Below.refl _ _) (Nat.le_refl _) _
    obtain ⟨p0, p1, p2, p3, p4⟩ := (show C5 z wr.heap.size _ _ _ _ _ from box_on HYC.out hbz).cells
    obtain ⟨r0, r1, r2, r3, r4⟩ := (show C5 z y.heap.size (.slice la ln lc) (.int .i64 k2) (.slice ua un uc) (.int .i64 pg) (.int .i64 0) by rw [← hzz]; exact C5.box _ _ _ _ _ _).cells
    have HBZ := hidden (bl_go HBY.out (Nat.le_refl _) hbz)
    rw [hzz]
    clear hzz hbz
    go_wp2_with (first | (go_at_call 62; refine (HL.out _).mono ?_; rintro e w2 ⟨rfl, HB2⟩))
    go_ret
    exact ⟨rfl, hidden (bl_go HBZ.out (Nat.le_refl _) HB2.out)⟩
end Go.Proofs.YtfcbfombobelmaaGreatDoor
