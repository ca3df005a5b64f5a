/- Layer 12: the cells above a leaf that has changed. -/
import Derived.Test.YtfcbfombobelmaaGreatDoorJ38
import Derived.Test.YtfcbfombobelmaaGreatDoorJ39
namespace Go.Proofs.YtfcbfombobelmaaGreatDoor
open Go.RowKit

/-- What renewed makes of a leaf with cells. -/
def RnTo (b m : Nat) (rd root : Int) (M : Int → Option Pf) (ct : Nat) (cs : List Cl) (w : World) (g c : Nat) (w' : World) : Prop :=
  w'.ownsRow w.heap.size 29 5 (.slice (some ⟨g, 0, none⟩) 1 c) 1 [.slice none 0 0, .int .i64 3, .slice none 0 0, .int .i64 root, .int .i64 1] ∧ Cf (Bo b m) w w' ∧ ∃ f : Pf, f.l = pgB 2 512 cs ∧ w.heap.size ≤ f.g ∧ Bq w' b m rd (putM M root f) ct
set_option maxRecDepth 100000 in
theorem OwnJ.cell0 {w : World} {B g c : Nat} {r : Int} (h : Pg1 w B g c r) : w.cell? ⟨g, 0, none⟩ = some (.int .i64 r) := by
  unfold Pg1 OwnJ at h
  have := h.cellAt 0 (by simp)
  simpa [IV] using this
set_option maxRecDepth 100000 in
theorem own_low {w : World} {B C : Nat} {e : TypeId} {sz n : Nat} {v : Value} {xs : List Value} (h : w.ownsRow B e sz v n xs) (hc : C ≤ B) : w.ownsRow C e sz v n xs := by
  refine ⟨h.1, ?_⟩
  rcases h.2 with h6 | ⟨g', c', cur, e, hg, r'⟩
  · exact .inl h6
  · exact .inr ⟨g', c', cur, e, Nat.le_trans hc hg, r'⟩
/-- What one load reads. -/
def S1 (s : Nat) (v : Value) (u : World) : Prop := u.cell? ⟨s, 0, none⟩ = some v ∧ True
set_option maxRecDepth 100000 in
set_option maxHeartbeats 4000000 in
theorem renewed_1 (w : World) (p b m : Nat) (rd root : Int) (M : Int → Option Pf) (ct : Nat) (hc : Chg w p b (.slice none 0 0)) (hb : Bq w b m rd M ct) (ht : TB w b m) (hpb : p ≠ b ∧ p ≠ m) (s : Nat) (hs : C5 w s (.slice none 0 0) (.int .i64 3) (.slice none 0 0) (.int .i64 root) (.int .i64 0)) (hsb : s ≠ b ∧ s ≠ m)
    (a B : Nat) (vb vs : Value) (ds : List Cl) (hp : Po w B a 2 512 vb vs ds) (ao : Option Addr) (cap : Nat) (cs : List Cl) (hcs : SlC w ao 1 cap cs) (gd : Gd1 cs) (hM : (M root).isSome = true) (hlen : ∀ k f, M k = some f → 0 < f.l.length) (hr : (Lit.int .i64 root).wf = true) (hct : ct < 999999) :
    Calls Tryz.prog 60 #[.pointer (some ⟨p, 0, none⟩), .slice (some ⟨s, 0, none⟩) 1 1, .int .i64 0, iP a, .slice ao 1 cap] w fun e w' => ∃ g c, e = .returned (.slice (some ⟨g, 0, none⟩) 1 c) ∧ Hid (RnTo b m rd root M ct cs w g c w') := by
  have HK := hidden (kindP_any w a 2 512 _ _ hp.row)
  obtain ⟨s0, s1, s2, s3, s4⟩ := hs.cells
  have HC := hidden hc
  have HB := hidden hb
  have HT := hidden ht
  have HS := hidden hs
  have HCS := hidden hcs
  have HGD := hidden gd
  have HM := hidden (And.intro hM hlen)
  have HNE := hidden (And.intro hpb hsb)
  have HR := hidden hr
  clear hc hb ht hp hcs gd hM hlen hpb hsb hs hr
  go_enter Tryz.func60, Tryz.ntmps60
  go_wp2_with (first | (go_at_call 217; refine same_call HK.out ?_))
  go_loopw [14, 16, 80] (fun s14 s16 s80 wr => (s14 = .slice none 0 0 ∧ s80 = .int .i64 0 ∧ wr = w) ∨ (∃ og oc, s14 = .slice (some ⟨og, 0, none⟩) 1 oc ∧ s80 = .int .i64 1 ∧ Hid (Pg1 wr w.heap.size og oc root ∧ Below w.heap.size w wr))) (fun s14 _ _ _ => nilM s14)
  case atStart => exact .inl ⟨rfl, rfl, by first | rfl | trivial⟩
  case round =>
    rcases hrel with ⟨rfl, rfl, rfl⟩ | ⟨og, oc, rfl, rfl, HO⟩
    · go_upto_region 11 with fail
      obtain ⟨y, hyy⟩ : ∃ y, wr.alloc (.cells #[.slice none 0 0, .int .i64 3, .slice none 0 0, .int .i64 root, .int .i64 0] 29) = y := ⟨_, rfl⟩
      have hby : Below wr.heap.size wr y := by rw [← hyy]; exact bl_al (Below.refl _ _) (Nat.le_refl _) _
      have y3 := (show C5 y wr.heap.size (.slice none 0 0) (.int .i64 3) (.slice none 0 0) (.int .i64 root) (.int .i64 0) by rw [← hyy]; exact C5.box _ _ _ _ _ _).cells.2.2.2.1
      obtain ⟨u, hu⟩ : ∃ u, y.alloc (.cells #[.int .i64 root] 3) = u := ⟨_, rfl⟩
      have hbu : Below y.heap.size y u := by rw [← hu]; exact bl_al (Below.refl _ _) (Nat.le_refl _) _
      have hyu : u.cell? ⟨y.heap.size, 0, none⟩ = some (.int .i64 root) := by rw [← hu]; simp
      have hwu := bl_go hby (Nat.le_refl _) hbu
      have hle : wr.heap.size ≤ u.heap.size := hwu.size
      have HWU := hidden hwu
      rw [hyy]
      clear hby hbu hyy hwu
      go_wp2_with (at_builtin; refine app_j u rfl _ _ rfl wr.heap.size [] root _ y.heap.size rfl rfl (OwnJ.nil _ _) hyu (by simp) hle ?_; refine Hid.out ?_)
      apply hidden
      intro v' w3 h1 h2
      have hb3 : Below u.heap.size u w3 := (Below.refl _ _).grown h2.grow (Nat.le_refl _) (fun k hk => by cases hk)
      obtain ⟨g, c, rfl⟩ : ∃ g c, v' = .slice (some ⟨g, 0, none⟩) 1 c := by
        unfold OwnJ at h1
        rcases h1.2 with ⟨_, h0⟩ | ⟨q, c', cur, rfl, _⟩
        · cases h0
        · exact ⟨q, c', rfl⟩
      have HP1 : Hid (Pg1 w3 wr.heap.size g c root ∧ Below wr.heap.size wr w3) := hidden ⟨h1, bl_go HWU.out (Nat.le_refl _) hb3⟩
      clear h1 h2 hb3 hyu hle hu y3
      go_wp2
      go_roundw
      case rel => exact .inr ⟨g, c, rfl, rfl, HP1⟩
      case measure => simp [nilM]
    · have HSF : Hid (∀ u, Cf (Bo b m) w u → S1 s (.slice none 0 0) u) := hidden fun u hu => by
        have hn := HNE.out
        have h1 : C5 u s _ _ _ _ _ := (hu.block s (lt_some HS.out) (by rintro (e | e) <;> omega)).trans HS.out
        exact ⟨h1.cells.1, trivial⟩
      have HLD : Hid (∀ u, Below wr.heap.size wr u → Calls Tryz.prog 58 #[.pointer (some ⟨p, 0, none⟩), .int .i64 2, .slice none 0 0, .slice ao 1 cap, .slice (some ⟨og, 0, none⟩) 1 oc] u fun e w' => ∃ g c, e = .returned (.slice (some ⟨g, 0, none⟩) 1 c) ∧ Hid (LdTo b m rd root (fun M1 => M1 = M) ct cs none 0 0 1 u g c w')) := hidden fun u hu => by
        obtain ⟨h1, h2⟩ := HO.out
        have hwu := bl_go h2 (Nat.le_refl _) hu
        have hcu : Chg u p b (.slice none 0 0) := box_on HC.out hwu
        exact laid_leaf u p b m rd root M (fun M1 => M1 = M) ct ct (.slice none 0 0) (.slice (some ⟨og, 0, none⟩) 1 oc) hcu (HB.out.on hwu) (HT.out.go (Cf.of_below hwu)) HNE.out.1 none 0 0 ao 1 cap cs (HCS.out.on hwu) HGD.out (by omega) (by rintro M1 rfl; exact HM.out.1) (by rintro M1 rfl; exact HM.out.2) HR.out (by omega) (fun v hv => by
          have hj : Pg1 v w.heap.size og oc root := OwnJ.below (OwnJ.below h1 hu) hv
          refine (pages_keep v p b m rd root M ct _ (box_on hcu hv) (HB.out.on (bl_go hwu (Nat.le_refl _) hv)) HM.out.1 HR.out og oc (OwnJ.cell0 hj)).mono ?_
          rintro e w' ⟨g, c, rfl, h3, h4⟩
          exact ⟨g, c, rfl, hidden ⟨M, rfl, h3.out, Cf.of_below h4.out, HB.out.on (bl_go (bl_go hwu (Nat.le_refl _) hv) (Nat.le_refl _) h4.out)⟩⟩)
      have HWR := hidden HO.out.2
      clear HO HC HB HT HCS HGD HM HR HK
      go_upto_region 13 with fail
      refine wp_region_held_drew (S := S1 s (.slice none 0 0)) (by kernel_rfl) (HSF.out _ (Cf.of_below HWR.out.drew)) (fun hHeld => ?_)
      refine wpAnyH_take (i := 0) (v := ?_) rfl (by kernel_rfl) (by kernel_rfl) (by kernel_rfl) (fun _ _ _ h => h) (Or.inl ⟨by rfl, ?_⟩) (by assumption) ?_
      rotate_left
      · (intro w hSw; obtain ⟨hSw2, _⟩ := hSw; go_simp; try (with_reducible rfl))
      try simp only [Act.put, List.getElem_toArray, List.getElem_cons_zero, List.setIfInBounds_toArray, List.set_cons_zero, List.set_cons_succ]
      refine wpAnyH_take (i := 1) (v := ?_) rfl (by kernel_rfl) (by kernel_rfl) (by kernel_rfl) (fun _ _ _ h => h) (Or.inl ⟨by rfl, ?_⟩) (by assumption) ?_
      rotate_left
      · (intro w hSw; obtain ⟨hSw2, _⟩ := hSw; go_simp; try (with_reducible rfl))
      try simp only [Act.put, List.getElem_toArray, List.getElem_cons_succ, List.getElem_cons_zero, List.setIfInBounds_toArray, List.set_cons_zero, List.set_cons_succ]
      refine wpAnyH_take (i := 2) (v := ?_) rfl (by kernel_rfl) (by kernel_rfl) (by kernel_rfl) (fun _ _ _ h => h) (Or.inl ⟨by rfl, ?_⟩) (by assumption) ?_
      rotate_left
      · (intro w hSw; obtain ⟨hSw2, _⟩ := hSw; go_simp; try (with_reducible rfl))
      try simp only [Act.put, List.getElem_toArray, List.getElem_cons_succ, List.getElem_cons_zero, List.setIfInBounds_toArray, List.set_cons_zero, List.set_cons_succ]
      refine wpAnyH_take (i := 3) (v := ?_) rfl (by kernel_rfl) (by kernel_rfl) (by kernel_rfl) (fun _ _ _ h => h) (Or.inl ⟨by rfl, ?_⟩) (by assumption) ?_
      rotate_left
      · (intro w hSw; obtain ⟨hSw2, _⟩ := hSw; go_simp; try (with_reducible rfl))
      try simp only [Act.put, List.getElem_toArray, List.getElem_cons_succ, List.getElem_cons_zero, List.setIfInBounds_toArray, List.set_cons_zero, List.set_cons_succ]
      refine wpAnyH_take (i := 4) (v := ?_) rfl (by kernel_rfl) (by kernel_rfl) (by kernel_rfl) (fun _ _ _ h => h) (Or.inl ⟨by rfl, ?_⟩) (by assumption) ?_
      rotate_left
      · (intro w hSw; obtain ⟨hSw2, _⟩ := hSw; go_simp; try (with_reducible rfl))
      try simp only [Act.put, List.getElem_toArray, List.getElem_cons_succ, List.getElem_cons_zero, List.setIfInBounds_toArray, List.set_cons_zero, List.set_cons_succ]
      refine wpAnyH_take (i := 5) (v := ?_) rfl (by kernel_rfl) (by kernel_rfl) (by kernel_rfl) (fun _ _ _ h => h) (Or.inl ⟨by rfl, ?_⟩) (by assumption) ?_
      rotate_left
      · (intro w hSw; obtain ⟨hSw2, _⟩ := hSw; go_simp; try (with_reducible rfl))
      try simp only [Act.put, List.getElem_toArray, List.getElem_cons_succ, List.getElem_cons_zero, List.setIfInBounds_toArray, List.set_cons_zero, List.set_cons_succ]
      refine wpAnyH_take (i := 6) (v := ?_) rfl (by kernel_rfl) (by kernel_rfl) (by kernel_rfl) (fun _ _ _ h => h) (Or.inl ⟨by rfl, ?_⟩) (by assumption) ?_
      rotate_left
      · (intro w hSw; obtain ⟨hSw2, _⟩ := hSw; go_simp; try (with_reducible rfl))
      try simp only [Act.put, List.getElem_toArray, List.getElem_cons_succ, List.getElem_cons_zero, List.setIfInBounds_toArray, List.set_cons_zero, List.set_cons_succ]
      refine wpAnyH_take (i := 7) (v := ?_) rfl (by kernel_rfl) (by kernel_rfl) (by kernel_rfl) (fun _ _ _ h => h) (Or.inl ⟨by rfl, ?_⟩) (by assumption) ?_
      rotate_left
      · (intro w hSw; obtain ⟨hSw2, _⟩ := hSw; go_simp; try (with_reducible rfl))
      try simp only [Act.put, List.getElem_toArray, List.getElem_cons_succ, List.getElem_cons_zero, List.setIfInBounds_toArray, List.set_cons_zero, List.set_cons_succ]
      refine wpAnyH_take (i := 8) (v := ?_) rfl (by kernel_rfl) (by kernel_rfl) (by kernel_rfl) (fun _ _ _ h => h) (Or.inl ⟨by rfl, ?_⟩) (by assumption) ?_
      rotate_left
      · (intro w hSw; obtain ⟨hSw2, _⟩ := hSw; go_simp; try (with_reducible rfl))
      try simp only [Act.put, List.getElem_toArray, List.getElem_cons_succ, List.getElem_cons_zero, List.setIfInBounds_toArray, List.set_cons_zero, List.set_cons_succ]
      refine wpAnyH_take (i := 9) (v := ?_) rfl (by kernel_rfl) (by kernel_rfl) (by kernel_rfl) (fun _ _ _ h => h) (Or.inl ⟨by rfl, ?_⟩) (by assumption) ?_
      rotate_left
      · (intro w hSw; obtain ⟨hSw2, _⟩ := hSw; go_simp; try (with_reducible rfl))
      try simp only [Act.put, List.getElem_toArray, List.getElem_cons_succ, List.getElem_cons_zero, List.setIfInBounds_toArray, List.set_cons_zero, List.set_cons_succ]
      refine wpAnyH_take (i := 10) (v := ?_) rfl (by kernel_rfl) (by kernel_rfl) (by kernel_rfl) (fun _ _ _ h => h) (Or.inl ⟨by rfl, ?_⟩) (by assumption) ?_
      rotate_left
      · (intro w hSw; obtain ⟨hSw2, _⟩ := hSw; go_simp; try (with_reducible rfl))
      try simp only [Act.put, List.getElem_toArray, List.getElem_cons_succ, List.getElem_cons_zero, List.setIfInBounds_toArray, List.set_cons_zero, List.set_cons_succ]
      refine wpAnyH_take (i := 11) (v := ?_) rfl (by kernel_rfl) (by kernel_rfl) (by kernel_rfl) (fun _ _ _ h => h) (Or.inl ⟨by rfl, ?_⟩) (by assumption) ?_
      rotate_left
      · (intro w hSw; obtain ⟨hSw2, _⟩ := hSw; go_simp; try (with_reducible rfl))
      try simp only [Act.put, List.getElem_toArray, List.getElem_cons_succ, List.getElem_cons_zero, List.setIfInBounds_toArray, List.set_cons_zero, List.set_cons_succ]
      refine wpAnyH_take (i := 13) (v := ?_) rfl (by kernel_rfl) (by kernel_rfl) (by kernel_rfl) (fun _ _ _ h => h) (Or.inl ⟨by rfl, ?_⟩) (by assumption) ?_
      rotate_left
      · (intro w hSw; obtain ⟨hSw2, _⟩ := hSw; go_simp; try (with_reducible rfl))
      try simp only [Act.put, List.getElem_toArray, List.getElem_cons_succ, List.getElem_cons_zero, List.setIfInBounds_toArray, List.set_cons_zero, List.set_cons_succ]
      refine wpAnyH_take (i := 14) (v := ?_) rfl (by kernel_rfl) (by kernel_rfl) (by kernel_rfl) (fun _ _ _ h => h) (Or.inl ⟨by rfl, ?_⟩) (by assumption) ?_
      rotate_left
      · (intro w hSw; obtain ⟨hSw2, _⟩ := hSw; go_simp; try (with_reducible rfl))
      try simp only [Act.put, List.getElem_toArray, List.getElem_cons_succ, List.getElem_cons_zero, List.setIfInBounds_toArray, List.set_cons_zero, List.set_cons_succ]
      refine wpAnyH_take (i := 15) (v := ?_) rfl (by kernel_rfl) (by kernel_rfl) (by kernel_rfl) (fun _ _ _ h => h) (Or.inl ⟨by rfl, ?_⟩) (by assumption) ?_
      rotate_left
      · (intro w hSw; obtain ⟨hSw2, _⟩ := hSw; go_simp; try (with_reducible rfl))
      try simp only [Act.put, List.getElem_toArray, List.getElem_cons_succ, List.getElem_cons_zero, List.setIfInBounds_toArray, List.set_cons_zero, List.set_cons_succ]
      refine wpAnyH_ready (rs := [12]) (by kernel_rfl) (by simp) ?_
      refine AllReadyH.cons rfl (fun K hK => ?_) AllReadyH.nil
      go_simp
      go_at_call 58
      refine (HLD.out _ (Below.refl _ _).drew).mono ?_
      rintro e w3 ⟨g, c, rfl, HQ3⟩
      dsimp only
      have hc3 : Cf (Bo b m) w w3 := (Cf.of_below HWR.out.drew).go HQ3.out.2.1
      refine hK.out _ _ (HSF.out _ hc3) (fun hHeld => ?_)
      clear hK K
      try simp only [Act.put, List.getElem_toArray, List.getElem_cons_succ, List.getElem_cons_zero, List.setIfInBounds_toArray, List.set_cons_zero, List.set_cons_succ]
      have HCC : Hid (∀ a0 c0 a2 c2, Calls Tryz.prog 73 #[.slice (some ⟨w3.heap.size, 0, none⟩) 3 3] (w3.alloc (.cells #[.slice a0 0 c0, .slice (some ⟨g, 0, none⟩) 1 c, .slice a2 0 c2] 83)) fun e w' => ∃ g c, e = .returned (.slice (some ⟨g, 0, none⟩) 1 c) ∧ Hid (RnTo b m rd root M ct cs w g c w')) := hidden fun a0 c0 a2 c2 => by
        obtain ⟨q1, q2, M1, rfl, f, q3, q4, q5⟩ := HQ3.out
        have hba : Below w3.heap.size w3 (w3.alloc (.cells #[.slice a0 0 c0, .slice (some ⟨g, 0, none⟩) 1 c, .slice a2 0 c2] 83)) := bl_al (Below.refl _ _) (Nat.le_refl _) _
        refine (concat_1 _ w3.heap.size a0 a2 c0 c c2 g none 0 0 3 none 0 0 root 1 (heap_alloc_last w3 _) (fun j u hj => ?_)).mono ?_
        · have h := q1.cells (g := g) rfl j u hj
          rw [Addr.add_lit, Nat.zero_add] at h
          exact (hba.cell (p := ⟨g, j, none⟩) (World.block_lt_of_cell? w3 ⟨g, j, none⟩ (by rw [h]))).trans h
        · rintro e w' ⟨g4, c4, rfl, HQ4⟩
          have hb4 := bl_go hba (Nat.le_refl _) HQ4.out.2
          have hws := HWR.out.size
          have h3s := q2.size
          have h3b := hba.size
          exact ⟨g4, c4, rfl, hidden ⟨own_low HQ4.out.1 (by simp only [World.size_drew] at *; omega), hc3.go (Cf.of_below hb4), f, q3, by simp only [World.size_drew] at *; omega, q5.on hb4⟩⟩
      have HC3 := hidden hc3
      clear hc3 HLD HQ3
      refine wpAnyH_ready (rs := [16]) (by kernel_rfl) (by simp) ?_
      refine AllReadyH.cons rfl (fun K hK => ?_) AllReadyH.nil
      go_simp
      refine hK.out _ _ (HSF.out _ (HC3.out.go (Cf.of_below (bl_al (Below.refl _ _) (Nat.le_refl _) _)))) (fun hHeld => ?_)
      clear hK K
      try simp only [Act.put, List.getElem_toArray, List.getElem_cons_succ, List.getElem_cons_zero, List.setIfInBounds_toArray, List.set_cons_zero, List.set_cons_succ]
      refine wpAnyH_ready (rs := [17]) (by kernel_rfl) (by simp) ?_
      refine AllReadyH.cons rfl (fun K hK => ?_) AllReadyH.nil
      go_simp
      go_at_call 73
      refine (HCC.out _ _ _ _).mono ?_
      rintro e w4 ⟨g4, c4, rfl, HQ4⟩
      dsimp only
      refine hK.out _ _ (HSF.out _ HQ4.out.2.1) (fun hHeld => ?_)
      clear hK K
      try simp only [Act.put, List.getElem_toArray, List.getElem_cons_succ, List.getElem_cons_zero, List.setIfInBounds_toArray, List.set_cons_zero, List.set_cons_succ]
      refine wpAnyH_take (i := 18) (v := ?_) rfl (by kernel_rfl) (by kernel_rfl) (by kernel_rfl) (fun _ _ _ h => h) (Or.inl ⟨by rfl, ?_⟩) (by assumption) ?_
      rotate_left
      · (intro w hSw; obtain ⟨hSw2, _⟩ := hSw; go_simp; try (with_reducible rfl))
      try simp only [Act.put, List.getElem_toArray, List.getElem_cons_succ, List.getElem_cons_zero, List.setIfInBounds_toArray, List.set_cons_zero, List.set_cons_succ]
      refine wpAnyH_done (by kernel_rfl) ?_ _
      clear hHeld
      go_wp2
      go_ret
      exact ⟨g4, c4, rfl, HQ4⟩
set_option maxRecDepth 100000 in
set_option maxHeartbeats 4000000 in
theorem renewed_0 (w : World) (p b : Nat) (root : Int) (hc : Chg w p b (.slice none 0 0)) (s : Nat) (hs : C5 w s (.slice none 0 0) (.int .i64 3) (.slice none 0 0) (.int .i64 root) (.int .i64 0)) (hsp : s ≠ p)
    (a B : Nat) (vb vs : Value) (ds : List Cl) (hp : Po w B a 2 512 vb vs ds) (ao : Option Addr) (cap : Nat) :
    Calls Tryz.prog 60 #[.pointer (some ⟨p, 0, none⟩), .slice (some ⟨s, 0, none⟩) 1 1, .int .i64 0, iP a, .slice ao 0 cap] w fun e w' => e = .returned (.slice none 0 0) ∧ Hid (∃ g c, Pg1 w' w.heap.size g c root ∧ Chg w' p b (.slice (some ⟨g, 0, none⟩) 1 c) ∧ Cf (· = p) w w') := by
  have HK := hidden (kindP_any w a 2 512 _ _ hp.row)
  obtain ⟨s0, s1, s2, s3, s4⟩ := hs.cells
  have HC := hidden hc
  have HS := hidden hs
  have HNE := hidden hsp
  clear hc hp hsp hs
  go_enter Tryz.func60, Tryz.ntmps60
  go_wp2_with (first | (go_at_call 217; refine same_call HK.out ?_))
  go_loopw [14, 16, 80] (fun s14 s16 s80 wr => (s14 = .slice none 0 0 ∧ s80 = .int .i64 0 ∧ wr = w) ∨ (∃ og oc, s14 = .slice (some ⟨og, 0, none⟩) 1 oc ∧ s80 = .int .i64 1 ∧ Hid (Pg1 wr w.heap.size og oc root ∧ Below w.heap.size w wr))) (fun s14 _ _ _ => nilM s14)
  case atStart => exact .inl ⟨rfl, rfl, by first | rfl | trivial⟩
  case round =>
    rcases hrel with ⟨rfl, rfl, rfl⟩ | ⟨og, oc, rfl, rfl, HO⟩
    · go_upto_region 11 with fail
      obtain ⟨y, hyy⟩ : ∃ y, wr.alloc (.cells #[.slice none 0 0, .int .i64 3, .slice none 0 0, .int .i64 root, .int .i64 0] 29) = y := ⟨_, rfl⟩
      have hby : Below wr.heap.size wr y := by rw [← hyy]; exact bl_al (Below.refl _ _) (Nat.le_refl _) _
      have y3 := (show C5 y wr.heap.size (.slice none 0 0) (.int .i64 3) (.slice none 0 0) (.int .i64 root) (.int .i64 0) by rw [← hyy]; exact C5.box _ _ _ _ _ _).cells.2.2.2.1
      obtain ⟨u, hu⟩ : ∃ u, y.alloc (.cells #[.int .i64 root] 3) = u := ⟨_, rfl⟩
      have hbu : Below y.heap.size y u := by rw [← hu]; exact bl_al (Below.refl _ _) (Nat.le_refl _) _
      have hyu : u.cell? ⟨y.heap.size, 0, none⟩ = some (.int .i64 root) := by rw [← hu]; simp
      have hwu := bl_go hby (Nat.le_refl _) hbu
      have hle : wr.heap.size ≤ u.heap.size := hwu.size
      have HWU := hidden hwu
      rw [hyy]
      clear hby hbu hyy hwu
      go_wp2_with (at_builtin; refine app_j u rfl _ _ rfl wr.heap.size [] root _ y.heap.size rfl rfl (OwnJ.nil _ _) hyu (by simp) hle ?_; refine Hid.out ?_)
      apply hidden
      intro v' w3 h1 h2
      have hb3 : Below u.heap.size u w3 := (Below.refl _ _).grown h2.grow (Nat.le_refl _) (fun k hk => by cases hk)
      obtain ⟨g, c, rfl⟩ : ∃ g c, v' = .slice (some ⟨g, 0, none⟩) 1 c := by
        unfold OwnJ at h1
        rcases h1.2 with ⟨_, h0⟩ | ⟨q, c', cur, rfl, _⟩
        · cases h0
        · exact ⟨q, c', rfl⟩
      have HP1 : Hid (Pg1 w3 wr.heap.size g c root ∧ Below wr.heap.size wr w3) := hidden ⟨h1, bl_go HWU.out (Nat.le_refl _) hb3⟩
      clear h1 h2 hb3 hyu hle hu y3
      go_wp2
      go_roundw
      case rel => exact .inr ⟨g, c, rfl, rfl, HP1⟩
      case measure => simp [nilM]
    · have HSF : Hid (∀ u, Cf (· = p) w u → S1 s (.slice none 0 0) u) := hidden fun u hu => by
        have h1 : C5 u s _ _ _ _ _ := (hu.block s (lt_some HS.out) HNE.out).trans HS.out
        exact ⟨h1.cells.1, trivial⟩
      have HLD : Hid (∀ u, Below wr.heap.size wr u → Calls Tryz.prog 58 #[.pointer (some ⟨p, 0, none⟩), .int .i64 2, .slice none 0 0, .slice ao 0 cap, .slice (some ⟨og, 0, none⟩) 1 oc] u fun e w' => e = .returned (.slice none 0 0) ∧ Hid (∃ g c, Pg1 w' w.heap.size g c root ∧ Chg w' p b (.slice (some ⟨g, 0, none⟩) 1 c) ∧ Cf (· = p) w w')) := hidden fun u hu => by
        obtain ⟨h1, h2⟩ := HO.out
        have hwu := bl_go h2 (Nat.le_refl _) hu
        refine (laid_0 u p b root (box_on HC.out hwu) none 0 0 ao cap og oc (OwnJ.cell0 (OwnJ.below h1 hu))).mono ?_
        rintro e w' ⟨g, c, rfl, h3, h4⟩
        exact ⟨rfl, hidden ⟨g, c, own_low h3.out.1 hwu.size, h3.out.2, (Cf.of_below hwu).go h4.out⟩⟩
      have HWR := hidden HO.out.2
      clear HO HC HK
      go_upto_region 13 with fail
      refine wp_region_held_drew (S := S1 s (.slice none 0 0)) (by kernel_rfl) (HSF.out _ (Cf.of_below HWR.out.drew)) (fun hHeld => ?_)
      refine wpAnyH_take (i := 0) (v := ?_) rfl (by kernel_rfl) (by kernel_rfl) (by kernel_rfl) (fun _ _ _ h => h) (Or.inl ⟨by rfl, ?_⟩) (by assumption) ?_
      rotate_left
      · (intro w hSw; obtain ⟨hSw2, _⟩ := hSw; go_simp; try (with_reducible rfl))
      try simp only [Act.put, List.getElem_toArray, List.getElem_cons_zero, List.setIfInBounds_toArray, List.set_cons_zero, List.set_cons_succ]
      refine wpAnyH_take (i := 1) (v := ?_) rfl (by kernel_rfl) (by kernel_rfl) (by kernel_rfl) (fun _ _ _ h => h) (Or.inl ⟨by rfl, ?_⟩) (by assumption) ?_
      rotate_left
      · (intro w hSw; obtain ⟨hSw2, _⟩ := hSw; go_simp; try (with_reducible rfl))
      try simp only [Act.put, List.getElem_toArray, List.getElem_cons_succ, List.getElem_cons_zero, List.setIfInBounds_toArray, List.set_cons_zero, List.set_cons_succ]
      refine wpAnyH_take (i := 2) (v := ?_) rfl (by kernel_rfl) (by kernel_rfl) (by kernel_rfl) (fun _ _ _ h => h) (Or.inl ⟨by rfl, ?_⟩) (by assumption) ?_
      rotate_left
      · (intro w hSw; obtain ⟨hSw2, _⟩ := hSw; go_simp; try (with_reducible rfl))
      try simp only [Act.put, List.getElem_toArray, List.getElem_cons_succ, List.getElem_cons_zero, List.setIfInBounds_toArray, List.set_cons_zero, List.set_cons_succ]
      refine wpAnyH_take (i := 3) (v := ?_) rfl (by kernel_rfl) (by kernel_rfl) (by kernel_rfl) (fun _ _ _ h => h) (Or.inl ⟨by rfl, ?_⟩) (by assumption) ?_
      rotate_left
      · (intro w hSw; obtain ⟨hSw2, _⟩ := hSw; go_simp; try (with_reducible rfl))
      try simp only [Act.put, List.getElem_toArray, List.getElem_cons_succ, List.getElem_cons_zero, List.setIfInBounds_toArray, List.set_cons_zero, List.set_cons_succ]
      refine wpAnyH_take (i := 4) (v := ?_) rfl (by kernel_rfl) (by kernel_rfl) (by kernel_rfl) (fun _ _ _ h => h) (Or.inl ⟨by rfl, ?_⟩) (by assumption) ?_
      rotate_left
      · (intro w hSw; obtain ⟨hSw2, _⟩ := hSw; go_simp; try (with_reducible rfl))
      try simp only [Act.put, List.getElem_toArray, List.getElem_cons_succ, List.getElem_cons_zero, List.setIfInBounds_toArray, List.set_cons_zero, List.set_cons_succ]
      refine wpAnyH_take (i := 5) (v := ?_) rfl (by kernel_rfl) (by kernel_rfl) (by kernel_rfl) (fun _ _ _ h => h) (Or.inl ⟨by rfl, ?_⟩) (by assumption) ?_
      rotate_left
      · (intro w hSw; obtain ⟨hSw2, _⟩ := hSw; go_simp; try (with_reducible rfl))
      try simp only [Act.put, List.getElem_toArray, List.getElem_cons_succ, List.getElem_cons_zero, List.setIfInBounds_toArray, List.set_cons_zero, List.set_cons_succ]
      refine wpAnyH_take (i := 6) (v := ?_) rfl (by kernel_rfl) (by kernel_rfl) (by kernel_rfl) (fun _ _ _ h => h) (Or.inl ⟨by rfl, ?_⟩) (by assumption) ?_
      rotate_left
      · (intro w hSw; obtain ⟨hSw2, _⟩ := hSw; go_simp; try (with_reducible rfl))
      try simp only [Act.put, List.getElem_toArray, List.getElem_cons_succ, List.getElem_cons_zero, List.setIfInBounds_toArray, List.set_cons_zero, List.set_cons_succ]
      refine wpAnyH_take (i := 7) (v := ?_) rfl (by kernel_rfl) (by kernel_rfl) (by kernel_rfl) (fun _ _ _ h => h) (Or.inl ⟨by rfl, ?_⟩) (by assumption) ?_
      rotate_left
      · (intro w hSw; obtain ⟨hSw2, _⟩ := hSw; go_simp; try (with_reducible rfl))
      try simp only [Act.put, List.getElem_toArray, List.getElem_cons_succ, List.getElem_cons_zero, List.setIfInBounds_toArray, List.set_cons_zero, List.set_cons_succ]
      refine wpAnyH_take (i := 8) (v := ?_) rfl (by kernel_rfl) (by kernel_rfl) (by kernel_rfl) (fun _ _ _ h => h) (Or.inl ⟨by rfl, ?_⟩) (by assumption) ?_
      rotate_left
      · (intro w hSw; obtain ⟨hSw2, _⟩ := hSw; go_simp; try (with_reducible rfl))
      try simp only [Act.put, List.getElem_toArray, List.getElem_cons_succ, List.getElem_cons_zero, List.setIfInBounds_toArray, List.set_cons_zero, List.set_cons_succ]
      refine wpAnyH_take (i := 9) (v := ?_) rfl (by kernel_rfl) (by kernel_rfl) (by kernel_rfl) (fun _ _ _ h => h) (Or.inl ⟨by rfl, ?_⟩) (by assumption) ?_
      rotate_left
      · (intro w hSw; obtain ⟨hSw2, _⟩ := hSw; go_simp; try (with_reducible rfl))
      try simp only [Act.put, List.getElem_toArray, List.getElem_cons_succ, List.getElem_cons_zero, List.setIfInBounds_toArray, List.set_cons_zero, List.set_cons_succ]
      refine wpAnyH_take (i := 10) (v := ?_) rfl (by kernel_rfl) (by kernel_rfl) (by kernel_rfl) (fun _ _ _ h => h) (Or.inl ⟨by rfl, ?_⟩) (by assumption) ?_
      rotate_left
      · (intro w hSw; obtain ⟨hSw2, _⟩ := hSw; go_simp; try (with_reducible rfl))
      try simp only [Act.put, List.getElem_toArray, List.getElem_cons_succ, List.getElem_cons_zero, List.setIfInBounds_toArray, List.set_cons_zero, List.set_cons_succ]
      refine wpAnyH_take (i := 11) (v := ?_) rfl (by kernel_rfl) (by kernel_rfl) (by kernel_rfl) (fun _ _ _ h => h) (Or.inl ⟨by rfl, ?_⟩) (by assumption) ?_
      rotate_left
      · (intro w hSw; obtain ⟨hSw2, _⟩ := hSw; go_simp; try (with_reducible rfl))
      try simp only [Act.put, List.getElem_toArray, List.getElem_cons_succ, List.getElem_cons_zero, List.setIfInBounds_toArray, List.set_cons_zero, List.set_cons_succ]
      refine wpAnyH_take (i := 13) (v := ?_) rfl (by kernel_rfl) (by kernel_rfl) (by kernel_rfl) (fun _ _ _ h => h) (Or.inl ⟨by rfl, ?_⟩) (by assumption) ?_
      rotate_left
      · (intro w hSw; obtain ⟨hSw2, _⟩ := hSw; go_simp; try (with_reducible rfl))
      try simp only [Act.put, List.getElem_toArray, List.getElem_cons_succ, List.getElem_cons_zero, List.setIfInBounds_toArray, List.set_cons_zero, List.set_cons_succ]
      refine wpAnyH_take (i := 14) (v := ?_) rfl (by kernel_rfl) (by kernel_rfl) (by kernel_rfl) (fun _ _ _ h => h) (Or.inl ⟨by rfl, ?_⟩) (by assumption) ?_
      rotate_left
      · (intro w hSw; obtain ⟨hSw2, _⟩ := hSw; go_simp; try (with_reducible rfl))
      try simp only [Act.put, List.getElem_toArray, List.getElem_cons_succ, List.getElem_cons_zero, List.setIfInBounds_toArray, List.set_cons_zero, List.set_cons_succ]
      refine wpAnyH_take (i := 15) (v := ?_) rfl (by kernel_rfl) (by kernel_rfl) (by kernel_rfl) (fun _ _ _ h => h) (Or.inl ⟨by rfl, ?_⟩) (by assumption) ?_
      rotate_left
      · (intro w hSw; obtain ⟨hSw2, _⟩ := hSw; go_simp; try (with_reducible rfl))
      try simp only [Act.put, List.getElem_toArray, List.getElem_cons_succ, List.getElem_cons_zero, List.setIfInBounds_toArray, List.set_cons_zero, List.set_cons_succ]
      refine wpAnyH_ready (rs := [12]) (by kernel_rfl) (by simp) ?_
      refine AllReadyH.cons rfl (fun K hK => ?_) AllReadyH.nil
      go_simp
      go_at_call 58
      refine (HLD.out _ (Below.refl _ _).drew).mono ?_
      rintro e w3 ⟨rfl, HQ3⟩
      dsimp only
      have HC3 : Hid (Cf (· = p) w w3) := hidden (by obtain ⟨_, _, _, _, h⟩ := HQ3.out; exact h)
      refine hK.out _ _ (HSF.out _ HC3.out) (fun hHeld => ?_)
      clear hK K
      try simp only [Act.put, List.getElem_toArray, List.getElem_cons_succ, List.getElem_cons_zero, List.setIfInBounds_toArray, List.set_cons_zero, List.set_cons_succ]
      have HCC : Hid (∀ a0 c0 a2 c2, Calls Tryz.prog 73 #[.slice (some ⟨w3.heap.size, 0, none⟩) 3 3] (w3.alloc (.cells #[.slice a0 0 c0, .slice none 0 0, .slice a2 0 c2] 83)) fun e w' => e = .returned (.slice none 0 0) ∧ Hid (∃ g c, Pg1 w' w.heap.size g c root ∧ Chg w' p b (.slice (some ⟨g, 0, none⟩) 1 c) ∧ Cf (· = p) w w')) := hidden fun a0 c0 a2 c2 => by
        obtain ⟨g, c, q1, q2, q3⟩ := HQ3.out
        have hba : Below w3.heap.size w3 (w3.alloc (.cells #[.slice a0 0 c0, .slice none 0 0, .slice a2 0 c2] 83)) := bl_al (Below.refl _ _) (Nat.le_refl _) _
        refine (concat_0 _ w3.heap.size a0 a2 c0 c2 (heap_alloc_last w3 _)).mono ?_
        rintro e w' ⟨rfl, rfl⟩
        exact ⟨rfl, hidden ⟨g, c, OwnJ.below q1 hba, box_on q2 hba, q3.go (Cf.of_below hba)⟩⟩
      clear HLD HQ3
      refine wpAnyH_ready (rs := [16]) (by kernel_rfl) (by simp) ?_
      refine AllReadyH.cons rfl (fun K hK => ?_) AllReadyH.nil
      go_simp
      refine hK.out _ _ (HSF.out _ (HC3.out.go (Cf.of_below (bl_al (Below.refl _ _) (Nat.le_refl _) _)))) (fun hHeld => ?_)
      clear hK K
      try simp only [Act.put, List.getElem_toArray, List.getElem_cons_succ, List.getElem_cons_zero, List.setIfInBounds_toArray, List.set_cons_zero, List.set_cons_succ]
      refine wpAnyH_ready (rs := [17]) (by kernel_rfl) (by simp) ?_
      refine AllReadyH.cons rfl (fun K hK => ?_) AllReadyH.nil
      go_simp
      go_at_call 73
      refine (HCC.out _ _ _ _).mono ?_
      rintro e w4 ⟨rfl, HQ4⟩
      dsimp only
      refine hK.out _ _ (HSF.out _ (by obtain ⟨_, _, _, _, h⟩ := HQ4.out; exact h)) (fun hHeld => ?_)
      clear hK K
      try simp only [Act.put, List.getElem_toArray, List.getElem_cons_succ, List.getElem_cons_zero, List.setIfInBounds_toArray, List.set_cons_zero, List.set_cons_succ]
      refine wpAnyH_take (i := 18) (v := ?_) rfl (by kernel_rfl) (by kernel_rfl) (by kernel_rfl) (fun _ _ _ h => h) (Or.inl ⟨by rfl, ?_⟩) (by assumption) ?_
      rotate_left
      · (intro w hSw; obtain ⟨hSw2, _⟩ := hSw; go_simp; try (with_reducible rfl))
      try simp only [Act.put, List.getElem_toArray, List.getElem_cons_succ, List.getElem_cons_zero, List.setIfInBounds_toArray, List.set_cons_zero, List.set_cons_succ]
      refine wpAnyH_done (by kernel_rfl) ?_ _
      clear hHeld
      go_wp2
      go_ret
      exact ⟨rfl, HQ4⟩
end Go.Proofs.YtfcbfombobelmaaGreatDoor
