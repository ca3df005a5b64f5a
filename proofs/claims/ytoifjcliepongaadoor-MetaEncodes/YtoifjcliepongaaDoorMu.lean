/- The document's Encode of a meta, followed as its text goes. -/
import Derived.Test.YtoifjcliepongaaDoorMs
namespace Go.Proofs.YtoifjcliepongaaDoor
open Go.RowKit

set_option maxRecDepth 100000 in
theorem row_on {w w' : World} {g : Nat} {o : Obj} (h : w.heap[g]? = some o) (hb : Below w.heap.size w w') : w'.heap[g]? = some o := (hb.block _ (lt_some h)).trans h
set_option maxRecDepth 100000 in
theorem OwnB.go5 {w w' : World} {B : Nat} {v : Value} {l : List Int} (h : OwnB w B v l) (hb : Below w.heap.size w w') : OwnB w' B v l := h.on (Nat.le_refl _) hb
set_option maxRecDepth 100000 in
theorem meta_ne : 24 ≠ 5 := by decide
set_option maxRecDepth 100000 in
theorem int_ne : 3 ≠ 5 := by decide
set_option maxRecDepth 100000 in
theorem grown_bl {w0 w w' : World} {B : Nat} {v : Value} {l : List Int} (hb : Below B w0 w) (ho : OwnB w B v l) (hB : B ≤ w0.heap.size) (hg : w.grownBy w' v.ownBlock) : Below B w0 w' :=
  hb.trans ((Below.refl _ _).grown hg (Nat.le_trans hB hb.size) fun k hk => (ho.lt k hk).1)
/-- The last five numbers as a row. -/
def r5C (m : Mt) : Array Value := #[.int .i64 m.ro, .int .i64 m.co, .int .i64 m.fr, .int .i64 m.li, .int .i64 m.hi]
set_option maxRecDepth 100000 in
theorem r5C_at (m : Mt) (k : Nat) (h : k < 5) : (r5C m)[k]? = some (.int .i64 (m.nth (3 + k))) := by
  have h5 : k = 0 ∨ k = 1 ∨ k = 2 ∨ k = 3 ∨ k = 4 := by omega
  rcases h5 with rfl | rfl | rfl | rfl | rfl <;> rfl
set_option maxRecDepth 100000 in
theorem body_step (m : Mt) (j : Nat) : hdB m ++ zs j ++ [0] = hdB m ++ zs (j + 1) := by
  rw [List.append_assoc, zs_add]
  rfl

def slLen : Value → Nat
  | .slice _ n _ => n
  | _ => 0
set_option maxRecDepth 100000 in
theorem one_sl (w : World) (x : Int) (hx : 0 ≤ x ∧ x ≤ 255) : Sl (w.alloc (.cells #[.int .u8 x] 5)) (some ⟨w.heap.size, 0, none⟩) 1 1 [x] :=
  ⟨rfl, Nat.le_refl _, by omega, Wf.cons hx Wf.nil, (by intro h; cases h), .inr ⟨w.heap.size, 0, rfl, by simp, fun i hi => by
    obtain rfl : i = 0 := by omega
    exact lit_cell5 _ _ _ _ _ _ rfl⟩⟩

set_option maxRecDepth 100000 in
set_option maxHeartbeats 4000000 in
theorem rEncode_yes (m : Mt) (w : World) (hm : m.ok) : Calls Tryd.prog 13 #[mtV m] w fun e w' => ∃ v, e = .returned (.tuple #[v, .int .i64 0]) ∧ OwnB w' w.heap.size v (pageB m) ∧ Below w.heap.size w w' := by
  have HM := hidden hm
  have hpg := pw_le hm.pg
  have htx := hm.tx
  have hw1 : IntKind.u64.wrap m.pg = m.pg := by rw [IntKind.wrap_u64]; omega
  have hw2 : IntKind.u64.wrap m.tx = m.tx := by rw [IntKind.wrap_u64]; omega
  have hw3 : IntKind.u8.wrap m.en = m.en := by have := hm.en; rw [IntKind.wrap_u8]; omega
  have HEN := hidden hm.en
  have HCK := hidden (rCheck_any m (w.alloc (.cells (mtC m) 24)))
  clear hm
  rw [mtV_eq]
  go_enter Tryd.func13, Tryd.ntmps13
  go_wp2_with (go_at_call 10; rw [← mtV_eq]; refine HCK.out.mono ?_; rintro e w1 ⟨j, rfl, hj, hb1⟩; have HJ := hidden hj; have HB1 := hidden hb1; clear hj hb1; rw [mtV_eq]; refine Hid.out ?_)
  apply hidden
  obtain rfl : j = 0 := by
    rcases HJ.out with h | h
    · exact h.2
    · exact absurd HM.out h.1
  have HR1 := hidden (box_on (row_new w m 24) HB1.out)
  have HW1 := hidden (bl_go (bl_al (Below.refl _ w) (Nat.le_refl _) _) (Nat.le_refl _) HB1.out)
  clear HCK HJ HB1
  obtain ⟨c0, c1, c2, c3, c4, c5, c6, c7⟩ := row8 HR1.out
  have hl1 := lt_some HR1.out
  have HF1 := hidden (rFixed_row m.pg 4 (w1.alloc (.cells (By [1, m.en, 0, 0, 69, 83, 80, 76]).toArray 5)) (by omega) (by omega) (by omega) (by omega))
  go_wp2_with (go_at_call 31; refine HF1.out.mono ?_; rintro e w2 ⟨b, off, c, rfl, HS2, HB2⟩; refine Hid.out ?_)
  apply hidden
  have HO2 : Hid (OwnB w2 w.heap.size (.slice (some ⟨w1.heap.size, 0, none⟩) 8 8) [1, m.en, 0, 0, 69, 83, 80, 76]) := hidden (by
    have h1 : (w1.alloc (.cells (By [1, m.en, 0, 0, 69, 83, 80, 76]).toArray 5)).heap[w1.heap.size]? = some (.cells (By [1, m.en, 0, 0, 69, 83, 80, 76]).toArray 5 (0, 0)) := heap_alloc_last w1 _
    exact (own_of_heap (l := [1, m.en, 0, 0, 69, 83, 80, 76]) h1 HW1.out.size (by unfold maxLen; simp)).go5 HB2.out)
  have HR2 := hidden (row_on (row_on HR1.out ((Below.refl _ _).alloc (Nat.le_refl _) _)) HB2.out)
  have HW2 := hidden (bl_go (bl_al HW1.out (Nat.le_refl _) _) (Nat.le_refl _) HB2.out)
  have hsz2 := HW2.out.size
  clear c0 c1 c2 c3 c4 c5 c6 c7 HF1 HB2 HR1 HW1
  go_wp2_with (at_builtin; refine app_rw _ rfl _ _ rfl w.heap.size [1, m.en, 0, 0, 69, 83, 80, 76] _ rfl HO2.out b off 4 c _ rfl HS2.out (by simp) hsz2 ?_; intro v3 w3 HO3 HG3; refine Hid.out ?_)
  apply hidden
  have HR3 := hidden (row_grown HO2.out HR2.out meta_ne HG3.out)
  have HW3 := hidden (grown_bl HW2.out HO2.out (Nat.le_refl _) HG3.out)
  obtain ⟨c0, c1, c2, c3, c4, c5, c6, c7⟩ := row8 HR3.out
  clear HO2 HG3 HR2 HW2 HS2 hsz2
  have HF2 := hidden (rFixed_row m.tx 8 w3 (by omega) (by omega) (by omega) (by omega))
  go_wp2_with (go_at_call 31; refine HF2.out.mono ?_; rintro e w4 ⟨b', off', c', rfl, HS4, HB4⟩; refine Hid.out ?_)
  apply hidden
  have HO4 := hidden (HO3.out.go5 HB4.out)
  have HR4 := hidden (row_on HR3.out HB4.out)
  have HW4 := hidden (bl_go HW3.out (Nat.le_refl _) HB4.out)
  have hsz4 := HW4.out.size
  clear c0 c1 c2 c3 c4 c5 c6 c7 HF2 HB4 HR3 HW3 HO3
  go_wp2_with (at_builtin; refine app_rw _ rfl _ _ rfl w.heap.size ([1, m.en, 0, 0, 69, 83, 80, 76] ++ fB 4 m.pg) _ rfl HO4.out b' off' 8 c' _ rfl HS4.out (by simp [fB_length]) hsz4 ?_; intro v5 w5 HO5 HG5; refine Hid.out ?_)
  apply hidden
  have HR5 := hidden (row_grown HO4.out HR4.out meta_ne HG5.out)
  have HW5 := hidden (grown_bl HW4.out HO4.out (Nat.le_refl _) HG5.out)
  obtain ⟨c0, c1, c2, c3, c4, c5, c6, c7⟩ := row8 HR5.out
  have hl5 := lt_some HR5.out
  clear HO4 HG5 HR4 HW4 HS4 hsz4
  go_wp2_with fail
  have HO6 : Hid (OwnB (w5.alloc (.cells (r5C m) 3)) w.heap.size v5 (e5 m 0)) := hidden (HO5.out.alloc _)
  have HR6 : Hid ((w5.alloc (.cells (r5C m) 3)).heap[w.heap.size]? = some (.cells (mtC m) 24 (0, 0))) := hidden ((Below.heap_alloc _ _ _ hl5).trans HR5.out)
  have HI6 : Hid ((w5.alloc (.cells (r5C m) 3)).heap[w5.heap.size]? = some (.cells (r5C m) 3 (0, 0))) := hidden (heap_alloc_last w5 _)
  have HW6 := hidden (bl_al HW5.out (Nat.le_refl _) (.cells (r5C m) 3))
  obtain ⟨gr, hgr⟩ : ∃ g, w5.heap.size = g := ⟨_, rfl⟩
  rw [hgr] at HI6 ⊢
  clear c0 c1 c2 c3 c4 c5 c6 c7 hgr HO5 HR5 HW5
  go_loopw [5, 7] (fun v i wr => ∃ k : Nat, k ≤ 5 ∧ i = .int .i64 k ∧ Hid (OwnB wr w.heap.size v (e5 m k)) ∧ Hid (wr.heap[w.heap.size]? = some (.cells (mtC m) 24 (0, 0))) ∧ Hid (wr.heap[gr]? = some (.cells (r5C m) 3 (0, 0))) ∧ Hid (Below w.heap.size w wr)) (fun _ i _ => 5 - (intOf i).toNat)
  case atStart => exact ⟨0, by omega, rfl, HO6, HR6, HI6, HW6⟩
  case round =>
    obtain ⟨k, hk, rfl, HO, HR, HI, HW⟩ := hrel
    clear HO6 HR6 HI6 HW6
    by_cases hlt : k < 5
    · have hkc : (k : Int) < 5 := by omega
      have hcell : wr.cell? ⟨gr, k, none⟩ = some (.int .i64 (m.nth (3 + k))) := by rw [cell_of_row _ _ k _ _ _ HI.out, r5C_at m k hlt]
      obtain ⟨hn0, hn1⟩ := nth_ok m HM.out (3 + k) (by omega)
      have HE : Hid (e5 m (k + 1) = e5 m k ++ fB 4 (m.nth (3 + k))) := hidden rfl
      have HLn := hidden (e5_length m k)
      generalize m.nth (3 + k) = x at *
      have hwx : IntKind.u64.wrap x = x := by rw [IntKind.wrap_u64]; omega
      have HF := hidden (rFixed_row x 4 wr (by omega) (by omega) (by omega) (by omega))
      go_wp2_with (go_at_call 31; refine HF.out.mono ?_; rintro e u ⟨b2, o2, c2, rfl, HSu, HBu⟩; refine Hid.out ?_)
      apply hidden
      have HOu := hidden (HO.out.go5 HBu.out)
      have HRu := hidden (row_on HR.out HBu.out)
      have HIu := hidden (row_on HI.out HBu.out)
      have HWu := hidden (bl_go HW.out (Nat.le_refl _) HBu.out)
      have hszu := HWu.out.size
      clear HF HBu HO HR HI HW hcell
      go_wp2_with (at_builtin; refine app_rw _ rfl _ _ rfl w.heap.size (e5 m k) _ rfl HOu.out b2 o2 4 c2 _ rfl HSu.out (by rw [HLn.out]; omega) hszu ?_; intro v7 w7 HO7 HG7)
      have HR7 := hidden (row_grown HOu.out HRu.out meta_ne HG7.out)
      have HI7 := hidden (row_grown HOu.out HIu.out int_ne HG7.out)
      have HW7 := hidden (grown_bl HWu.out HOu.out (Nat.le_refl _) HG7.out)
      clear HOu HRu HIu HWu hszu HG7 HSu
      go_wp2
      go_roundw
      case rel => exact ⟨k + 1, by omega, by go_num, by rw [HE.out]; exact HO7, HR7, HI7, HW7⟩
      case measure => simp [intOf]; omega
    · obtain rfl : k = 5 := by omega
      rw [e5_all m HM.out] at HO
      rw [show ((5 : Nat) : Int) = 5 from rfl]
      clear HI
      go_wp2_with fail
      go_loopw [5] (fun v wr' => ∃ j : Nat, j ≤ m.pg.toNat - 44 ∧ Hid (OwnB wr' w.heap.size v (hdB m ++ zs j)) ∧ Hid (wr'.heap[w.heap.size]? = some (.cells (mtC m) 24 (0, 0))) ∧ Hid (Below w.heap.size w wr')) (fun v _ => m.pg.toNat - slLen v)
      case atStart => exact ⟨0, by omega, by rw [show hdB m ++ zs 0 = hdB m from List.append_nil _]; exact HO, HR, HW⟩
      case round =>
        clear HO HR HW
        obtain ⟨j, hj, HO, HR, HW⟩ := hrel
        have hL : (hdB m ++ zs j).length = 40 + j := by rw [List.length_append, hdB_length, zs_length]
        obtain ⟨ao, cap, hv, hs, _⟩ := HO.out.sl ((hdB_wf m).append (zs_wf j)) (by rw [hL]; omega)
        rw [hL] at hv hs
        subst hv
        obtain ⟨c0, c1, c2, c3, c4, c5, c6, c7⟩ := row8 HR.out
        have HLL := hidden hL
        have HSL := hidden hs
        clear hL hs
        by_cases hjl : j < m.pg.toNat - 44
        · have hcmp : ((40 + j : Nat) : Int) < m.pg - 4 := by omega
          have hcmp2 : (40 : Int) + (j : Int) < m.pg - 4 := by omega
          have HOA := fun o => hidden (HO.out.alloc o)
          have hszr := HW.out.size
          have HRa := fun o => hidden ((Below.heap_alloc wr o _ (lt_some HR.out)).trans HR.out)
          have HWa := fun o => hidden (bl_al HW.out (Nat.le_refl _) o)
          clear c0 c2 c3 c4 c5 c6 c7 HSL
          go_wp2_with (at_builtin; refine app_rw _ rfl _ _ rfl w.heap.size (hdB m ++ zs j) _ rfl (HOA _).out wr.heap.size 0 1 1 [0] rfl (one_sl wr 0 (by omega)) (by rw [HLL.out]; omega) (by simp; omega) ?_; intro v7 w7 HO7 HG7)
          have HR7 := hidden (row_grown (HOA _).out (HRa _).out meta_ne HG7.out)
          have HW7 := hidden (grown_bl (HWa _).out (HOA _).out (Nat.le_refl _) HG7.out)
          rw [body_step] at HO7
          have HL7 : Hid (slLen v7 = 41 + j) := hidden (by
            obtain ⟨ao', cap', hv', _, _⟩ := HO7.out.sl ((hdB_wf m).append (zs_wf (j + 1))) (by rw [List.length_append, hdB_length, zs_length]; omega)
            rw [hv', List.length_append, hdB_length, zs_length]
            show 40 + (j + 1) = 41 + j
            omega)
          clear HOA HRa HWa HG7 c1 hszr
          go_wp2
          go_roundw
          case rel => exact ⟨j + 1, by omega, HO7, HR7, HW7⟩
          case measure =>
            have h7 := HL7.out
            show m.pg.toNat - slLen v7 < m.pg.toNat - (40 + j)
            omega
        · have hcmp : ¬ ((40 + j : Nat) : Int) < m.pg - 4 := by omega
          have hcmp2 : ¬ (40 : Int) + (j : Int) < m.pg - 4 := by omega
          have ej : j = m.pg.toNat - 44 := by omega
          have HBD : Hid (hdB m ++ zs j = bodyB m) := hidden (by rw [ej]; rfl)
          rw [HBD.out] at HO HSL HLL
          have HSM := hidden (rSumOf_any ao (40 + j) cap (bodyB m) wr HSL.out)
          have hs32 := sumN_lt (bodyB m) (bodyB_wf m)
          have HPG : Hid (bodyB m ++ fB 4 (sumN [bodyB m] : Nat) = pageB m) := hidden rfl
          generalize sumN [bodyB m] = S at *
          have hws : IntKind.u64.wrap ((S : Nat) : Int) = (S : Int) := by rw [IntKind.wrap_u64]; omega
          have HF := hidden (rFixed_row (S : Int) 4 wr (by omega) (by omega) (by omega) (by omega))
          clear HR HSL ej
          go_wp2_with (first
            | (go_at_call 32; refine same_call HSM.out ?_)
            | (go_at_call 31; refine HF.out.mono ?_; rintro e u ⟨b2, o2, c2, rfl, HSu, HBu⟩; refine Hid.out ?_))
          apply hidden
          have HOu := hidden (HO.out.go5 HBu.out)
          have HWu := hidden (bl_go HW.out (Nat.le_refl _) HBu.out)
          have hszu := HWu.out.size
          clear HF HBu HO HW HSM c0 c1 c3 c4 c5 c6 c7
          go_wp2_with (at_builtin; refine app_rw _ rfl _ _ rfl w.heap.size (bodyB m) _ rfl HOu.out b2 o2 4 c2 _ rfl HSu.out (by rw [HLL.out]; omega) hszu ?_; intro v7 w7 HO7 HG7)
          have HW7 := hidden (grown_bl HWu.out HOu.out (Nat.le_refl _) HG7.out)
          clear HOu HWu hszu HG7 HSu
          go_wp2
          go_ret2
          exact ⟨v7, rfl, by rw [← HPG.out]; exact HO7.out, HW7.out⟩
set_option maxRecDepth 100000 in
theorem rEncode_no (m : Mt) (w : World) (hm : ¬ m.ok) : Calls Tryd.prog 13 #[mtV m] w fun e w' => e = .returned (.tuple #[.slice none 0 0, .int .i64 1]) ∧ Below w.heap.size w w' := by
  have HM := hidden hm
  have HCK := hidden (rCheck_any m (w.alloc (.cells (mtC m) 24)))
  clear hm
  rw [mtV_eq]
  go_enter Tryd.func13, Tryd.ntmps13
  go_wp2_with (go_at_call 10; rw [← mtV_eq]; refine HCK.out.mono ?_; rintro e w1 ⟨j, rfl, hj, hb1⟩; have HJ := hidden hj; have HB1 := hidden hb1; clear hj hb1; rw [mtV_eq]; refine Hid.out ?_)
  apply hidden
  obtain rfl : j = 1 := by
    rcases HJ.out with h | h
    · exact absurd h.1 HM.out
    · exact h.2
  go_wp2
  go_ret2
  exact ⟨rfl, bl_go (bl_al (Below.refl _ w) (Nat.le_refl _) _) (Nat.le_refl _) HB1.out⟩
end Go.Proofs.YtoifjcliepongaaDoor
