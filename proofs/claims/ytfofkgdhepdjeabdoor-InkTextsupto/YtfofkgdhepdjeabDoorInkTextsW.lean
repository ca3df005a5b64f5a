/- The walk of the law InkTexts. -/
import Derived.Test.YtfofkgdhepdjeabDoorInkSumsW
import Derived.Test.YtfofkgdhepdjeabDoorRefTexts
import Derived.Test.YtfofkgdhepdjeabDoorRefCommon
namespace Go.Proofs.YtfofkgdhepdjeabDoor
open Go.RowKit

theorem same_sure (ao bo : Option Addr) (n m c d : Nat) (la : List Int) (w : World) (ha : Sl w ao n c la) (hb : Sl w bo m d la) :
    Calls Tryd.prog 19 #[.slice ao n c, .slice bo m d] w fun e w' => e = .returned (.bool true) ∧ w' = w := by
  have h := same_any ao bo n m c d la la w ha hb
  rw [decide_eq_true (rfl : la = la)] at h
  exact h
theorem OwnB.gone {w w' : World} {B : Nat} {v : Value} {l : List Int} (h : OwnB w B v l) (hb : Below w.heap.size w w') : OwnB w' B v l := h.on (Nat.le_refl _) hb
theorem OwnB.kept' {w w' : World} {B : Nat} {v : Value} {l : List Int} {row : Option Nat} (h : OwnB w B v l) (hg : w.grownBy w' row) (hne : v.ownBlock = none ∨ v.ownBlock ≠ row) : OwnB w' B v l := World.ownsRow.kept h hg hne
/-- What was made later lies in another block. -/
theorem own_apart {w w' : World} {B C : Nat} {v u : Value} {l l' : List Int} (h : OwnB w B v l) (k : OwnB w' C u l') (hz : w.heap.size ≤ C) : u.ownBlock = none ∨ u.ownBlock ≠ v.ownBlock := by
  cases hu : u.ownBlock with
  | none => exact .inl rfl
  | some g =>
    refine .inr (fun e => ?_)
    have h1 := (World.ownsRow.lt h g e.symm).2
    have h2 := (World.ownsRow.lt k g hu).1
    omega
theorem own_before {w : World} {B g n c : Nat} {v : Value} {l : List Int} (h : OwnB w B v l) (hg : g < B) : Value.ownBlock (.slice (some ⟨g, 0, none⟩) n c) = none ∨ Value.ownBlock (.slice (some ⟨g, 0, none⟩) n c) ≠ v.ownBlock := by
  refine .inr (fun e => ?_)
  have := (World.ownsRow.lt h g e.symm).1
  omega

theorem common_all (ao : Option Addr) (n cap : Nat) (ls : List (List Int)) (w : World) (hs : SlS w ao n cap ls) :
    Calls Tryd.prog 10 #[.slice ao n cap] w fun e w' => e = .returned (.int .i64 (cmN ls)) ∧ ∃ q, w' = w.drewN q := by
  cases ls with
  | nil =>
    obtain rfl : n = 0 := hs.hlen.symm
    exact common_nil ao cap w
  | cons t r => exact common_any ao n cap t r w hs
theorem refCommon_all (ao : Option Addr) (n cap : Nat) (ls : List (List Int)) (w : World) (hs : SlS w ao n cap ls) :
    Calls Tryd.prog 11 #[.slice ao n cap] w fun e w' => e = .returned (.int .i64 (cmN ls)) ∧ ∃ q, w' = w.drewN q := by
  cases ls with
  | nil =>
    obtain rfl : n = 0 := hs.hlen.symm
    exact refCommon_nil ao cap w
  | cons t r => exact refCommon_any ao n cap t r w hs

/-- Both answer the same bytes and the same error. -/
theorem between_both (la lb : List Int) (hw : Wf lb) : ∃ (z : List Int) (x : Int), Wf z ∧ z.length ≤ lb.length ∧
    (∀ ao n c bo m d w, Sl w ao n c la → Sl w bo m d lb → Calls Tryd.prog 13 #[.slice ao n c, .slice bo m d] w fun e w' => ∃ v, e = .returned (.tuple #[v, .int .i64 x]) ∧ OwnB w' w.heap.size v z ∧ Below w.heap.size w w') ∧
    (∀ ao n c bo m d w, Sl w ao n c la → Sl w bo m d lb → Calls Tryd.prog 14 #[.slice ao n c, .slice bo m d] w fun e w' => ∃ v, e = .returned (.tuple #[v, .int .i64 x]) ∧ OwnB w' w.heap.size v z ∧ Below w.heap.size w w') := by
  rcases ord_cases la lb with ⟨h1, h2, _⟩ | ⟨h1, h2⟩
  · refine ⟨lb.take (lcp la lb + 1), 0, hw.take _, by simp; omega, fun ao n c bo m d w ha hb => ?_, fun ao n c bo m d w ha hb => ?_⟩
    · exact between_ok ao bo n m c d la lb w ha hb (by rw [← hb.hlen]; exact h1) (by rw [← ha.hlen]; exact h2)
    · exact refBetween_ok ao bo n m c d la lb w ha hb (by rw [← hb.hlen]; exact h1) (by rw [← ha.hlen]; exact h2)
  · refine ⟨[], 1, Wf.nil, by simp, fun ao n c bo m d w ha hb => ?_, fun ao n c bo m d w ha hb => ?_⟩
    · refine (between_arg ao bo n m c d la lb w ha hb (by rw [← ha.hlen, ← hb.hlen]; exact h1)).mono ?_
      rintro e w' ⟨rfl, q, rfl⟩
      exact ⟨_, rfl, OwnB.nil _ _, below_drewN (Below.refl _ _) q⟩
    · refine (refBetween_arg ao bo n m c d la lb w ha hb h2).mono ?_
      rintro e w' ⟨rfl, q, rfl⟩
      exact ⟨_, rfl, OwnB.nil _ _, below_drewN (Below.refl _ _) q⟩
theorem behind_both (l : List Int) (hw : Wf l) : ∃ (z : List Int) (x : Bool), Wf z ∧ z.length ≤ l.length ∧
    (∀ ao n c w, Sl w ao n c l → Calls Tryd.prog 15 #[.slice ao n c] w fun e w' => ∃ v, e = .returned (.tuple #[v, .bool x]) ∧ OwnB w' w.heap.size v z ∧ Below w.heap.size w w') ∧
    (∀ ao n c w, Sl w ao n c l → Calls Tryd.prog 16 #[.slice ao n c] w fun e w' => ∃ v, e = .returned (.tuple #[v, .bool x]) ∧ OwnB w' w.heap.size v z ∧ Below w.heap.size w w') := by
  rcases strip l l.length (Nat.le_refl _) with h | ⟨k, h1, h2, h3, h4⟩
  · refine ⟨[], false, Wf.nil, by simp, fun ao n c w hs => ?_, fun ao n c w hs => ?_⟩
    · refine (behind_none ao n c l w hs (by rw [← hs.hlen]; exact h)).mono ?_
      rintro e w' ⟨rfl, rfl⟩
      exact ⟨_, rfl, OwnB.nil _ _, Below.refl _ _⟩
    · refine (refBehind_none ao n c l w hs (by rw [← hs.hlen]; exact h)).mono ?_
      rintro e w' ⟨rfl, rfl⟩
      exact ⟨_, rfl, OwnB.nil _ _, Below.refl _ _⟩
  · refine ⟨_, true, behind_wf l k hw h3, by simp; omega, fun ao n c w hs => ?_, fun ao n c w hs => ?_⟩
    · exact behind_some ao n c k l w hs h1 (by rw [← hs.hlen]; exact h2) h3 (by rw [← hs.hlen]; exact h4)
    · exact refBehind_some ao n c k l w hs h1 (by rw [← hs.hlen]; exact h2) h3 (by rw [← hs.hlen]; exact h4)

/-- What was lent reads as what it was lent of. -/
theorem lent_reads {w : World} {B g n : Nat} {l : List Int} (h : OwnB w B (.slice (some ⟨g, 0, none⟩) (n + 3) (n + 3)) (l ++ [71, 72, 73])) (hl : l.length = n) (hw : Wf l) (hn : n + 3 ≤ 140737488355328) : Sl w (some ⟨g, 0, none⟩) n (n + 3) l := by
  have k := own_head (m := n) h (hw.append (by unfold Wf; decide)) (by simp [hl]) (by omega) hn (n + 3) (by omega)
  have e : (l ++ [71, 72, 73]).take n = l := by subst hl; simp
  rw [e] at k
  exact k

set_option maxRecDepth 100000 in
set_option maxHeartbeats 2000000 in
theorem walk_InkTexts (a0 : Option Addr) (n c0 : Nat) (ls : List (List Int)) (a1 : Option Addr) (n1 c1 : Nat) (la : List Int) (a2 : Option Addr) (n2 c2 : Nat) (lb : List Int) (w : World) (ht : Tab w) (h0 : 0 < w.heap.size) (hs : SlS w a0 n c0 ls) (_hn : n ≤ 140737488351232)
    (hs1 : Sl w a1 n1 c1 la) (_hn1 : n1 ≤ 140737488351232) (hs2 : Sl w a2 n2 c2 lb) (_hn2 : n2 ≤ 140737488351232) (hall : n1 + n2 ≤ 1048576) :
    Calls Tryd.prog 3 #[.slice a0 n c0, .slice a1 n1 c1, .slice a2 n2 c2] w fun e w' => e = .returned (.bool true) ∧ Below w.heap.size w w' := by
  have HL := hidden (live_any w ht h0)
  have HS := hidden hs
  have HS1 := hidden hs1
  have HS2 := hidden hs2
  have hla := hs1.hlen
  have hlb := hs2.hlen
  have HWA := hidden hs1.wf
  have HWB := hidden hs2.wf
  have hlen := hs.hlen
  have hcap := hs.hcap
  clear ht hs _hn hs1 hs2 _hn1 _hn2
  go_enter Tryd.func3, Tryd.ntmps3
  go_wp2_with fail
  refine (great_any _ _ _ ls _ HS.out).mono ?_
  rintro e w' ⟨hG, hw⟩
  rw [hw]
  obtain ⟨g, rfl, hg⟩ := hG
  clear hw
  cases g
  · have htot := hg rfl
    clear hg
    have htl := tot_le ls
    have hwf : ∀ l ∈ ls, Wf l := by
      intro l hl
      obtain ⟨i, hi⟩ := List.getElem?_of_mem hl
      have hil := (List.getElem?_eq_some_iff.1 hi).1
      rcases HS.out.hat with h | ⟨b, off, _, _, hc⟩
      · omega
      · obtain ⟨a, m, c, _, h2⟩ := hc i (by omega)
        have := h2.wf
        rwa [show ls.getD i [] = l by rw [List.getD_eq_getElem?_getD, hi]; rfl] at this
    have HWF := hidden hwf
    have HTL := hidden htl
    have hnt : n ≤ 1000000 := by omega
    clear hwf htl
    go_wp2_with fail
    refine HL.out.mono ?_
    rintro e w1 ⟨rfl, hb1⟩
    have HB1 := hidden hb1
    have z01 := hb1.size
    clear hb1 HL
    go_wp2_with fail
    go_loopw [9, 10] (fun lv i wr => ∃ (k : Nat) (xs : List Value) (gs : List Nat), k ≤ n ∧ i = .int .i64 k ∧ OwnV wr w1.heap.size lv xs ∧ Hid (Lents wr w1.heap.size xs (ls.take k) gs) ∧ Below w1.heap.size w1 wr) (fun _ i _ => n - (intOf i).toNat)
    case atStart => exact ⟨0, [], [], by omega, rfl, OwnV.nil _ _, Lents.nil _ _, Below.refl _ _⟩
    case round =>
      obtain ⟨k, xs, gs, hk, rfl, hov, HLE, hbl⟩ := hrel
      have hzr := hbl.size
      have HBr := hidden (HB1.out.trans (hbl.mono z01))
      have hkx : xs.length = k := by have := HLE.out.len; simp at this; omega
      by_cases hkn : k < n
      · rcases HS.out.hat with h | ⟨b, off, rfl, hbb, hc⟩
        · omega
        obtain ⟨a, m, c, hck, hsl⟩ := hc k hkn
        have hml := hsl.hlen
        have HSL := hidden hsl
        have HTS := hidden (take_snocS ls k (by omega))
        clear hc hsl
        generalize ls.getD k [] = l at *
        have hcr : wr.cell? ⟨b, off + k, none⟩ = some (.slice a m c) := (HBr.out.cell (p := ⟨b, off + k, none⟩) hbb).trans hck
        have HOV := hidden hov
        clear hov hck
        go_wp2_with fail
        refine (lent_any a m c l _ (HSL.out.go HBr.out)).mono ?_
        rintro e w2 ⟨rfl, hol, hb2⟩
        have HOV2 := hidden ((HOV.out.on (Nat.le_refl _) hb2).on (Nat.le_refl _) (below_alloc (.cells #[.slice (some ⟨wr.heap.size, 0, none⟩) m (m + 3)] 23)))
        have HOL2 := hidden (hol.on (Nat.le_refl _) (below_alloc (.cells #[.slice (some ⟨wr.heap.size, 0, none⟩) m (m + 3)] 23)))
        have HLE2 := hidden ((HLE.out.on (Nat.le_refl _) hb2).on (Nat.le_refl _) (below_alloc (.cells #[.slice (some ⟨wr.heap.size, 0, none⟩) m (m + 3)] 23)))
        have HGS : Hid (∀ i, i < (ls.take k).length → gs.getD i 0 < wr.heap.size) := fun i hi => (World.ownsRow.lt (HLE.out.own i hi) _ rfl).2
        have hz2 := hb2.size
        have HBl2 := hidden (hbl.trans (hb2.mono hzr))
        clear hol hb2 HOV HLE hbl HBr hcr
        go_wp2_with (at_builtin; refine app_val _ rfl _ _ rfl w1.heap.size xs _ rfl HOV2.out w2.heap.size m (m + 3) rfl (some ⟨wr.heap.size, 0, none⟩) (lit_cell _ _ _ _ _ _ rfl) (by omega) (by simp; omega) ?_)
        intro lv2 w3 hov3 hg3
        have HOL3 : Hid (OwnB w3 wr.heap.size (.slice (some ⟨wr.heap.size, 0, none⟩) (m + 3) (m + 3)) (l ++ [71, 72, 73])) := World.ownsRow.kept HOL2.out hg3 (rows_apart HOV2.out HOL2.out)
        have HLE3 := hidden (HLE2.out.grown HOV2.out hg3)
        have HBl3 := hidden ((HBl2.out.alloc (by omega) _).trans (grown_below hg3 (by simp; omega) (fun q hq => (World.ownsRow.lt HOV2.out q hq).1)))
        have HOV3 := hidden hov3
        have HLE4 := hidden (HLE3.out.snoc (l := l) (g := wr.heap.size) hzr (by rw [hml]; exact HOL3.out) HGS.out)
        clear hov3 hg3 HOL2 HLE2 HOV2 HBl2 HLE3 HOL3
        go_wp2
        go_roundw
        case rel => exact ⟨k + 1, _, _, by omega, by go_num, HOV3.out, by rw [HTS.out]; rw [hml] at HLE4; exact HLE4.out, HBl3.out⟩
        case measure => simp [intOf]; omega
      · have htk : ls.take k = ls := List.take_of_length_le (by omega)
        rw [htk] at HLE
        have hdk : decide (k < n) = false := by simp; omega
        obtain ⟨al, cl, rfl, hss⟩ := lents_sls hov HLE.out hlen HWF.out htot
        have HSS := hidden hss
        have HOV := hidden hov
        clear htk hss hov hbl
        go_wp2_with fail
        refine quiet_call' (common_all _ n cl ls _ HSS.out) ?_
        intro q1
        go_wp2_with fail
        refine quiet_call' (refCommon_all _ n c0 ls _ (HS.out.go (below_drewN HBr.out q1))) ?_
        intro q2
        have HB4 := hidden (below_drewN (below_drewN HBr.out q1) q2)
        have HOV4 := hidden ((HOV.out.on (Nat.le_refl _) (below_drewN (Below.refl wr.heap.size wr) q1)).on (Nat.le_refl _) (below_drewN (Below.refl _ _) q2))
        have HLE4 := hidden ((HLE.out.on (Nat.le_refl _) (below_drewN (Below.refl wr.heap.size wr) q1)).on (Nat.le_refl _) (below_drewN (Below.refl _ _) q2))
        clear HBr HOV HLE HSS
        generalize (wr.drewN q1).drewN q2 = w5 at *
        generalize cmN ls = CM at *
        go_wp2_with fail
        go_loopw [14] (fun i wq => ∃ j : Nat, j ≤ n ∧ i = .int .i64 j ∧ SumsInv w w1.heap.size (.slice al n cl) xs gs ls n j wq) (fun i _ => n - (intOf i).toNat)
        case atStart => exact ⟨0, by omega, rfl, HOV4.out, fun i _ hi => HLE4.out.own i (by omega), HB4.out⟩
        case round =>
          obtain ⟨j, hj, rfl, hinv⟩ := hrel
          by_cases hjn : j < n
          · rcases HS.out.hat with h | ⟨b, off, rfl, hbb, hc⟩
            · omega
            obtain ⟨a, m, c, hck, hsl⟩ := hc j hjn
            have hml := hsl.hlen
            have hcp : wr.cell? ⟨b, off + j, none⟩ = some (.slice a m c) := (hinv.2.2.cell (p := ⟨b, off + j, none⟩) hbb).trans hck
            obtain ⟨gl, rfl⟩ : ∃ g, al = some ⟨g, 0, none⟩ := by
              rcases hinv.1.2 with ⟨h, _⟩ | ⟨g, cap, cur, h, _⟩
              · simp only [Value.slice.injEq] at h; omega
              · simp only [Value.slice.injEq] at h; exact ⟨g, h.1⟩
            have hxl : xs.length = n := by omega
            have hcl : wr.cell? ⟨gl, j, none⟩ = some (.slice (some ⟨gs.getD j 0, 0, none⟩) m (m + 3)) := by
              have h2 : wr.ownsRow w1.heap.size 23 1 (.slice (some ⟨gl, 0, none⟩) n cl) n xs := by have h3 := hinv.1; unfold OwnV at h3; rw [hxl] at h3; exact h3
              rw [World.ownsRow.cellAt h2 j (by omega), HLE4.out.elem j (by omega), hml]
            have hfl2 := (HTL.out.2.2 _ (getD_mem ls j (by omega)))
            rw [hml] at hfl2
            have HAS := hidden (asLent_step hinv z01 hjn hml hsl (by omega) (fun i h1 h2 => HLE4.out.rise j i h1 (by omega)))
            clear hc hck hsl hinv hml
            generalize gs.getD j 0 = gj at *
            go_wp2_with fail
            go_region_with (first | (go_at_call 12; refine (HAS.out _ ?_).mono ?_; (repeat (first | exact Below.refl _ _ | apply Below.drew | apply below_drewN)); rintro e w6 ⟨rfl, hinv6⟩))
            all_goals
              go_wp2
              go_roundw
              case rel => exact ⟨j + 1, by omega, by go_num, by assumption⟩
              case measure => simp [intOf]; omega
          · have HBu := hidden hinv.2.2
            have zu := hinv.2.2.size
            clear hinv HLE4 HOV4 HB4 HTL HWF HS
            obtain ⟨zc, ec, hzcw, hzcl, hbi, hbr⟩ := between_both la lb HWB.out
            obtain ⟨zp, sp, hzpw, hzpl, hpi, hpr⟩ := behind_both la HWA.out
            have HBI := hidden hbi
            have HBR := hidden hbr
            have HPI := hidden hpi
            have HPR := hidden hpr
            have HZC := hidden hzcw
            have HZP := hidden hzpw
            clear hbi hbr hpi hpr hzcw hzpw
            have hdj : decide (j < n) = false := by simp; omega
            -- x
            go_wp2_with fail
            refine (lent_any a1 n1 c1 la _ (HS1.out.go HBu.out)).mono ?_
            rintro e w2 ⟨rfl, hox, hb2⟩
            have HX2 := hidden hox
            have HB2 := hidden (HBu.out.trans (hb2.mono zu))
            have z2 := hb2.size
            have zx := (World.ownsRow.lt hox wr.heap.size rfl).2
            clear hox hb2 HBu
            generalize wr.heap.size = gx at *
            -- y
            go_wp2_with fail
            refine (lent_any a2 n2 c2 lb _ (HS2.out.go HB2.out)).mono ?_
            rintro e w3 ⟨rfl, hoy, hb3⟩
            have HX3 := hidden (HX2.out.gone hb3)
            have HY3 := hidden hoy
            have HB3 := hidden (HB2.out.trans (hb3.mono (by omega)))
            have z3 := hb3.size
            have zy := (World.ownsRow.lt hoy w2.heap.size rfl).2
            clear hoy hb3 HX2 HB2
            generalize w2.heap.size = gy at *
            -- c
            go_wp2_with fail
            refine (HBI.out _ _ _ _ _ _ _ (lent_reads HX3.out hla HWA.out (by omega)) (lent_reads HY3.out hlb HWB.out (by omega))).mono ?_
            rintro e w4 ⟨vc, rfl, hoc, hb4⟩
            have HC4 := hidden hoc
            have HX4 := hidden (HX3.out.gone hb4)
            have HY4 := hidden (HY3.out.gone hb4)
            have HB4 := hidden (HB3.out.trans (hb4.mono (by omega)))
            have z4 := hb4.size
            obtain ⟨ac, cc, rfl, hsc, -⟩ := hoc.sl HZC.out (by omega)
            have HSC4 := hidden hsc
            clear hoc hb4 hsc HX3 HY3 HB3 HBI
            -- d
            go_wp2_with fail
            refine (HBR.out _ _ _ _ _ _ _ (HS1.out.go HB4.out) (HS2.out.go HB4.out)).mono ?_
            rintro e w5 ⟨vd, rfl, hod, hb5⟩
            have HC5 := hidden (HC4.out.gone hb5)
            have HSC5 := hidden (HSC4.out.go hb5)
            have HX5 := hidden (HX4.out.gone hb5)
            have HY5 := hidden (HY4.out.gone hb5)
            have HB5 := hidden (HB4.out.trans (hb5.mono (by omega)))
            have z5 := hb5.size
            obtain ⟨ad, cd, rfl, hsd, -⟩ := hod.sl HZC.out (by omega)
            have HSD5 := hidden hsd
            clear hod hb5 hsd HX4 HY4 HB4 HBR HSC4
            -- p
            go_wp2_with fail
            refine (HPI.out _ _ _ _ (lent_reads HX5.out hla HWA.out (by omega))).mono ?_
            rintro e w6 ⟨vp, rfl, hop, hb6⟩
            have HP6 := hidden hop
            have HC6 := hidden (HC5.out.gone hb6)
            have HSC6 := hidden (HSC5.out.go hb6)
            have HSD6 := hidden (HSD5.out.go hb6)
            have HX6 := hidden (HX5.out.gone hb6)
            have HY6 := hidden (HY5.out.gone hb6)
            have HB6 := hidden (HB5.out.trans (hb6.mono (by omega)))
            have z6 := hb6.size
            obtain ⟨ap, cp, rfl, hsp, -⟩ := hop.sl HZP.out (by omega)
            have HSP6 := hidden hsp
            clear hop hb6 hsp HX5 HY5 HB5 HC5 HSC5 HSD5 HPI
            -- q
            go_wp2_with fail
            refine (HPR.out _ _ _ _ (HS1.out.go HB6.out)).mono ?_
            rintro e w7 ⟨vq, rfl, hoq, hb7⟩
            have HP7 := hidden (HP6.out.gone hb7)
            have HSP7 := hidden (HSP6.out.go hb7)
            have HC7 := hidden (HC6.out.gone hb7)
            have HSC7 := hidden (HSC6.out.go hb7)
            have HSD7 := hidden (HSD6.out.go hb7)
            have HX7 := hidden (HX6.out.gone hb7)
            have HY7 := hidden (HY6.out.gone hb7)
            have HB7 := hidden (HB6.out.trans (hb7.mono (by omega)))
            have z7 := hb7.size
            obtain ⟨aq, cq, rfl, hsq, -⟩ := hoq.sl HZP.out (by omega)
            have HSQ7 := hidden hsq
            clear hoq hb7 hsq HX6 HY6 HB6 HC6 HSC6 HSD6 HSP6 HPR
            -- o
            have hob := oB_length la
            have HOW := hidden (oB_wf la HWA.out)
            go_wp2_with fail
            refine (ordered_any _ _ _ la _ (lent_reads HX7.out hla HWA.out (by omega)) (by omega)).mono ?_
            rintro e w8 ⟨vo, rfl, hoo, hb8⟩
            have HO8 := hidden hoo
            have HP8 := hidden (HP7.out.gone hb8)
            have HSP8 := hidden (HSP7.out.go hb8)
            have HSQ8 := hidden (HSQ7.out.go hb8)
            have HC8 := hidden (HC7.out.gone hb8)
            have HSC8 := hidden (HSC7.out.go hb8)
            have HSD8 := hidden (HSD7.out.go hb8)
            have HX8 := hidden (HX7.out.gone hb8)
            have HY8 := hidden (HY7.out.gone hb8)
            have HB8 := hidden (HB7.out.trans (hb8.mono (by omega)))
            have z8 := hb8.size
            obtain ⟨ao, co, rfl, hso, -⟩ := hoo.sl HOW.out (by omega)
            have HSO8 := hidden hso
            clear hoo hb8 hso HX7 HY7 HB7 HC7 HSC7 HSD7 HSP7 HSQ7 HP7
            -- w
            go_wp2_with fail
            refine (refOrdered_any _ _ _ la _ (HS1.out.go HB8.out) (by omega)).mono ?_
            rintro e w9 ⟨vw, rfl, how, hb9⟩
            have HO9 := hidden (HO8.out.gone hb9)
            have HSO9 := hidden (HSO8.out.go hb9)
            have HP9 := hidden (HP8.out.gone hb9)
            have HSP9 := hidden (HSP8.out.go hb9)
            have HSQ9 := hidden (HSQ8.out.go hb9)
            have HC9 := hidden (HC8.out.gone hb9)
            have HSC9 := hidden (HSC8.out.go hb9)
            have HSD9 := hidden (HSD8.out.go hb9)
            have HX9 := hidden (HX8.out.gone hb9)
            have HY9 := hidden (HY8.out.gone hb9)
            have HB9 := hidden (HB8.out.trans (hb9.mono (by omega)))
            have z9 := hb9.size
            obtain ⟨aw, cw, rfl, hsw, -⟩ := how.sl HOW.out (by omega)
            have HSW9 := hidden hsw
            clear how hb9 hsw HX8 HY8 HB8 HC8 HSC8 HSD8 HSP8 HSQ8 HP8 HSO8
            generalize oB la = OB at *
            -- the three comparisons
            go_wp2_with fail
            refine same_call (same_sure _ _ _ _ _ _ _ _ HSC9.out HSD9.out) ?_
            go_wp2_with fail
            refine same_call (same_sure _ _ _ _ _ _ _ _ HSP9.out HSQ9.out) ?_
            go_wp2_with fail
            refine same_call (same_sure _ _ _ _ _ _ _ _ HSO9.out HSW9.out) ?_
            clear HSC9 HSD9 HSP9 HSQ9 HSO9 HSW9
            -- Own(c)
            go_wp2_with fail
            refine (own_call _ w3.heap.size zc _ HC9.out (by omega) (by omega)).mono ?_
            rintro e w10 ⟨rfl, hg⟩
            have HP10 := hidden (HP9.out.kept' hg (own_apart HC4.out HP6.out (by omega)))
            have HO10 := hidden (HO9.out.kept' hg (own_apart HC4.out HO8.out (by omega)))
            have HX10 := hidden (HX9.out.kept' hg (own_before HC4.out (by omega)))
            have HY10 := hidden (HY9.out.kept' hg (own_before HC4.out (by omega)))
            have HB10 := hidden (HB9.out.trans (grown_below hg (by omega) (fun k hk => by have := (World.ownsRow.lt HC4.out k hk).1; omega)))
            have z10 := hg.size
            clear hg HP9 HO9 HX9 HY9 HB9 HC9 HC4
            -- Own(p)
            go_wp2_with fail
            refine (own_call _ w5.heap.size zp _ HP10.out (by omega) (by omega)).mono ?_
            rintro e w11 ⟨rfl, hg⟩
            have HO11 := hidden (HO10.out.kept' hg (own_apart HP6.out HO8.out (by omega)))
            have HX11 := hidden (HX10.out.kept' hg (own_before HP6.out (by omega)))
            have HY11 := hidden (HY10.out.kept' hg (own_before HP6.out (by omega)))
            have HB11 := hidden (HB10.out.trans (grown_below hg (by omega) (fun k hk => by have := (World.ownsRow.lt HP6.out k hk).1; omega)))
            have z11 := hg.size
            clear hg HP10 HO10 HX10 HY10 HB10 HP6
            -- Own(o)
            go_wp2_with fail
            refine (own_call _ w7.heap.size OB _ HO11.out (by omega) (by omega)).mono ?_
            rintro e w12 ⟨rfl, hg⟩
            have HX12 := hidden (HX11.out.kept' hg (own_before HO8.out (by omega)))
            have HY12 := hidden (HY11.out.kept' hg (own_before HO8.out (by omega)))
            have HB12 := hidden (HB11.out.trans (grown_below hg (by omega) (fun k hk => by have := (World.ownsRow.lt HO8.out k hk).1; omega)))
            have z12 := hg.size
            clear hg HO11 HX11 HY11 HB11 HO8
            -- what was lent
            go_wp2_with fail
            refine (asLent_any gx gx n1 _ _ la _ HX12.out (HS1.out.go HB12.out) (by omega)).mono ?_
            rintro e w13 ⟨rfl, hg⟩
            have HY13 := hidden (HY12.out.kept' hg (.inr (fun e => by have h : gy = gx := Option.some.inj e; omega)))
            have HB13 := hidden (HB12.out.trans (grown_below hg (by omega) (fun k hk => by have h : gx = k := Option.some.inj hk; omega)))
            have z13 := hg.size
            clear hg HX12 HY12 HB12
            go_wp2_with fail
            refine (asLent_any gy gy n2 _ _ lb _ HY13.out (HS2.out.go HB13.out) (by omega)).mono ?_
            rintro e w14 ⟨rfl, hg⟩
            have HB14 := hidden (HB13.out.trans (grown_below hg (by omega) (fun k hk => by have h : gy = k := Option.some.inj hk; omega)))
            clear hg HY13 HB13
            go_wp2
            go_ret
            exact ⟨rfl, HB14.out⟩
  · clear hg
    go_wp2
    go_ret
    exact ⟨rfl, Below.refl _ _⟩
end Go.Proofs.YtfofkgdhepdjeabDoor
