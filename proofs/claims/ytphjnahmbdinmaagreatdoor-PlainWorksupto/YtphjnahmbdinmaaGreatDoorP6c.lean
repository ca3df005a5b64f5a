/- Layer 6: the law's lent. -/
import Derived.Test.YtphjnahmbdinmaaGreatDoorJ42
namespace Go.Proofs.YtphjnahmbdinmaaGreatDoor
open Go.RowKit

/-- The pair, whatever it has, both pages the same cells. -/
def StE (w : World) (B X r : Nat) (k : Int) (n : Nat) (L : Ls6) : Prop := ∃ cs a K M vb vs vl v1 v2 v3 v4 us ps, PgOk k n cs ∧ St6 w B X a r k n K M cs cs L vb vs vl v1 v2 v3 v4 us ps
set_option maxRecDepth 100000 in
theorem StE.on {w w' : World} {B X r : Nat} {k : Int} {n : Nat} {L : Ls6} (h : StE w B X r k n L) (hb : Below w.heap.size w w') : StE w' B X r k n L := by
  obtain ⟨cs, a, K, M, vb, vs, vl, v1, v2, v3, v4, us, ps, g, hs⟩ := h
  exact ⟨cs, a, K, M, vb, vs, vl, v1, v2, v3, v4, us, ps, g, hs.on hb⟩
set_option maxRecDepth 100000 in
theorem StE.size {w : World} {B X r : Nat} {k : Int} {n : Nat} {L : Ls6} (h : StE w B X r k n L) : B ≤ w.heap.size := by
  obtain ⟨cs, a, K, M, vb, vs, vl, v1, v2, v3, v4, us, ps, g, hs⟩ := h
  exact hs.size
set_option maxRecDepth 100000 in
theorem PgOk.ins {k : Int} {n : Nat} {cs : List Cl} {x : Int} {c : Cl} (g : PgOk k n cs) (hc : c.Wf) : PgOk k n (if insE k n cs x c = 0 then cs.take x.toNat ++ [c] ++ cs.drop x.toNat else cs) := by
  by_cases h0 : insE k n cs x c = 0
  · rw [if_pos h0]
    unfold insE at h0
    by_cases hx : 0 ≤ x ∧ x ≤ (cs.length : Int)
    · rw [if_pos hx] at h0
      exact g.put (Nat.le_refl _) (by omega) hc h0
    · rw [if_neg hx] at h0
      exact absurd h0 (by decide)
  · rw [if_neg h0]
    exact g
set_option maxRecDepth 100000 in
theorem PgOk.setc {k : Int} {n : Nat} {cs : List Cl} {x : Int} {c : Cl} (g : PgOk k n cs) (hc : c.Wf) : PgOk k n (if setE k n cs x c = 0 then cs.take x.toNat ++ [c] ++ cs.drop (x.toNat + 1) else cs) := by
  by_cases h0 : setE k n cs x c = 0
  · rw [if_pos h0]
    unfold setE at h0
    by_cases hx : 0 ≤ x ∧ x < (cs.length : Int)
    · rw [if_pos hx] at h0
      exact g.put (by omega) (by omega) hc h0
    · rw [if_neg hx] at h0
      exact absurd h0 (by decide)
  · rw [if_neg h0]
    exact g
set_option maxRecDepth 100000 in
set_option maxHeartbeats 4000000 in
theorem lent6_go (w w0 : World) (B X r : Nat) (k : Int) (n : Nat) (L : Ls6) (h : StE w B X r k n L) (hw0 : Below B w0 w) (hB0 : w0.heap.size ≤ B) (q x : Int) (ka : Option Addr) (kn kc : Nat) (kd : Int) (va : Option Addr) (vn vc : Nat) (pg ct : Int) (key val : List Int) (hk : Sl w0 ka kn kc key) (hv : Sl w0 va vn vc val) :
    Calls Tryz.prog 24 #[.pointer (some ⟨X, 0, none⟩), .int .i64 q, .int .i64 x, .agg #[.slice ka kn kc, .int .i64 kd, .slice va vn vc, .int .i64 pg, .int .i64 ct]] w fun e w' => e = .returned (.bool true) ∧ Hid (StE w' B X r k n L) ∧ Hid (Below B w w') := by
  obtain ⟨cs, a, K, M, vb, vs, vl, v1, v2, v3, v4, us, ps, g, hs⟩ := h
  obtain ⟨s, hsz⟩ : ∃ s, w.heap.size = s := ⟨_, rfl⟩
  have hBw := hs.size
  obtain ⟨y, hy⟩ : ∃ y, w.alloc (.cells #[.slice ka kn kc, .int .i64 kd, .slice va vn vc, .int .i64 pg, .int .i64 ct] 40) = y := ⟨_, rfl⟩
  have hby : Below w.heap.size w y := by rw [← hy]; exact bl_al (Below.refl _ _) (Nat.le_refl _) _
  have HBOX : Hid (C5 y s (.slice ka kn kc) (.int .i64 kd) (.slice va vn vc) (.int .i64 pg) (.int .i64 ct)) := by rw [← hy, ← hsz]; exact hidden (C5.box _ _ _ _ _ _)
  have HBY := hidden hby
  have hwy : Below B w0 y := hw0.trans (bl_low hby hBw)
  have HL := hidden (lentCell_any key val kd pg ct ka va kn vn kc vc y (hk.on hB0 hwy) (hv.on hB0 hwy))
  have hkl := hk.hlen
  have hkr := hk.hroom
  have hvl := hv.hlen
  have hvr := hv.hroom
  have HK0 := hidden hk
  have HV0 := hidden hv
  have HS := hidden hs
  have HG := hidden g
  have HW0 := hidden hw0
  have HB0 := hidden hB0
  have HBW := hidden hBw
  have hcw : (⟨key, kd, val, pg, ct⟩ : Cl).Wf := ⟨hk.wf, hv.wf⟩
  have HCW := hidden hcw
  have hys : y.heap.size = s + 1 := by rw [← hy, ← hsz]; simp
  obtain ⟨c0, c1, c2, c3, c4⟩ := HBOX.out.cells
  clear hk hv hs g hw0 hB0 hBw hby hwy hcw
  go_enter Tryz.func24, Tryz.ntmps24
  go_wp2_with (first | (go_at_call 53; refine HL.out.mono ?_; rintro e y1 ⟨G1, G2, rfl, HGG, HY1⟩; refine Hid.out ?_))
  apply hidden
  obtain ⟨y2, hy2⟩ : ∃ y2, y1.alloc (.cells #[.slice (some ⟨G1, 0, none⟩) kn (kn + 9), .int .i64 kd, .slice (some ⟨G2, 0, none⟩) vn (vn + 9), .int .i64 pg, .int .i64 ct] 40) = y2 := ⟨_, rfl⟩
  obtain ⟨s2, hs2⟩ : ∃ s2, y1.heap.size = s2 := ⟨_, rfl⟩
  have hb12 : Below y1.heap.size y1 y2 := by rw [← hy2]; exact bl_al (Below.refl _ _) (Nat.le_refl _) _
  have hyy : Below y.heap.size y y2 := bl_go HY1.out (Nat.le_refl _) hb12
  have hwy2 : Below w.heap.size w y2 := bl_go HBY.out (Nat.le_refl _) hyy
  have HBOX2 : Hid (C5 y2 s2 (.slice (some ⟨G1, 0, none⟩) kn (kn + 9)) (.int .i64 kd) (.slice (some ⟨G2, 0, none⟩) vn (vn + 9)) (.int .i64 pg) (.int .i64 ct)) := by rw [← hy2, ← hs2]; exact hidden (C5.box _ _ _ _ _ _)
  have HBOX1 : Hid (C5 y2 s (.slice ka kn kc) (.int .i64 kd) (.slice va vn vc) (.int .i64 pg) (.int .i64 ct)) := hidden (box_on HBOX.out hyy)
  have HMD : Hid (Md6 w y2 B X a r k n cs cs L G1 G2 key val) := by
    obtain ⟨b1, b2, l1, l2⟩ := HGG.out
    have e1 := lt_some b1
    have e2 := lt_some b2
    have e3 := hb12.size
    have e4 := HBY.out.size
    have st := HS.out.on hwy2
    exact hidden ⟨⟨K, M, vb, vs, vl, v1, v2, v3, v4, us, ps, st, HS.out.new HBW.out (by omega) (by omega), HS.out.new HBW.out (by omega) (by omega)⟩, box_on b1 hb12, box_on b2 hb12, bl_low hwy2 HBW.out⟩
  have HNE : Hid (¬ G1 = G2) := hidden (by have := HGG.out.2.2.2; omega)
  have HLK : Hid (∀ u, Below y2.heap.size y2 u → Sl u (some ⟨G1, 0, none⟩) kn (kn + 9) key ∧ Sl u (some ⟨G2, 0, none⟩) vn (vn + 9) val) := hidden (by
    intro u hu
    have hm := HMD.out.on hu
    have r1 := sl_lent (l := key) hm.2.1 HK0.out.wf (by rw [hkl]; exact hkr)
    have r2 := sl_lent (l := val) hm.2.2.1 HV0.out.wf (by rw [hvl]; exact hvr)
    rw [hkl] at r1
    rw [hvl] at r2
    exact ⟨r1, r2⟩)
  have HLO : Hid (∀ u, Below B w u → Sl u ka kn kc key ∧ Sl u va vn vc val) := hidden (fun u hu => ⟨HK0.out.on HB0.out (HW0.out.trans hu), HV0.out.on HB0.out (HW0.out.trans hu)⟩)
  obtain ⟨d0, d1, d2, d3, d4⟩ := HBOX2.out.cells
  clear c0 c1 c2 c3 c4
  obtain ⟨c0, c1, c2, c3, c4⟩ := HBOX1.out.cells
  obtain ⟨p0, p1⟩ := HMD.out.cells
  clear hb12 hyy hwy2 hys HL HY1 HGG HBY HBOX hkl hkr hvl hvr
  by_cases hq : q = 2
  · subst hq
    have HO : Hid (∀ u, Below y2.heap.size y2 u → Calls Tryz.prog 54 #[.pointer (some ⟨a, 0, none⟩), .int .i64 x, .agg #[.slice (some ⟨G1, 0, none⟩) kn (kn + 9), .int .i64 kd, .slice (some ⟨G2, 0, none⟩) vn (vn + 9), .int .i64 pg, .int .i64 ct]] u fun e u' => e = .returned (.int .i64 (setE k n cs x ⟨key, kd, val, pg, ct⟩)) ∧ Hid (Md6 w u' B X a r k n (if setE k n cs x ⟨key, kd, val, pg, ct⟩ = 0 then cs.take x.toNat ++ [⟨key, kd, val, pg, ct⟩] ++ cs.drop (x.toNat + 1) else cs) cs L G1 G2 key val) ∧ Hid (Kc5 y2 u')) := hidden (by
      intro u hu
      obtain ⟨l1, l2⟩ := HLK.out u hu
      refine ((HMD.out.on hu).set HG.out x _ kn _ kd _ vn _ pg ct key val l1 l2).mono ?_
      rintro e u' ⟨rfl, h1, h2⟩
      exact ⟨rfl, h1, hidden fun s x0 x1 x2 x3 x4 hx => h2.out s x0 x1 x2 x3 x4 (box_on hx hu)⟩)
    have HR : Hid (∀ cp u, Md6 w u B X a r k n cp cs L G1 G2 key val → Calls Tryz.prog 55 #[.pointer (some ⟨r, 0, none⟩), .int .i64 x, .agg #[.slice ka kn kc, .int .i64 kd, .slice va vn vc, .int .i64 pg, .int .i64 ct]] u fun e u' => e = .returned (.int .i64 (setE k n cs x ⟨key, kd, val, pg, ct⟩)) ∧ Hid (Md6 w u' B X a r k n cp (if setE k n cs x ⟨key, kd, val, pg, ct⟩ = 0 then cs.take x.toNat ++ [⟨key, kd, val, pg, ct⟩] ++ cs.drop (x.toNat + 1) else cs) L G1 G2 key val) ∧ Hid (Kc5 u u')) := hidden (by
      intro cp u hu
      obtain ⟨l1, l2⟩ := HLO.out u hu.2.2.2
      exact hu.rset HG.out x ka kn kc kd va vn vc pg ct key val l1 l2)
    have HOK := hidden (HG.out.setc (x := x) HCW.out)
    obtain ⟨E, hE⟩ : ∃ E, setE k n cs x ⟨key, kd, val, pg, ct⟩ = E := ⟨_, rfl⟩
    obtain ⟨nw, hnw⟩ : ∃ nw, (if E = 0 then cs.take x.toNat ++ [⟨key, kd, val, pg, ct⟩] ++ cs.drop (x.toNat + 1) else cs) = nw := ⟨_, rfl⟩
    rw [hE, hnw] at HO HR HOK
    clear hE hnw
    go_upto_region 5 with fail
    go_cut [10] (fun v u => v = .int .i64 E ∧ Hid (Md6 w u B X a r k n nw cs L G1 G2 key val) ∧ Hid (Kc5 y2 u))
    case first =>
      go_wp2_with fail
      go_region_law (first
        | (go_simp; go_at_call 54; refine (HO.out _ (by first | exact Below.refl _ _ | exact (Below.refl _ _).drew | exact bl_dr (Below.refl _ _) _)).mono ?_; rintro e u1 ⟨rfl, HU1, HU2⟩))
      all_goals (try go_wp2_with fail)
      all_goals go_meet
      all_goals exact ⟨rfl, HU1, HU2⟩
    obtain ⟨rfl, HU1, HU2⟩ := hcut
    obtain ⟨u1, hu1⟩ : ∃ u1, u1 = wc := ⟨_, rfl⟩
    subst hu1
    clear c0 c1 c2 c3 c4 d0 d1 d2 d3 d4 p0 p1 HO
    obtain ⟨c0, c1, c2, c3, c4⟩ := (HU2.out _ _ _ _ _ _ HBOX1.out).cells
    obtain ⟨p0, p1⟩ := HU1.out.cells
    go_upto_region 6 with fail
    go_cut [11] (fun v u => v = .int .i64 E ∧ Hid (Md6 w u B X a r k n nw nw L G1 G2 key val) ∧ Hid (Kc5 y2 u))
    case first =>
      go_wp2_with fail
      go_region_law (first
        | (go_simp; go_at_call 55; refine (HR.out nw _ (by first | exact HU1.out | exact HU1.out.on ((Below.refl _ _).drew) | exact HU1.out.on (bl_dr (Below.refl _ _) _))).mono ?_; rintro e u2 ⟨rfl, HU3, HU4⟩))
      all_goals (try go_wp2_with fail)
      all_goals go_meet
      all_goals exact ⟨rfl, HU3, hidden fun s x0 x1 x2 x3 x4 hx => HU4.out s x0 x1 x2 x3 x4 (HU2.out s x0 x1 x2 x3 x4 hx)⟩
    obtain ⟨rfl, HU3, HU4⟩ := hcut
    obtain ⟨u2, hu2⟩ : ∃ u2, u2 = wc := ⟨_, rfl⟩
    subst hu2
    clear c0 c1 c2 c3 c4 p0 p1 HR
    obtain ⟨c0, c1, c2, c3, c4⟩ := (HU4.out _ _ _ _ _ _ HBOX1.out).cells
    obtain ⟨d0, d1, d2, d3, d4⟩ := (HU4.out _ _ _ _ _ _ HBOX2.out).cells
    have HA := hidden (HU3.out.back HNE.out HW0.out HB0.out ka kn kc kd va vn vc pg ct HK0.out HV0.out)
    have hEE : decide (E = E) = true := by simp
    go_wp2_with (first | (go_at_call 57; refine HA.out.mono ?_; rintro e u3 ⟨rfl, H5, H6⟩))
    go_ret
    refine ⟨rfl, hidden ?_, H6⟩
    obtain ⟨K, M, vb, vs, vl, v1, v2, v3, v4, us, ps, st⟩ := H5.out
    exact ⟨nw, a, K, M, vb, vs, vl, v1, v2, v3, v4, us, ps, HOK.out, st⟩
  · have hqb : decide (q = 2) = false := by simpa using hq
    have HO : Hid (∀ u, Below y2.heap.size y2 u → Calls Tryz.prog 18 #[.pointer (some ⟨a, 0, none⟩), .int .i64 x, .agg #[.slice (some ⟨G1, 0, none⟩) kn (kn + 9), .int .i64 kd, .slice (some ⟨G2, 0, none⟩) vn (vn + 9), .int .i64 pg, .int .i64 ct]] u fun e u' => e = .returned (.int .i64 (insE k n cs x ⟨key, kd, val, pg, ct⟩)) ∧ Hid (Md6 w u' B X a r k n (if insE k n cs x ⟨key, kd, val, pg, ct⟩ = 0 then cs.take x.toNat ++ [⟨key, kd, val, pg, ct⟩] ++ cs.drop x.toNat else cs) cs L G1 G2 key val) ∧ Hid (Kc5 y2 u')) := hidden (by
      intro u hu
      obtain ⟨l1, l2⟩ := HLK.out u hu
      refine ((HMD.out.on hu).ins HG.out x _ kn _ kd _ vn _ pg ct key val l1 l2).mono ?_
      rintro e u' ⟨rfl, h1, h2⟩
      exact ⟨rfl, h1, hidden fun s x0 x1 x2 x3 x4 hx => h2.out s x0 x1 x2 x3 x4 (box_on hx hu)⟩)
    have HR : Hid (∀ cp u, Md6 w u B X a r k n cp cs L G1 G2 key val → Calls Tryz.prog 56 #[.pointer (some ⟨r, 0, none⟩), .int .i64 x, .agg #[.slice ka kn kc, .int .i64 kd, .slice va vn vc, .int .i64 pg, .int .i64 ct]] u fun e u' => e = .returned (.int .i64 (insE k n cs x ⟨key, kd, val, pg, ct⟩)) ∧ Hid (Md6 w u' B X a r k n cp (if insE k n cs x ⟨key, kd, val, pg, ct⟩ = 0 then cs.take x.toNat ++ [⟨key, kd, val, pg, ct⟩] ++ cs.drop x.toNat else cs) L G1 G2 key val) ∧ Hid (Kc5 u u')) := hidden (by
      intro cp u hu
      obtain ⟨l1, l2⟩ := HLO.out u hu.2.2.2
      exact hu.rins HG.out x ka kn kc kd va vn vc pg ct key val l1 l2)
    have HOK := hidden (HG.out.ins (x := x) HCW.out)
    obtain ⟨E, hE⟩ : ∃ E, insE k n cs x ⟨key, kd, val, pg, ct⟩ = E := ⟨_, rfl⟩
    obtain ⟨nw, hnw⟩ : ∃ nw, (if E = 0 then cs.take x.toNat ++ [⟨key, kd, val, pg, ct⟩] ++ cs.drop x.toNat else cs) = nw := ⟨_, rfl⟩
    rw [hE, hnw] at HO HR HOK
    clear hE hnw
    go_upto_region 7 with fail
    go_cut [10] (fun v u => v = .int .i64 E ∧ Hid (Md6 w u B X a r k n nw cs L G1 G2 key val) ∧ Hid (Kc5 y2 u))
    case first =>
      go_wp2_with fail
      go_region_law (first
        | (go_simp; go_at_call 18; refine (HO.out _ (by first | exact Below.refl _ _ | exact (Below.refl _ _).drew | exact bl_dr (Below.refl _ _) _)).mono ?_; rintro e u1 ⟨rfl, HU1, HU2⟩))
      all_goals (try go_wp2_with fail)
      all_goals go_meet
      all_goals exact ⟨rfl, HU1, HU2⟩
    obtain ⟨rfl, HU1, HU2⟩ := hcut
    obtain ⟨u1, hu1⟩ : ∃ u1, u1 = wc := ⟨_, rfl⟩
    subst hu1
    clear c0 c1 c2 c3 c4 d0 d1 d2 d3 d4 p0 p1 HO
    obtain ⟨c0, c1, c2, c3, c4⟩ := (HU2.out _ _ _ _ _ _ HBOX1.out).cells
    obtain ⟨p0, p1⟩ := HU1.out.cells
    go_upto_region 8 with fail
    go_cut [11] (fun v u => v = .int .i64 E ∧ Hid (Md6 w u B X a r k n nw nw L G1 G2 key val) ∧ Hid (Kc5 y2 u))
    case first =>
      go_wp2_with fail
      go_region_law (first
        | (go_simp; go_at_call 56; refine (HR.out nw _ (by first | exact HU1.out | exact HU1.out.on ((Below.refl _ _).drew) | exact HU1.out.on (bl_dr (Below.refl _ _) _))).mono ?_; rintro e u2 ⟨rfl, HU3, HU4⟩))
      all_goals (try go_wp2_with fail)
      all_goals go_meet
      all_goals exact ⟨rfl, HU3, hidden fun s x0 x1 x2 x3 x4 hx => HU4.out s x0 x1 x2 x3 x4 (HU2.out s x0 x1 x2 x3 x4 hx)⟩
    obtain ⟨rfl, HU3, HU4⟩ := hcut
    obtain ⟨u2, hu2⟩ : ∃ u2, u2 = wc := ⟨_, rfl⟩
    subst hu2
    clear c0 c1 c2 c3 c4 p0 p1 HR
    obtain ⟨c0, c1, c2, c3, c4⟩ := (HU4.out _ _ _ _ _ _ HBOX1.out).cells
    obtain ⟨d0, d1, d2, d3, d4⟩ := (HU4.out _ _ _ _ _ _ HBOX2.out).cells
    have HA := hidden (HU3.out.back HNE.out HW0.out HB0.out ka kn kc kd va vn vc pg ct HK0.out HV0.out)
    have hEE : decide (E = E) = true := by simp
    go_wp2_with (first | (go_at_call 57; refine HA.out.mono ?_; rintro e u3 ⟨rfl, H5, H6⟩))
    go_ret
    refine ⟨rfl, hidden ?_, H6⟩
    obtain ⟨K, M, vb, vs, vl, v1, v2, v3, v4, us, ps, st⟩ := H5.out
    exact ⟨nw, a, K, M, vb, vs, vl, v1, v2, v3, v4, us, ps, HOK.out, st⟩
end Go.Proofs.YtphjnahmbdinmaaGreatDoor
