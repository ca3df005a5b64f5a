/- Layer 6: the law's play: Find, and Insert at the place that Find tells. -/
import Derived.Test.YtphjnahmbdinmaaGreatDoorJ45
import Derived.Test.YtphjnahmbdinmaaGreatDoorP6h
import Derived.Test.YtphjnahmbdinmaaGreatDoorJ16
namespace Go.Proofs.YtphjnahmbdinmaaGreatDoor
open Go.RowKit

set_option maxRecDepth 100000 in
set_option maxHeartbeats 4000000 in
theorem play6_find (w w0 : World) (B X r : Nat) (k : Int) (n t : Nat) (h : PaE w B X r k n t) (hw0 : Below B w0 w) (hB0 : w0.heap.size ≤ B) (q x : Int) (ka : Option Addr) (kn kc : Nat) (kd : Int) (va : Option Addr) (vn vc : Nat) (pg ct : Int) (key val : List Int) (hk : Sl w0 ka kn kc key) (hv : Sl w0 va vn vc val) (hq : q = 5 ∨ q = 6) :
    Calls Tryz.prog 7 #[.pointer (some ⟨X, 0, none⟩), opV6 q x ka kn kc kd va vn vc pg ct] w (PlTo w B X r k n t) := by
  obtain ⟨L, hL, cs, a, K, M, vb, vs, vl, v1, v2, v3, v4, us, ps, g, hs⟩ := h
  unfold opV6
  obtain ⟨s, hsz⟩ : ∃ s, w.heap.size = s := ⟨_, rfl⟩
  obtain ⟨y, hy⟩ : ∃ y, w.alloc (.cells #[.int .i64 q, .int .i64 x, .slice ka kn kc, .int .i64 kd, .slice va vn vc, .int .i64 pg, .int .i64 ct] 42) = y := ⟨_, rfl⟩
  have hby : Below w.heap.size w y := by rw [← hy]; exact bl_al (Below.refl _ _) (Nat.le_refl _) _
  have hbox : O7 y s q x ka kn kc kd va vn vc pg ct := by rw [← hy, ← hsz]; exact heap_alloc_last w _
  obtain ⟨A, hA⟩ : ∃ A, y.heap.size = A := ⟨_, rfl⟩
  have hys : A = s + 1 := by rw [← hA, ← hy, ← hsz]; simp
  have hlo := bl_low hby hs.size
  have hsy := hs.on hby
  have HLE := hidden (Lent_any ka kn kc key y (hk.on hB0 (hw0.trans hlo)))
  rw [hA] at HLE
  have HK0 := hidden hk
  have HV0 := hidden hv
  have HS := hidden hs
  have HSY := hidden hsy
  have HG := hidden g
  have HW0 := hidden hw0
  have HB0 := hidden hB0
  have HLO := hidden hlo
  have HL := hidden hL
  have HBY := hidden hby
  have HBOX := hidden hbox
  have HA := hidden hA
  have HYS := hidden hys
  obtain ⟨c0, c1, c2, c3, c4, c5, c6⟩ := hbox.cells
  obtain ⟨p0, p1, p2, p3, p4, p5⟩ := hsy.px.cells
  have hqq : (q == 1) = false ∧ (q == 2) = false ∧ (q == 3) = false ∧ (q == 4) = false := by rcases hq with rfl | rfl <;> decide
  obtain ⟨e1, e2, e3, e4⟩ := hqq
  obtain ⟨C, hC⟩ : ∃ C : Nat, cntL cs key = C := ⟨_, rfl⟩
  obtain ⟨b, hb⟩ : ∃ b : Bool, isL cs key = b := ⟨_, rfl⟩
  have HC := hidden hC
  have HBI := hidden hb
  clear hk hv hs hsy g hw0 hB0 hlo hL hby hbox hA hys hC hb
  rcases hq with rfl | rfl
  all_goals
    go_enter Tryz.func7, Tryz.ntmps7
    go_wp2_with (first | (go_at_call 30; refine HLE.out.mono ?_; rintro e u1 ⟨rfl, hb1, hbl1⟩; refine Hid.out ?_))
    apply hidden
    have HB1 : Hid (Bk u1 A (key ++ mks 9)) := hidden hb1
    have hbl1' : Below y.heap.size y u1 := by rw [HA.out]; exact hbl1
    have HU1 := hidden hbl1'
    have st1 := HSY.out.on hbl1'
    have hsl1 := sl_lent (l := key) HB1.out HK0.out.wf (by rw [HK0.out.hlen]; exact HK0.out.hroom)
    rw [HK0.out.hlen] at hsl1
    have HF := hidden (findO_any u1 B a k n vb vs cs st1.po HG.out (some ⟨A, 0, none⟩) kn (kn + 9) key hsl1)
    rw [HC.out, HBI.out] at HF
    clear c0 c1 c2 c3 c4 c5 c6 p0 p1 p2 p3 p4 p5 HLE
    obtain ⟨c0, c1, c2, c3, c4, c5, c6⟩ := (show O7 u1 s _ x ka kn kc kd va vn vc pg ct from box_on HBOX.out hbl1').cells
    obtain ⟨p0, p1, p2, p3, p4, p5⟩ := st1.px.cells
    clear hb1 hbl1 hbl1' st1 hsl1
    go_wp2_with (first | (go_at_call 19; refine HF.out.mono ?_; rintro e u2 ⟨rfl, HU2⟩; refine Hid.out ?_))
    apply hidden
    have hy2 : Below y.heap.size y u2 := bl_go HU1.out (Nat.le_refl _) HU2.out
    have hBy2 : Below B w u2 := HLO.out.trans (bl_low hy2 HSY.out.size)
    have st2 := HSY.out.on hy2
    have hb2 : Bk u2 A (key ++ mks 9) := box_on HB1.out HU2.out
    have hG2 : Fre u2 B K M vb A := HSY.out.new HSY.out.size (by rw [HA.out]; exact Nat.le_refl _) (lt_some hb2)
    have htr : ∀ u', Cf (fun q => q = A) u2 u' → St6 u' B X a r k n K M cs cs L vb vs vl v1 v2 v3 v4 us ps ∧ Below B u2 u' := fun u' hc => st2.turn hc (by
      rintro z rfl
      exact ⟨hG2, _, _, hb2⟩)
    have HAL := hidden (AsLent_any A kn ka kc key u2 hb2 (HK0.out.on HB0.out (HW0.out.trans hBy2)))
    have HTR := hidden htr
    have HBY2 := hidden hBy2
    have hbox2 : O7 u2 s _ x ka kn kc kd va vn vc pg ct := box_on HBOX.out hy2
    have HBOX2 := hidden hbox2
    clear c0 c1 c2 c3 c4 c5 c6 p0 p1 p2 p3 p4 p5 HF
    obtain ⟨c0, c1, c2, c3, c4, c5, c6⟩ := hbox2.cells
    clear hy2 hBy2 st2 hb2 hG2 htr hbox2
    go_wp2_with (first | (go_at_call 31; refine HAL.out.mono ?_; rintro e u3 ⟨rfl, hcf⟩; refine Hid.out ?_))
    apply hidden
    obtain ⟨st3, hbl3⟩ := HTR.out u3 hcf
    have hbox3 : O7 u3 s _ x ka kn kc kd va vn vc pg ct := (hcf.block s (lt_some HBOX2.out) (by have := HYS.out; omega)).trans HBOX2.out
    have hB3 : Below B w u3 := HBY2.out.trans hbl3
    have HR : Hid (∀ u, Below u3.heap.size u3 u → Calls Tryz.prog 32 #[.pointer (some ⟨r, 0, none⟩), .slice ka kn kc] u fun e w' => e = .returned (.tuple #[.int .i64 (C : Int), .bool b]) ∧ Hid (Below u3.heap.size u3 w')) := hidden (by
      intro u hu
      have stu := st3.on hu
      refine (rfind_any u B K r k n vl cs stu.dp HG.out.rooms (by have := HG.out.len; omega) ka kn kc key (HK0.out.on HB0.out (HW0.out.trans (hB3.trans (bl_low hu st3.size))))).mono ?_
      rw [HC.out, HBI.out]
      rintro e u' ⟨rfl, h1⟩
      exact ⟨rfl, hidden (bl_go hu (Nat.le_refl _) h1.out)⟩)
    have ST3 := hidden st3
    have HB3 := hidden hB3
    have HBOX3 := hidden hbox3
    clear c0 c1 c2 c3 c4 c5 c6 HAL HTR
    obtain ⟨c0, c1, c2, c3, c4, c5, c6⟩ := hbox3.cells
    obtain ⟨p0, p1, p2, p3, p4, p5⟩ := st3.px.cells
    clear hcf st3 hbl3 hbox3 hB3
    go_upto_region 19 with fail
    go_cut [14, 15] (fun v v' u => v = .int .i64 (C : Int) ∧ v' = .bool b ∧ Hid (Below u3.heap.size u3 u))
    case first =>
      go_wp2_with fail
      go_region_law (first
        | (go_simp; go_at_call 32; refine (HR.out _ (by first | with_reducible exact Below.refl _ _ | with_reducible exact (Below.refl _ _).drew | with_reducible exact bl_dr (Below.refl _ _) _)).mono ?_; rintro e u4 ⟨rfl, HU4⟩))
      all_goals (try go_wp2_with fail)
      all_goals go_meet
      all_goals exact ⟨rfl, rfl, HU4⟩
    obtain ⟨rfl, rfl, HU4⟩ := hcut
    obtain ⟨u4, hu4⟩ : ∃ u4, u4 = wc := ⟨_, rfl⟩
    subst hu4
    clear c0 c1 c2 c3 c4 c5 c6 p0 p1 p2 p3 p4 p5 HR
    obtain ⟨c0, c1, c2, c3, c4, c5, c6⟩ := (show O7 u4 s _ x ka kn kc kd va vn vc pg ct from box_on HBOX3.out HU4.out).cells
    have st4 := ST3.out.on HU4.out
    have hB4 : Below B w u4 := HB3.out.trans (bl_low HU4.out ST3.out.size)
    have ste : StE u4 B X r k n L := ⟨cs, a, K, M, vb, vs, vl, v1, v2, v3, v4, us, ps, HG.out, st4⟩
    have HLN := hidden (lent6_go u4 w0 B X r k n L ste (HW0.out.trans hB4) HB0.out 1 (C : Int) ka kn kc kd va vn vc pg ct key val HK0.out HV0.out)
    have HST := hidden ste
    have HB4 := hidden hB4
    have cb : (b != b) = false := by simp
    clear st4 hB4 ste
    go_wp2_with (first | (go_at_call 24; refine HLN.out.mono ?_; rintro e u5 ⟨rfl, H5, H6⟩))
    go_ret
    first
      | exact ⟨rfl, hidden ⟨L, HL.out.up, H5.out⟩, hidden (HB4.out.trans H6.out)⟩
      | exact ⟨rfl, hidden ⟨L, HL.out.up, HST.out⟩, HB4⟩
end Go.Proofs.YtphjnahmbdinmaaGreatDoor

/- Layer 6: the law's play: Open of Bytes takes the page's place. -/

namespace Go.Proofs.YtphjnahmbdinmaaGreatDoor
open Go.RowKit

set_option maxRecDepth 100000 in
/-- Another page takes the place of ours. -/
theorem St6.again {w : World} {B X a r : Nat} {k : Int} {n : Nat} {K M : Nat → Prop} {cp cd cp' : List Cl} {L : Ls6} {vb vs vl v1 v2 v3 v4 vb' vs' : Value} {us ps : List Value} {a' : Nat} (h : St6 w B X a r k n K M cp cd L vb vs vl v1 v2 v3 v4 us ps) (hp : Po w B a' k n vb' vs' cp') (hb : ∀ z, vb'.ownBlock = some z → ¬ K z ∧ ¬ M z) (ha : B ≤ a') :
    St6 (w.setCell ⟨X, 0, none⟩ (.pointer (some ⟨a', 0, none⟩))) B X a' r k n K M cp' cd L vb' vs' vl v1 v2 v3 v4 us ps ∧ Below B w (w.setCell ⟨X, 0, none⟩ (.pointer (some ⟨a', 0, none⟩))) := by
  have hc := Cf.set w X 0 (.pointer (some ⟨a', 0, none⟩))
  have hX := h.px
  unfold PX at hX
  have hno : ∀ {z : Nat} {cur : Array Value} {t : TypeId} {fz : Nat × Nat}, w.heap[z]? = some (.cells cur t fz) → t ≠ 36 → ¬ z = X := by
    intro z cur t fz hh ht e
    subst e
    rw [hX] at hh
    injection hh with hh
    injection hh with _ e2 _
    exact ht e2.symm
  have hrow : ∀ {e : TypeId} {s m : Nat} {v : Value} {xs : List Value}, w.ownsRow B e s v m xs → e ≠ 36 → ∀ z, v.ownBlock = some z → ¬ z = X := by
    intro e s m v xs hr h1 z hz
    obtain ⟨cur, fz, hh⟩ := row_ty hr hz
    exact hno hh h1
  have hK8 : ∀ J, Kt8 w J (· = X) := fun J z cur fz _ hh => hno hh (by decide)
  obtain ⟨ws, hw1, hw2, hw3⟩ := h.cm.wt
  obtain ⟨ls, hl1, hl2, hl3⟩ := h.dp.cells
  refine ⟨⟨h.px.set0 a', ⟨hp.row.cf hc (hno hp.row (by decide)), row_cf hp.body hc (hrow hp.body (by decide)), row_cf hp.starts hc (hrow hp.starts (by decide))⟩, ⟨h.dp.row.cf hc (hno h.dp.row (by decide)), h.dp.cells.cfT hc (hrow hl1 (by decide)) (hK8 K)⟩, h.cm.cf hc (hrow h.cm.cm (by decide)) (hrow hw1 (by decide)) (hrow h.cm.pc (by decide)) (hrow h.cm.hs (by decide)) (hK8 K) (hK8 M), fun z hz => ⟨(h.mz z hz).1, Nat.lt_of_lt_of_le (h.mz z hz).2 hc.size⟩, fun z hz => Nat.lt_of_lt_of_le (h.kb z hz) hc.size, hb, h.r1, h.r2, h.r3, ⟨h.lo.1, ha, h.lo.2.2⟩⟩, ?_⟩
  refine ⟨hc.os, hc.tape, hc.output, hc.size, fun q hq => hc.block q (by have := h.size; omega) ?_⟩
  have := h.lo.1
  omega
set_option maxRecDepth 100000 in
theorem PgOk.is {k : Int} {n : Nat} {cs : List Cl} (g : PgOk k n cs) : Is k n cs (en6 k n cs) := by
  refine enc_is6 g.enc ?_
  unfold en6
  rw [if_pos g.enc, Int.toNat_natCast]
set_option maxRecDepth 100000 in
set_option maxHeartbeats 4000000 in
theorem play6_again (w : World) (B X r : Nat) (k : Int) (n t : Nat) (h : PaE w B X r k n t) (ht : Tab w) (h0 : 1 < w.heap.size) (x : Int) (ka : Option Addr) (kn kc : Nat) (kd : Int) (va : Option Addr) (vn vc : Nat) (pg ct : Int) :
    Calls Tryz.prog 7 #[.pointer (some ⟨X, 0, none⟩), opV6 7 x ka kn kc kd va vn vc pg ct] w (PlTo w B X r k n t) := by
  obtain ⟨L, hL, cs, a, K, M, vb, vs, vl, v1, v2, v3, v4, us, ps, g, hs⟩ := h
  unfold opV6
  obtain ⟨s, hsz⟩ : ∃ s, w.heap.size = s := ⟨_, rfl⟩
  obtain ⟨y, hy⟩ : ∃ y, w.alloc (.cells #[.int .i64 7, .int .i64 x, .slice ka kn kc, .int .i64 kd, .slice va vn vc, .int .i64 pg, .int .i64 ct] 42) = y := ⟨_, rfl⟩
  have hby : Below w.heap.size w y := by rw [← hy]; exact bl_al (Below.refl _ _) (Nat.le_refl _) _
  have hbox : O7 y s 7 x ka kn kc kd va vn vc pg ct := by rw [← hy, ← hsz]; exact heap_alloc_last w _
  have hlo := bl_low hby hs.size
  have hsy := hs.on hby
  have hty := ht.on hby h0
  have h0y : 1 < y.heap.size := by have := hby.size; omega
  have H1 := hidden (bytesO_any y B a k n vb vs cs hsy.po g hty h0y)
  have HIS := hidden g.is
  obtain ⟨l, hl⟩ : ∃ l, en6 k n cs = l := ⟨_, rfl⟩
  have hlw : Wf l ∧ l.length ≤ 65536 := by rw [← hl]; exact ⟨en6_wf g.wf, en6_len⟩
  rw [hl] at H1 HIS
  have HLW := hidden hlw
  have HTY := hidden hty
  have H0Y := hidden h0y
  have HSY := hidden hsy
  have HG := hidden g
  have HLO := hidden hlo
  have HL := hidden hL
  obtain ⟨c0, c1, c2, c3, c4, c5, c6⟩ := hbox.cells
  obtain ⟨p0, p1, p2, p3, p4, p5⟩ := hsy.px.cells
  clear hs hsy g hlo hL hby hbox hty h0y hl hlw ht h0
  go_enter Tryz.func7, Tryz.ntmps7
  go_wp2_with (first | (go_at_call 33; refine H1.out.mono ?_; rintro e u1 ⟨ao, m, c, rfl, HO1, HU1⟩; refine Hid.out ?_))
  apply hidden
  have hop : Calls Tryz.prog 34 #[.slice ao m c] u1 fun e u2 => ∃ a' vb' vs', e = .returned (.tuple #[.pointer (some ⟨a', 0, none⟩), .int .i64 0]) ∧ Hid (Po u2 u1.heap.size a' k n vb' vs' cs ∧ u1.heap.size ≤ a') ∧ Hid (Below u1.heap.size u1 u2) := by
    refine (open_po ao m c l u1 (HO1.out.sl2 HLW.out.1 (by have := HLW.out.2; omega)) (HTY.out.on HU1.out H0Y.out) (by have := HU1.out.size; have := H0Y.out; omega)).mono ?_
    rintro e u2 ⟨po, j, rfl, hbl, hq⟩
    rcases hq.out with ⟨_, _, hno⟩ | ⟨a', bo, bn, bc, so, sn, sc, ds, rfl, rfl, ha, his, _, _, _, hpo⟩
    · exfalso
      have hi := HIS.out
      obtain ⟨_, hn, hk⟩ := readM_of hi
      exact hno ⟨cs, by rw [hn, hk]; exact hi⟩
    · obtain ⟨e1, e2, e3⟩ := his.one HIS.out
      rw [e1, e2] at hpo
      subst e3
      exact ⟨a', _, _, rfl, hidden ⟨hpo, ha⟩, hbl⟩
  have HOP := hidden hop
  clear hop H1
  go_wp2_with (first | (go_at_call 34; refine HOP.out.mono ?_; rintro e u2 ⟨a', vb', vs', rfl, HP2, HU2⟩; refine Hid.out ?_))
  apply hidden
  have hy2 : Below y.heap.size y u2 := bl_go HU1.out (Nat.le_refl _) HU2.out
  have st2 := HSY.out.on hy2
  have hyB := HSY.out.size
  have hu1 := HU1.out.size
  have hpB : Po u2 B a' k n vb' vs' cs := ⟨HP2.out.1.row, HP2.out.1.body.low (by omega), HP2.out.1.starts.lowN (by omega)⟩
  obtain ⟨st3, hbl3⟩ := st2.again hpB (fun z hz => by
    have h1 := (World.ownsRow.lt HP2.out.1.body z hz).1
    exact ⟨fun hk => absurd (HSY.out.kb z hk) (by omega), fun hm => absurd (HSY.out.mz z hm).2 (by omega)⟩) (by have := HP2.out.2; omega)
  have hB3 := (HLO.out.trans (bl_low hy2 hyB)).trans hbl3
  clear c0 c1 c2 c3 c4 c5 c6 p0 p1 p2 p3 p4 p5
  obtain ⟨p0, p1, p2, p3, p4, p5⟩ := st2.px.cells
  have f0 := st2.px.free 0
  have ST3 := hidden st3
  have HB3 := hidden hB3
  clear hy2 st2 hyB hu1 hpB st3 hbl3 hB3 HP2 HU2 HOP
  go_wp2
  go_ret
  exact ⟨rfl, hidden ⟨L, HL.out.up, cs, a', K, M, vb', vs', vl, v1, v2, v3, v4, us, ps, HG.out, ST3.out⟩, HB3⟩
end Go.Proofs.YtphjnahmbdinmaaGreatDoor

/- Layer 6: every step of a script; a script in memory; the pair at the start. -/

namespace Go.Proofs.YtphjnahmbdinmaaGreatDoor
open Go.RowKit

set_option maxRecDepth 100000 in
theorem play6_any (w w0 : World) (B X r : Nat) (k : Int) (n t : Nat) (h : PaE w B X r k n t) (hw0 : Below B w0 w) (hB0 : w0.heap.size ≤ B) (ht0 : Tab w0) (hBG : 1 < B) (hwG : 1 < w.heap.size) (htt : t ≤ 4000000) (q x : Int) (ka : Option Addr) (kn kc : Nat) (kd : Int) (va : Option Addr) (vn vc : Nat) (pg ct : Int) (key val : List Int) (hk : Sl w0 ka kn kc key) (hv : Sl w0 va vn vc val) :
    Calls Tryz.prog 7 #[.pointer (some ⟨X, 0, none⟩), opV6 q x ka kn kc kd va vn vc pg ct] w (PlTo w B X r k n t) := by
  have ht : Tab w := ht0.on hw0 hBG
  by_cases h1 : q = 1
  · exact play6_lent w w0 B X r k n t h hw0 hB0 q x ka kn kc kd va vn vc pg ct key val hk hv (.inl h1)
  by_cases h2 : q = 2
  · exact play6_lent w w0 B X r k n t h hw0 hB0 q x ka kn kc kd va vn vc pg ct key val hk hv (.inr h2)
  by_cases h3 : q = 3
  · subst h3
    exact play6_remove w B X r k n t h x ka kn kc kd va vn vc pg ct
  by_cases h4 : q = 4
  · subst h4
    exact play6_cell w B X r k n t h htt x ka kn kc kd va vn vc pg ct
  by_cases h5 : q = 5
  · exact play6_find w w0 B X r k n t h hw0 hB0 q x ka kn kc kd va vn vc pg ct key val hk hv (.inl h5)
  by_cases h6 : q = 6
  · exact play6_find w w0 B X r k n t h hw0 hB0 q x ka kn kc kd va vn vc pg ct key val hk hv (.inr h6)
  by_cases h7 : q = 7
  · subst h7
    exact play6_again w B X r k n t h ht hwG x ka kn kc kd va vn vc pg ct
  exact play6_bytes w B X r k n t h ht hwG htt q x ka kn kc kd va vn vc pg ct ⟨h1, h2, h3, h4, h5, h6, h7⟩
/-- A step in plain words. -/
structure Op6 where
  q : Int
  x : Int
  c : Cl
/-- A step in a row. -/
def OAt6 (w : World) (b off : Nat) (o : Op6) : Prop :=
  ∃ ka kc va vc, w.cell? ⟨b, off, none⟩ = some (.int .i64 o.q) ∧ w.cell? ⟨b, off + 1, none⟩ = some (.int .i64 o.x) ∧ w.cell? ⟨b, off + 2, none⟩ = some (.slice ka o.c.key.length kc) ∧ w.cell? ⟨b, off + 3, none⟩ = some (.int .i64 o.c.kd) ∧ w.cell? ⟨b, off + 4, none⟩ = some (.slice va o.c.val.length vc) ∧ w.cell? ⟨b, off + 5, none⟩ = some (.int .i64 o.c.pg) ∧ w.cell? ⟨b, off + 6, none⟩ = some (.int .i64 o.c.ct) ∧ Sl w ka o.c.key.length kc o.c.key ∧ Sl w va o.c.val.length vc o.c.val
/-- THE SLICE VALUE READS AS THE SCRIPT os. -/
structure SlO6 (w : World) (ao : Option Addr) (n cap : Nat) (os : List Op6) : Prop where
  hlen : os.length = n
  hcap : n ≤ cap
  hat : n = 0 ∨ ∃ b off, ao = some ⟨b, off, none⟩ ∧ b < w.heap.size ∧ ∀ i o, os[i]? = some o → OAt6 w b (off + i * 7) o
set_option maxRecDepth 100000 in
/-- The pair at the start. -/
theorem StE.start {w : World} {B X a r : Nat} {k : Int} {n : Nat} (hx : PX w X a r (.slice none 0 0) (.slice none 0 0) (.slice none 0 0) (.slice none 0 0)) (hp : Po w B a k n (.slice none 0 0) (.slice none 0 0) []) (hd : DR w r k n (.slice none 0 0)) (hk : isKd k) (hn : pw n) (h1 : B ≤ X) (h2 : B ≤ a) (h3 : B ≤ r) : PaE w B X r k n 0 := by
  have hno : ∀ z, (Value.slice none 0 0).ownBlock = some z → False := fun z hz => by simp [Value.ownBlock] at hz
  refine ⟨⟨[], [], [], []⟩, ⟨rfl, rfl, Nat.le_refl _, Nat.le_refl _⟩, [], a, fun _ => False, fun _ => False, .slice none 0 0, .slice none 0 0, .slice none 0 0, _, _, _, _, [], [], PgOk.nil hk hn, hx, hp, ⟨hd, OwnR.nil _ _ _ _⟩, ⟨World.ownsRow_nil _ _ _ _, rfl, OwnR.nil _ _ _ _, World.ownsRow_nil _ _ _ _, fun t u l hu => by simp at hu, World.ownsRow_nil _ _ _ _, fun c hc => by simp at hc, fun l hl => by simp at hl, List.Pairwise.nil, fun u hu => by simp at hu, fun u hu => by simp at hu⟩, fun z hz => hz.elim, fun z hz => hz.elim, fun z hz => (hno z hz).elim, fun z hz => (hno z hz).elim, fun z hz => (hno z hz).elim, fun z hz => (hno z hz).elim, h1, h2, h3⟩
end Go.Proofs.YtphjnahmbdinmaaGreatDoor

/- From a row's readings to what the walk asks: a script of layer 6 that came in. -/

namespace Go.Proofs.YtphjnahmbdinmaaGreatDoor
open Go.ChangeShapes Go.WideShapes Go.ChangeAt Go.RowKit

set_option maxRecDepth 100000 in
theorem cellsOp6 : Tryz.prog.cellsOf 42 = 7 := by kernel_rfl
set_option maxRecDepth 100000 in
theorem bytesOp6 : Tryz.prog.bytesOf 42 = 88 := by kernel_rfl
set_option maxRecDepth 100000 in
theorem bulk_pos6 {H : Type} : ∀ d : DataW H, 1 ≤ Rows.uptoBulk d
  | .lit (.string _) => by simp [Rows.uptoBulk]
  | .lit (.int _ _) => by simp [Rows.uptoBulk]
  | .lit (.bool _) => by simp [Rows.uptoBulk]
  | .lit _ => by unfold Rows.uptoBulk; split <;> simp_all
  | .nil => by simp [Rows.uptoBulk]
  | .ptr _ => by simp [Rows.uptoBulk]
  | .slice _ _ => by simp [Rows.uptoBulk]
  | .agg _ => by simp [Rows.uptoBulk]
  | .iface _ _ => by simp [Rows.uptoBulk]
  | .map _ => by simp [Rows.uptoBulk]
  | .held _ => by simp [Rows.uptoBulk]
set_option maxRecDepth 100000 in
theorem bulk_all6 {H : Type} (c : Nat) : ∀ l : List (DataW H), (∀ x ∈ l, c ≤ Rows.uptoBulk x) → c * l.length ≤ Rows.uptoBulkAll l
  | [], _ => Nat.zero_le _
  | d :: r, h => by
    have h1 := h d (by simp)
    have h2 := bulk_all6 c r (fun x hx => h x (by simp [hx]))
    simp only [Rows.uptoBulkAll, List.length_cons, Nat.mul_add]
    omega
set_option maxRecDepth 100000 in
theorem open_ops6 {H : Type} {enc : TypeId × Value → H} {W : World} {base : Nat} {sp : Nat → Bool} {held : Bool} {v : Value} {d : DataW H} {p : List MemPlace} {ts : List TypeId} {ds : List (DataW H)} (hok : Value.okWide Tryz.prog W .any base 22 v)
    (h : DataW.Trod enc Tryz.prog W 0 sp held 22 v d p) (hsz : (DataW.weightsEach Tryz.prog ts ds).all (· ≤ reachBytes) = true) (j : Nat) (ht : ts[j]? = some 22) (hd : ds[j]? = some d) :
    ∃ a n c os, v = .slice a n c ∧ SlO6 W a n c os ∧ n ≤ Rows.uptoBulk d := by
  obtain ⟨a, len, cap, rfl⟩ := okWide_slice Tryz.underlying22 hok
  obtain ⟨fuel, hf⟩ := h
  rcases DataW.trod_slice Tryz.underlying22 hf with ⟨hcs, hx⟩ | ⟨x, len', cap', elems, rest, m, _, hcs, hx, _, hl, hm, hlen, hel, hsp, hns⟩
  · simp [Value.cells] at hcs
    obtain ⟨rfl, rfl, rfl⟩ := hcs
    exact ⟨none, 0, 0, [], rfl, ⟨rfl, Nat.le_refl _, .inl rfl⟩, Nat.zero_le _⟩
  · simp [Value.cells] at hcs
    obtain ⟨rfl, rfl, rfl⟩ := hcs
    obtain rfl : d = .slice (elems.map (·.1)) (rest.map (·.1)) := congrArg Prod.fst hx
    have hall : ∀ n, n ∈ DataW.weights Tryz.prog 22 (.slice (elems.map (·.1)) (rest.map (·.1))) → n ≤ reachBytes := by
      intro n hn
      have := List.all_eq_true.1 hsz n (DataW.weights_mem_each ht hd n hn)
      simpa using this
    have each : ∀ i, i < len → ∃ (o : Op6) (ka : Option Addr) (kc : Nat) (va : Option Addr) (vc : Nat), W.cell? (x.add (i * 7)) = some (.int .i64 o.q) ∧ W.cell? (x.add (i * 7 + 1)) = some (.int .i64 o.x) ∧ W.cell? (x.add (i * 7 + 2)) = some (.slice ka o.c.key.length kc) ∧ W.cell? (x.add (i * 7 + 3)) = some (.int .i64 o.c.kd) ∧ W.cell? (x.add (i * 7 + 4)) = some (.slice va o.c.val.length vc) ∧ W.cell? (x.add (i * 7 + 5)) = some (.int .i64 o.c.pg) ∧ W.cell? (x.add (i * 7 + 6)) = some (.int .i64 o.c.ct) ∧
        Sl W ka o.c.key.length kc o.c.key ∧ Sl W va o.c.val.length vc o.c.val := by
      intro i hi
      have h1 := hel i hi
      have hy : elems[i]? = some elems[i] := List.getElem?_eq_getElem (by omega)
      rw [hy, cellsOp6, Option.bind_eq_some_iff] at h1
      obtain ⟨cs', hc1, hc2⟩ := h1
      have hmem : elems[i].1 ∈ elems.map (·.1) := List.mem_map.2 ⟨elems[i], List.getElem_mem _, rfl⟩
      have hwe : ∀ n ∈ elems[i].1.weights Tryz.prog 42, n ≤ reachBytes := fun n hn => hall n (by
        simp only [DataW.weights, Tryz.underlying22, List.mem_cons, List.mem_append]
        exact .inr (.inl (weights_part hmem hn)))
      obtain ⟨xs, m', hm', hxe, hl', hxl, hfs⟩ := DataW.trod_struct Tryz.underlying42 hc2
      obtain ⟨_, hcl, hcc⟩ := World.cells?_some hc1
      match cs', hcl with
      | [t0, t1, v0, v1, v2, v3, v4], _ =>
        match xs, hxl with
        | [z0, z1, z2], _ =>
          have e0 : DataW.trod enc Tryz.prog W 0 sp held m' 3 (([t0, t1, v0, v1, v2, v3, v4].drop 0).take (Tryz.prog.cellsOf 3)) = some z0 := hfs 0 _ rfl
          have e1 : DataW.trod enc Tryz.prog W 0 sp held m' 3 (([t0, t1, v0, v1, v2, v3, v4].drop 1).take (Tryz.prog.cellsOf 3)) = some z1 := hfs 1 _ rfl
          have e2 : DataW.trod enc Tryz.prog W 0 sp held m' 40 (([t0, t1, v0, v1, v2, v3, v4].drop 2).take (Tryz.prog.cellsOf 40)) = some z2 := hfs 2 _ rfl
          rw [cellsInt] at e0 e1
          rw [cellsCell] at e2
          have k0 : DataW.trod enc Tryz.prog W 0 sp held m' 3 [t0] = some z0 := e0
          have k1 : DataW.trod enc Tryz.prog W 0 sp held m' 3 [t1] = some z1 := e1
          have k2 : DataW.trod enc Tryz.prog W 0 sp held m' 40 [v0, v1, v2, v3, v4] = some (z2.1, z2.2) := e2
          clear e0 e1 e2
          have hde : elems[i].1 = .agg [z0.1, z1.1, z2.1] := by rw [hxe]; rfl
          rw [hde] at hwe
          have hwe1 : ∀ n ∈ z2.1.weights Tryz.prog 40, n ≤ reachBytes := by
            intro n hn
            apply hwe n
            simp only [DataW.weights, Tryz.underlying42]
            exact DataW.weights_mem_each (j := 2) (ts := [3, 3, 40]) (ds := [z0.1, z1.1, z2.1]) rfl rfl n hn
          obtain ⟨ys, m2, hm2, hye, hl2, hyl, hgs⟩ := DataW.trod_struct Tryz.underlying40 k2
          match ys, hyl with
          | [y0, y1, y2, y3, y4], _ =>
            have h0 : DataW.trod enc Tryz.prog W 0 sp held m2 38 (([v0, v1, v2, v3, v4].drop 0).take (Tryz.prog.cellsOf 38)) = some y0 := hgs 0 _ rfl
            have h1 : DataW.trod enc Tryz.prog W 0 sp held m2 3 (([v0, v1, v2, v3, v4].drop 1).take (Tryz.prog.cellsOf 3)) = some y1 := hgs 1 _ rfl
            have h2 : DataW.trod enc Tryz.prog W 0 sp held m2 38 (([v0, v1, v2, v3, v4].drop 2).take (Tryz.prog.cellsOf 38)) = some y2 := hgs 2 _ rfl
            have h3 : DataW.trod enc Tryz.prog W 0 sp held m2 3 (([v0, v1, v2, v3, v4].drop 3).take (Tryz.prog.cellsOf 3)) = some y3 := hgs 3 _ rfl
            have h4 : DataW.trod enc Tryz.prog W 0 sp held m2 3 (([v0, v1, v2, v3, v4].drop 4).take (Tryz.prog.cellsOf 3)) = some y4 := hgs 4 _ rfl
            rw [cellsSl] at h0 h2
            rw [cellsInt] at h1 h3 h4
            have f0 : DataW.trod enc Tryz.prog W 0 sp held m2 38 [v0] = some (y0.1, y0.2) := h0
            have f1 : DataW.trod enc Tryz.prog W 0 sp held m2 3 [v1] = some y1 := h1
            have f2 : DataW.trod enc Tryz.prog W 0 sp held m2 38 [v2] = some (y2.1, y2.2) := h2
            have f3 : DataW.trod enc Tryz.prog W 0 sp held m2 3 [v3] = some y3 := h3
            have f4 : DataW.trod enc Tryz.prog W 0 sp held m2 3 [v4] = some y4 := h4
            clear h0 h1 h2 h3 h4
            have hde2 : z2.1 = .agg [y0.1, y1.1, y2.1, y3.1, y4.1] := congrArg Prod.fst hye
            rw [hde2] at hwe1
            have hwe2 : ∀ n ∈ DataW.weightsEach Tryz.prog [38, 3, 38, 3, 3] [y0.1, y1.1, y2.1, y3.1, y4.1], n ≤ reachBytes := by
              intro n hn
              apply hwe1 n
              simp only [DataW.weights, Tryz.underlying40]
              exact hn
            obtain ⟨ka, kn, kc, kl', g0, hk, _⟩ := open_cells f0 (fun el spr e => hwe2 _ (DataW.weights_mem_each (j := 0) rfl rfl _ (by rw [e]; simp [DataW.weights, Tryz.underlying38])))
            obtain ⟨va, vn, vc, vl', g2, hv, _⟩ := open_cells f2 (fun el spr e => hwe2 _ (DataW.weights_mem_each (j := 2) rfl rfl _ (by rw [e]; simp [DataW.weights, Tryz.underlying38])))
            obtain ⟨n1, g1, _, w1⟩ := DataW.trod_int Tryz.underlying3 f1
            obtain ⟨n3, g3, _, w3⟩ := DataW.trod_int Tryz.underlying3 f3
            obtain ⟨n4, g4, _, w4⟩ := DataW.trod_int Tryz.underlying3 f4
            obtain ⟨n5, g5, _, w5⟩ := DataW.trod_int Tryz.underlying3 k0
            obtain ⟨n6, g6, _, w6⟩ := DataW.trod_int Tryz.underlying3 k1
            cases g0
            cases g1
            cases g2
            cases g3
            cases g4
            cases g5
            cases g6
            have hkl := hk.hlen
            have hvl := hv.hlen
            subst hkl hvl
            refine ⟨⟨n5, n6, ⟨kl', n1, vl', n3, n4⟩⟩, ka, kc, va, vc, ?_, ?_, ?_, ?_, ?_, ?_, ?_, hk, hv⟩
            · simpa [Addr.add_add] using hcc 0 (by omega)
            · simpa [Addr.add_add] using hcc 1 (by omega)
            · simpa [Addr.add_add] using hcc 2 (by omega)
            · simpa [Addr.add_add] using hcc 3 (by omega)
            · simpa [Addr.add_add] using hcc 4 (by omega)
            · simpa [Addr.add_add] using hcc 5 (by omega)
            · simpa [Addr.add_add] using hcc 6 (by omega)
    have hls : ∀ n, n ≤ len → ∃ os : List Op6, os.length = n ∧ ∀ i o, os[i]? = some o → ∃ (ka : Option Addr) (kc : Nat) (va : Option Addr) (vc : Nat), W.cell? (x.add (i * 7)) = some (.int .i64 o.q) ∧ W.cell? (x.add (i * 7 + 1)) = some (.int .i64 o.x) ∧ W.cell? (x.add (i * 7 + 2)) = some (.slice ka o.c.key.length kc) ∧ W.cell? (x.add (i * 7 + 3)) = some (.int .i64 o.c.kd) ∧ W.cell? (x.add (i * 7 + 4)) = some (.slice va o.c.val.length vc) ∧ W.cell? (x.add (i * 7 + 5)) = some (.int .i64 o.c.pg) ∧ W.cell? (x.add (i * 7 + 6)) = some (.int .i64 o.c.ct) ∧
        Sl W ka o.c.key.length kc o.c.key ∧ Sl W va o.c.val.length vc o.c.val := by
      intro n
      induction n with
      | zero => intro _; exact ⟨[], rfl, fun i c hc => by simp at hc⟩
      | succ n ih =>
        intro hn
        obtain ⟨cs, h1, h2⟩ := ih (by omega)
        obtain ⟨c, hc⟩ := each n (by omega)
        refine ⟨cs ++ [c], by simp [h1], fun i d hd => ?_⟩
        by_cases hin : i < n
        · rw [List.getElem?_append_left (by omega)] at hd
          exact h2 i d hd
        · have hi : i < (cs ++ [c]).length := (List.getElem?_eq_some_iff.1 hd).1
          simp only [List.length_append, List.length_cons, List.length_nil] at hi
          obtain rfl : i = n := by omega
          rw [List.getElem?_append_right (by omega), h1] at hd
          simp at hd
          subst hd
          exact hc
    obtain ⟨os, hl1, hl2⟩ := hls len (Nat.le_refl _)
    refine ⟨some x, len, cap, os, rfl, ⟨hl1, hl, ?_⟩, ?_⟩
    · by_cases h0 : len = 0
      · exact .inl h0
      · obtain ⟨b, off, spot⟩ := x
        obtain ⟨c, hc⟩ : ∃ c, os[0]? = some c := ⟨_, List.getElem?_eq_getElem (by omega)⟩
        obtain ⟨ka, kc, va, vc, h3, _⟩ := hl2 0 c hc
        have hspot : spot = none := by simpa [Addr.add] using World.cell?_spot h3
        subst hspot
        have hbl := World.block_lt_of_cell? W _ h3
        refine .inr ⟨b, off, rfl, by simpa [Addr.add] using hbl, fun i c hc => ?_⟩
        obtain ⟨ka, kc, va, vc, e0, e1, e2, e3, e4, e5, e6, e7, e8⟩ := hl2 i c hc
        simp only [Addr.add_lit] at e0 e1 e2 e3 e4 e5 e6
        exact ⟨ka, kc, va, vc, e0, by rw [← e1]; simp [Nat.add_assoc], by rw [← e2]; simp [Nat.add_assoc], by rw [← e3]; simp [Nat.add_assoc], by rw [← e4]; simp [Nat.add_assoc], by rw [← e5]; simp [Nat.add_assoc], by rw [← e6]; simp [Nat.add_assoc], e7, e8⟩
    · have h1 := bulk_all6 1 (elems.map (·.1)) (fun y _ => bulk_pos6 y)
      rw [List.length_map] at h1
      simp only [Rows.uptoBulk]
      have : elems.length = len := by omega
      omega
end Go.Proofs.YtphjnahmbdinmaaGreatDoor
