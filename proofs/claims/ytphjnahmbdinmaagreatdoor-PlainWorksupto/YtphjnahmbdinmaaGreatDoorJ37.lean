/- Layer 6: the document's Remove, Len, Used. -/
import Derived.Test.YtphjnahmbdinmaaGreatDoorJ36
import Derived.Test.YtphjnahmbdinmaaGreatDoorJ32
import Derived.Test.YtphjnahmbdinmaaGreatDoorJ34
namespace Go.Proofs.YtphjnahmbdinmaaGreatDoor
open Go.RowKit

set_option maxRecDepth 100000 in
set_option maxHeartbeats 4000000 in
theorem rremove_any (w : World) (B : Nat) (K : Nat → Prop) (r : Nat) (k : Int) (n : Nat) (vl : Value) (cs : List Cl) (x : Int) (hp : Dp w B K r k n vl cs) (hl : cs.length ≤ 100000) (hB : B ≤ w.heap.size) :
    Calls Tryz.prog 26 #[.pointer (some ⟨r, 0, none⟩), .int .i64 x] w (DpTo w B K r k n vl cs (cs.take x.toNat ++ cs.drop (x.toNat + 1)) (remE cs x)) := by
  have HP := hidden hp
  obtain ⟨sn, hsn⟩ : ∃ sn, cs.length = sn := ⟨_, rfl⟩
  have HSN := hidden hsn
  unfold remE
  rw [hsn]
  have hsb : (sn : Int) ≤ 100000 := by omega
  by_cases hx : 0 ≤ x ∧ x < (sn : Int)
  · rw [if_pos hx]
    obtain ⟨i, rfl⟩ : ∃ i : Nat, x = (i : Int) := ⟨x.toNat, by omega⟩
    rw [Int.toNat_natCast]
    obtain ⟨j, hj⟩ : ∃ j, i + 1 = j := ⟨_, rfl⟩
    rw [hj]
    obtain ⟨g, sc, rfl, hsc, _, _⟩ : ∃ g c, vl = .slice (some ⟨g, 0, none⟩) sn c ∧ sn ≤ c ∧ B ≤ g ∧ g < w.heap.size := by
      rcases hp.own.shape with ⟨_, h⟩ | ⟨g, c, h⟩
      · rw [h] at hsn; simp at hsn; omega
      · rw [hsn] at h; exact ⟨g, c, h⟩
    have hS1 : SrcC w B K (some ⟨g, 0, none⟩) i sc (cs.take i) := by
      have := hp.cells.src 0 i (by omega) (by omega) sc
      simpa using this
    obtain ⟨off, c2, hS2, hoff⟩ : ∃ off c2, SrcC w B K (some ⟨g, off, none⟩) (sn - j) c2 (cs.drop j) ∧ ((sc = j ∧ off = 0 ∧ c2 = 0) ∨ (¬ sc = j ∧ off = j * 5 ∧ c2 = sc - j)) := by
      by_cases hcj : sc = j
      · refine ⟨0, 0, ⟨by simp; omega, .inr ⟨g, 0, [], rfl, ⟨?_, fun u hu => (by simp at hu)⟩, by simp⟩⟩, .inl ⟨hcj, rfl, rfl⟩⟩
        rw [List.drop_of_length_le (by omega)]
        rfl
      · refine ⟨j * 5, sc - j, ?_, .inr ⟨hcj, rfl, rfl⟩⟩
        have := hp.cells.src j cs.length (by omega) (Nat.le_refl _) (sc - j)
        rw [List.take_length, hsn] at this
        exact this
    obtain ⟨v1, u1, hr1, ho1, hg1⟩ := run_app_cs w 32 w.heap.size B K [] (cs.take i) (.slice none 0 0) (some ⟨g, 0, none⟩) i sc (OwnR.nil _ _ _ _) hS1 (by simp; omega) (Nat.le_refl _)
    have hb1 : Below w.heap.size w u1 := (OwnR.nil w w.heap.size B K).below hg1 (Nat.le_refl _)
    rw [List.nil_append] at ho1
    obtain ⟨v3, u3, hr3, ho3, hg3⟩ := run_app_cs u1 32 w.heap.size B K (cs.take i) (cs.drop j) v1 (some ⟨g, off, none⟩) (sn - j) c2 ho1 (hS2.on hb1) (by simp; omega) hb1.size
    have hb3 : Below w.heap.size u1 u3 := ho1.below hg3 hb1.size
    have hbw : Below w.heap.size w u3 := hb1.trans hb3
    have hdr := hp.row.on hbw
    obtain ⟨so3, sn3, sc3, rfl⟩ : ∃ a b c, v3 = .slice a b c := by
      rcases (ho3.own hB).shape with ⟨h, _⟩ | ⟨g', c', h, _⟩
      · exact ⟨_, _, _, h⟩
      · exact ⟨_, _, _, h⟩
    have HFIN : Hid (DpTo w B K r k n (.slice (some ⟨g, 0, none⟩) sn sc) cs (cs.take i ++ cs.drop j) 0 (.returned (.int .i64 0)) (u3.setCell ⟨r, 2, none⟩ (.slice so3 sn3 sc3))) := by
      have hc := Cf.set u3 r 2 (.slice so3 sn3 sc3)
      exact hidden ⟨rfl, hidden ⟨_, by rw [if_pos rfl]; exact ⟨hdr.set2 _, (ho3.lowC hB).cf hdr hc⟩, .inr (fun z hz => by obtain ⟨us, h1, _⟩ := ho3; exact (World.ownsRow.lt h1 z hz).1)⟩, hidden ((Cf.of_below hbw).go hc)⟩
    obtain ⟨p0, p1, p2⟩ := hp.row.cells
    obtain ⟨q0, q1, q2⟩ := (hp.row.on hb1).cells
    obtain ⟨r0, r1, r2⟩ := hdr.cells
    have f2 := hdr.free 2
    have hi1 : (i : Int) + 1 = (j : Int) := by omega
    have hwr : IntKind.i64.wrap (j : Int) = (j : Int) := wrap64n _ (by omega)
    have hisc : (i : Int) ≤ (sc : Int) := by omega
    have hi0 : (0 : Int) ≤ (i : Int) := by omega
    have hjb : (j : Int) ≤ (sn : Int) := by omega
    have hsbc : (sn : Int) ≤ (sc : Int) := by omega
    have hxb : decide ((i : Int) < 0) = false := by simp
    have hxc : decide ((sn : Int) ≤ (i : Int)) = false := by simp; omega
    generalize cs.take i ++ cs.drop j = nw at *
    have HJ := hidden hj
    clear hj hp hS1 hS2 ho1 hg1 ho3 hg3 hb1 hb3 hbw hdr hsn
    rcases hoff with ⟨hcj, rfl, rfl⟩ | ⟨hcj, rfl, rfl⟩
    all_goals
      go_enter Tryz.func26, Tryz.ntmps26
      go_wp2_with (at_builtin; refine append_wp rfl _ _ _ _ rfl _ _ rfl rfl hr1 ?_; refine Hid.out ?_)
      apply hidden
      clear hr1
      go_wp2_with (at_builtin; refine append_wp rfl _ _ _ _ rfl _ _ rfl rfl hr3 ?_; refine Hid.out ?_)
      apply hidden
      clear hr3
      go_wp2
      go_ret
      exact HFIN.out
  · rw [if_neg hx]
    obtain ⟨so, sc, rfl⟩ : ∃ so sc, vl = .slice so sn sc := by
      rcases hp.own.shape with ⟨rfl, rfl⟩ | ⟨g, c, rfl, _⟩
      · exact ⟨none, 0, by rw [← hsn]; rfl⟩
      · exact ⟨_, c, by rw [hsn]⟩
    obtain ⟨p0, p1, p2⟩ := hp.row.cells
    have HFIN : Hid (DpTo w B K r k n (.slice so sn sc) cs (cs.take x.toNat ++ cs.drop (x.toNat + 1)) 64 (.returned (.int .i64 64)) w) := hidden (DpTo.same hp (Below.refl _ _) (by decide))
    generalize cs.take x.toNat ++ cs.drop (x.toNat + 1) = nw at *
    clear hp hsn
    by_cases hx0 : x < 0
    · have hxb : decide (x < 0) = true := by simpa using hx0
      go_enter Tryz.func26, Tryz.ntmps26
      go_wp2_with fail
      go_ret
      exact HFIN.out
    · have hxb : decide (x < 0) = false := by simpa using hx0
      have hx1 : (sn : Int) ≤ x := by omega
      have hx2 : decide ((sn : Int) ≤ x) = true := by simpa using hx1
      clear hx
      go_enter Tryz.func26, Tryz.ntmps26
      go_wp2_with fail
      go_ret
      exact HFIN.out
set_option maxRecDepth 100000 in
theorem rlen_any (w : World) (B : Nat) (K : Nat → Prop) (r : Nat) (k : Int) (n : Nat) (vl : Value) (cs : List Cl) (hp : Dp w B K r k n vl cs) :
    Calls Tryz.prog 9 #[.pointer (some ⟨r, 0, none⟩)] w fun e w' => e = .returned (.int .i64 (cs.length : Int)) ∧ w' = w := by
  obtain ⟨so, sc, rfl⟩ : ∃ so sc, vl = .slice so cs.length sc := by
    rcases hp.own.shape with ⟨rfl, rfl⟩ | ⟨g, c, rfl, _⟩
    · exact ⟨none, 0, rfl⟩
    · exact ⟨_, c, rfl⟩
  obtain ⟨p0, p1, p2⟩ := hp.row.cells
  clear hp
  go_enter Tryz.func9, Tryz.ntmps9
  go_wp2_with fail
  go_ret
  exact ⟨rfl, rfl⟩
end Go.Proofs.YtphjnahmbdinmaaGreatDoor

/- Layer 6: the document's New, Used and Cell. -/

namespace Go.Proofs.YtphjnahmbdinmaaGreatDoor
open Go.RowKit

set_option maxRecDepth 100000 in
theorem Dp.slc {w : World} {B : Nat} {K : Nat → Prop} {r : Nat} {k : Int} {n : Nat} {vl : Value} {cs : List Cl} (h : Dp w B K r k n vl cs) (hw : ∀ c ∈ cs, c.Wf ∧ c.key.length ≤ 140737488355328 ∧ c.val.length ≤ 140737488355328) (hl : cs.length ≤ 100000) : ∃ ao cap, vl = .slice ao cs.length cap ∧ SlC w ao cs.length cap cs := h.own.slc hw (by omega)
set_option maxRecDepth 100000 in
set_option maxHeartbeats 4000000 in
theorem rused_any (w : World) (B : Nat) (K : Nat → Prop) (r : Nat) (k : Int) (n : Nat) (vl : Value) (cs : List Cl) (hp : Dp w B K r k n vl cs) (hw : ∀ c ∈ cs, c.Wf ∧ c.key.length ≤ 140737488355328 ∧ c.val.length ≤ 140737488355328) (hl : cs.length ≤ 100000) (hz : szN cs ≤ 65536) :
    Calls Tryz.prog 11 #[.pointer (some ⟨r, 0, none⟩)] w fun e w' => e = .returned (.int .i64 (szN cs : Int)) ∧ Hid (Below w.heap.size w w') := by
  obtain ⟨so, sc, rfl, hs⟩ := hp.slc hw hl
  obtain ⟨p0, p1, p2⟩ := hp.row.cells
  have HZ : Hid (∀ u, Below w.heap.size w u → Calls Tryz.prog 35 #[.int .i64 k, .slice so cs.length sc] u fun e u' => e = .returned (.int .i64 (szN cs : Int)) ∧ Hid (Below w.heap.size w u')) := by
    refine hidden fun u hu => (rsize6_any k so cs.length sc cs u (hs.on hu) (by omega)).mono ?_
    rintro e u' ⟨rfl, h⟩
    exact ⟨rfl, hidden (bl_go hu (Nat.le_refl _) h.out)⟩
  generalize szN cs = Z at *
  generalize cs.length = L at *
  clear hp hs hw
  go_enter Tryz.func11, Tryz.ntmps11
  go_wp2_with fail
  go_region_law (first
    | (go_simp; go_at_call 35; refine (HZ.out _ (by first | exact Below.refl _ _ | exact (Below.refl _ _).drew | exact bl_dr (Below.refl _ _) _)).mono ?_; rintro e u1 ⟨rfl, HU1⟩))
  all_goals (try go_wp2_with fail)
  all_goals go_ret
  all_goals exact ⟨rfl, HU1⟩
/-- What the document's New comes to. -/
def RNewTo (k n : Int) (w : World) (e : Ending) (w' : World) : Prop :=
  (¬ (pw n ∧ isKd k) ∧ e = .returned (.tuple #[.pointer none, .int .i64 1]) ∧ w' = w) ∨ (pw n ∧ isKd k ∧ e = .returned (.tuple #[.pointer (some ⟨w.heap.size, 0, none⟩), .int .i64 0]) ∧ Hid (Dp w' w.heap.size (fun _ => False) w.heap.size k n.toNat (.slice none 0 0) []) ∧ Hid (Below w.heap.size w w'))
set_option maxRecDepth 100000 in
theorem rnew_any (k n : Int) (w : World) : Calls Tryz.prog 6 #[.int .i64 k, .int .i64 n] w (RNewTo k n w) := by
  have HSZ := hidden (rIsPage6_any n w)
  have HIK := hidden (rIsKind6_any k w)
  cases h2 : decide (pw n) with
  | false =>
    have HN : Hid (¬ (pw n ∧ isKd k)) := hidden (fun h => by simp [h.1] at h2)
    rw [h2] at HSZ
    clear h2
    go_enter Tryz.func6, Tryz.ntmps6
    go_wp2_with (first | (go_at_call 22; refine same_call HSZ.out ?_))
    go_ret2
    exact .inl ⟨HN.out, rfl, rfl⟩
  | true =>
    have hn : pw n := by simpa using h2
    rw [h2] at HSZ
    cases h3 : decide (isKd k) with
    | false =>
      have HN : Hid (¬ (pw n ∧ isKd k)) := hidden (fun h => by simp [h.2] at h3)
      rw [h3] at HIK
      clear h2 h3 hn
      go_enter Tryz.func6, Tryz.ntmps6
      go_wp2_with (first
        | (go_at_call 22; refine same_call HSZ.out ?_)
        | (go_at_call 23; refine same_call HIK.out ?_))
      go_ret2
      exact .inl ⟨HN.out, rfl, rfl⟩
    | true =>
      have hkd : isKd k := by simpa using h3
      rw [h3] at HIK
      have HK2 := hidden hkd
      have HN2 := hidden hn
      have hpn := pw_le hn
      have HNN : Hid (n = ((n.toNat : Nat) : Int)) := hidden (by omega)
      clear h2 h3 hn hkd
      go_enter Tryz.func6, Tryz.ntmps6
      go_wp2_with (first
        | (go_at_call 22; refine same_call HSZ.out ?_)
        | (go_at_call 23; refine same_call HIK.out ?_))
      go_ret2
      refine .inr ⟨HN2.out, HK2.out, rfl, hidden ⟨?_, OwnR.nil _ _ _ _⟩, hidden (bl_al (Below.refl _ _) (Nat.le_refl _) _)⟩
      unfold DR
      rw [← HNN.out]
      exact heap_alloc_last w _
end Go.Proofs.YtphjnahmbdinmaaGreatDoor

/- Layer 6: the document's Cell. -/

namespace Go.Proofs.YtphjnahmbdinmaaGreatDoor
open Go.RowKit

/-- The cell that is handed out. -/
def cellE (cs : List Cl) (x : Int) : Cl := if 0 ≤ x ∧ x < (cs.length : Int) then (cs[x.toNat]?).getD ⟨[], 0, [], 0, 0⟩ else ⟨[], 0, [], 0, 0⟩
/-- What Cell comes to, the cell in memory of its own. -/
def CelTo (c : Cl) (E : Int) (w : World) (e : Ending) (w' : World) : Prop :=
  ∃ ao a2 bo b2, e = .returned (.tuple #[.agg #[.slice ao c.key.length a2, .int .i64 c.kd, .slice bo c.val.length b2, .int .i64 c.pg, .int .i64 c.ct], .int .i64 E]) ∧ Hid (OwnB w' w.heap.size (.slice ao c.key.length a2) c.key ∧ OwnB w' w.heap.size (.slice bo c.val.length b2) c.val) ∧ Hid (Below w.heap.size w w')
set_option maxRecDepth 100000 in
set_option maxHeartbeats 4000000 in
theorem rcell_any (w : World) (B : Nat) (K : Nat → Prop) (r : Nat) (k : Int) (n : Nat) (vl : Value) (cs : List Cl) (x : Int) (hp : Dp w B K r k n vl cs) (hw : ∀ c ∈ cs, c.Wf ∧ c.key.length ≤ 140737488355328 ∧ c.val.length ≤ 140737488355328) (hl : cs.length ≤ 100000) :
    Calls Tryz.prog 28 #[.pointer (some ⟨r, 0, none⟩), .int .i64 x] w (CelTo (cellE cs x) (remE cs x) w) := by
  obtain ⟨s, hs⟩ : ∃ s, w.heap.size = s := ⟨_, rfl⟩
  obtain ⟨y, hy⟩ : ∃ y, w.alloc (.cells #[.slice none 0 0, .int .i64 0, .slice none 0 0, .int .i64 0, .int .i64 0] 40) = y := ⟨_, rfl⟩
  have hby : Below w.heap.size w y := by rw [← hy]; exact bl_al (Below.refl _ _) (Nat.le_refl _) _
  have HRES : Hid (C5 y s (.slice none 0 0) (.int .i64 0) (.slice none 0 0) (.int .i64 0) (.int .i64 0)) := by rw [← hy, ← hs]; exact hidden (C5.box _ _ _ _ _ _)
  have HBY := hidden hby
  have hpy := hp.on hby
  obtain ⟨so, sc, rfl, hsl⟩ := hpy.slc hw hl
  obtain ⟨p0, p1, p2⟩ := hpy.row.cells
  obtain ⟨sn, hsn⟩ : ∃ sn, cs.length = sn := ⟨_, rfl⟩
  have hsb : (sn : Int) ≤ 100000 := by omega
  have hys : s + 1 ≤ y.heap.size := by rw [← hy, ← hs]; simp
  unfold remE cellE
  rw [hsn] at p2 hsl ⊢
  by_cases hx : 0 ≤ x ∧ x < (sn : Int)
  · rw [if_pos hx, if_pos hx]
    obtain ⟨i, rfl⟩ : ∃ i : Nat, x = (i : Int) := ⟨x.toNat, by omega⟩
    rw [Int.toNat_natCast]
    obtain ⟨b, off, c, ka, kc, va, vc, rfl, hb, hci, c0, c1, c2, c3, c4, hk, hv⟩ := hsl.item i (by omega)
    rw [hci, Option.getD_some]
    have HC := hidden (rcopied_any c.key c.val c.kd c.pg c.ct ka va c.key.length c.val.length kc vc y hk hv)
    obtain ⟨key, kd, val, pg, ct⟩ := c
    simp only at c0 c1 c2 c3 c4 HC ⊢
    have hxb : decide ((i : Int) < 0) = false := by simp
    have hxc : decide ((sn : Int) ≤ (i : Int)) = false := by simp; omega
    have hiI : (i : Int) < (sn : Int) := hx.2
    have hiN : i < sn := by omega
    have hi0 : (0 : Int) ≤ (i : Int) := by omega
    have HYS := hidden hys
    clear hp hpy hsl hk hv hci hw hby hl hsn hys hx hb
    go_enter Tryz.func28, Tryz.ntmps28
    go_wp2_with (first | (go_at_call 58; refine HC.out.mono ?_; rintro e u1 ⟨ao, a2, bo, b2, rfl, HO, HU⟩; refine Hid.out ?_))
    apply hidden
    have hres1 : C5 u1 s (.slice none 0 0) (.int .i64 0) (.slice none 0 0) (.int .i64 0) (.int .i64 0) := box_on HRES.out HU.out
    have HR2 := hidden hres1
    obtain ⟨b0, b1, b2', b3, b4⟩ := hres1.cells
    obtain ⟨h0, h1, h2, h3, h4⟩ := hres1.free
    clear hres1 HC c0 c1 c2 c3 c4 p0 p1 p2
    go_wp2
    refine bodyPost_ret (results_row26 rfl _ _ s 40 #[.slice ao key.length a2, .int .i64 kd, .slice bo val.length b2, .int .i64 pg, .int .i64 ct] (0, 0) _ (.int .i64 0) (by rfl) (by rfl) (HR2.out.put _ _ _ _ _) Tryz.underlying40 rfl sizeCell) rfl ?_
    have hf := put5_cf u1 s (.slice ao key.length a2) (.int .i64 kd) (.slice bo val.length b2) (.int .i64 pg) (.int .i64 ct)
    have hys := HYS.out
    have hbu := bl_go HBY.out (Nat.le_refl _) HU.out
    refine ⟨ao, a2, bo, b2, rfl, hidden ⟨?_, ?_⟩, hidden (hbu.trans (hf.below hbu.size (by intro i hi e; omega)))⟩
    · exact (HO.out.1.cfX hf (fun k hk e => by have := HO.out.1.geE hk; omega)).lowE (by omega)
    · exact (HO.out.2.cfX hf (fun k hk e => by have := HO.out.2.geE hk; omega)).lowE (by omega)
  · rw [if_neg hx, if_neg hx]
    obtain ⟨b0, b1, b2', b3, b4⟩ := HRES.out.cells
    obtain ⟨h0, h1, h2, h3, h4⟩ := HRES.out.free
    have hf := put5_cf y s (.slice none 0 0) (.int .i64 0) (.slice none 0 0) (.int .i64 0) (.int .i64 0)
    have HF := hidden hf
    have HS := hidden hs
    clear hp hpy hsl hw hby hl hsn hys hf
    by_cases hx0 : x < 0
    · have hxb : decide (x < 0) = true := by simpa using hx0
      go_enter Tryz.func28, Tryz.ntmps28
      go_wp2_with fail
      refine bodyPost_ret (results_row26 rfl _ _ s 40 #[.slice none 0 0, .int .i64 0, .slice none 0 0, .int .i64 0, .int .i64 0] (0, 0) _ (.int .i64 64) (by rfl) (by rfl) (HRES.out.put _ _ _ _ _) Tryz.underlying40 rfl sizeCell) rfl ?_
      exact ⟨none, 0, none, 0, rfl, hidden ⟨OwnB.nil _ _, OwnB.nil _ _⟩, hidden (HBY.out.trans (HF.out.below HBY.out.size (by intro i hi e; have := HS.out; omega)))⟩
    · have hxb : decide (x < 0) = false := by simpa using hx0
      have hx1 : (sn : Int) ≤ x := by omega
      have hx2 : decide ((sn : Int) ≤ x) = true := by simpa using hx1
      clear hx
      go_enter Tryz.func28, Tryz.ntmps28
      go_wp2_with fail
      refine bodyPost_ret (results_row26 rfl _ _ s 40 #[.slice none 0 0, .int .i64 0, .slice none 0 0, .int .i64 0, .int .i64 0] (0, 0) _ (.int .i64 64) (by rfl) (by rfl) (HRES.out.put _ _ _ _ _) Tryz.underlying40 rfl sizeCell) rfl ?_
      exact ⟨none, 0, none, 0, rfl, hidden ⟨OwnB.nil _ _, OwnB.nil _ _⟩, hidden (HBY.out.trans (HF.out.below HBY.out.size (by intro i hi e; have := HS.out; omega)))⟩
end Go.Proofs.YtphjnahmbdinmaaGreatDoor

/- Layer 6: the document's AsLentCell; rows of cells that were lent. -/

namespace Go.Proofs.YtphjnahmbdinmaaGreatDoor
open Go.RowKit

set_option maxRecDepth 100000 in
theorem sets5_below {b j : Nat} : ∀ (vs : List Value) (i : Nat) (w : World), Below b w (w.setCells b i vs)
  | [], _, _ => Below.refl _ _
  | v :: r, i, w => ((Below.refl b w).setCell (p := ⟨b, i, none⟩) (Nat.le_refl _) v).trans (sets5_below (j := j) r (i + 1) _)
set_option maxRecDepth 100000 in
theorem sets5_size {b : Nat} : ∀ (vs : List Value) (i : Nat) (w : World), (w.setCells b i vs).heap.size = w.heap.size
  | [], _, _ => rfl
  | v :: r, i, w => by
    show ((w.setCell ⟨b, i, none⟩ v).setCells b (i + 1) r).heap.size = _
    rw [sets5_size r (i + 1)]
    simp
/-- Between R and L. -/
def Bt (R L k : Nat) : Prop := R ≤ k ∧ k < L
set_option maxRecDepth 100000 in
theorem sets5_cf {b : Nat} {F : Nat → Prop} (hb : F b) : ∀ (vs : List Value) (i : Nat) (w : World), Cf F w (w.setCells b i vs)
  | [], _, w => Cf.refl _ w
  | v :: r, i, w => (Cf.setCell (F := F) w (p := ⟨b, i, none⟩) hb v).go (sets5_cf hb r (i + 1) _)
set_option maxRecDepth 100000 in
theorem sl_lent {w : World} {g : Nat} {l : List Int} (h : Bk w g (l ++ mks 9)) (hw : Wf l) (hl : l.length ≤ 140737488355328) : Sl w (some ⟨g, 0, none⟩) l.length (l.length + 9) l :=
  ⟨rfl, by omega, hl, hw, (by intro h; cases h), .inr ⟨g, 0, rfl, lt_some h, fun i hi => by
    rw [Nat.zero_add, cell9 h, getD_By _ _ (by rw [List.length_append]; omega)]
    simp only [List.getD]
    rw [List.getElem?_append_left (by omega)]⟩⟩

set_option maxRecDepth 100000 in
set_option maxHeartbeats 4000000 in
theorem asLentCell_any (key val : List Int) (kd pg ct : Int) (G1 G2 : Nat) (ka va : Option Addr) (kn vn kc vc : Nat) (w : World) (h1 : Bk w G1 (key ++ mks 9)) (h2 : Bk w G2 (val ++ mks 9)) (hne : ¬ G1 = G2)
    (hk : ∀ u, Cf (fun k => k = G1 ∨ k = G2) w u → Sl u ka kn kc key) (hv : ∀ u, Cf (fun k => k = G1 ∨ k = G2) w u → Sl u va vn vc val) :
    Calls Tryz.prog 57 #[.agg #[.slice (some ⟨G1, 0, none⟩) kn (kn + 9), .int .i64 kd, .slice (some ⟨G2, 0, none⟩) vn (vn + 9), .int .i64 pg, .int .i64 ct], .agg #[.slice ka kn kc, .int .i64 kd, .slice va vn vc, .int .i64 pg, .int .i64 ct]] w fun e w' => e = .returned (.bool true) ∧ Hid (Cf (fun k => k = G1 ∨ k = G2) w w') := by
  obtain ⟨s, hs⟩ : ∃ s, w.heap.size = s := ⟨_, rfl⟩
  obtain ⟨y, hy⟩ : ∃ y, w.alloc (.cells #[.slice (some ⟨G1, 0, none⟩) kn (kn + 9), .int .i64 kd, .slice (some ⟨G2, 0, none⟩) vn (vn + 9), .int .i64 pg, .int .i64 ct] 40) = y := ⟨_, rfl⟩
  have hz : y.heap.size = s + 1 := by rw [← hy, ← hs]; simp
  obtain ⟨x, hx⟩ : ∃ x, y.alloc (.cells #[.slice ka kn kc, .int .i64 kd, .slice va vn vc, .int .i64 pg, .int .i64 ct] 40) = x := ⟨_, rfl⟩
  have hbx : Below w.heap.size w x := by rw [← hx, ← hy]; exact bl_al (bl_al (Below.refl _ _) (Nat.le_refl _) _) (Nat.le_refl _) _
  have HBA : Hid (C5 x s (.slice (some ⟨G1, 0, none⟩) kn (kn + 9)) (.int .i64 kd) (.slice (some ⟨G2, 0, none⟩) vn (vn + 9)) (.int .i64 pg) (.int .i64 ct)) := by
    have h1 := heap_alloc_last w (.cells #[.slice (some ⟨G1, 0, none⟩) kn (kn + 9), .int .i64 kd, .slice (some ⟨G2, 0, none⟩) vn (vn + 9), .int .i64 pg, .int .i64 ct] 40)
    rw [hs, hy] at h1
    rw [← hx]
    exact hidden ((Below.heap_alloc _ _ _ (by rw [hz]; exact Nat.lt_succ_self _)).trans h1)
  have HBC : Hid (C5 x (s + 1) (.slice ka kn kc) (.int .i64 kd) (.slice va vn vc) (.int .i64 pg) (.int .i64 ct)) := by
    have := heap_alloc_last y (.cells #[.slice ka kn kc, .int .i64 kd, .slice va vn vc, .int .i64 pg, .int .i64 ct] 40)
    rw [hz, hx] at this
    exact hidden this
  have hl1 : G1 < s := by rw [← hs]; exact lt_some h1
  have hl2 : G2 < s := by rw [← hs]; exact lt_some h2
  have HCX : Hid (Cf (fun k => k = G1 ∨ k = G2) w x) := hidden (Cf.of_below hbx)
  have HK2 : Hid (Bk x G2 (val ++ mks 9)) := hidden (h2.on hbx)
  have HA1 := hidden (AsLent_any G1 kn ka kc key x (h1.on hbx) (hk x HCX.out))
  have HV := hidden hv
  have ekd : (kd == kd) = true := by simp
  have epg : (pg == pg) = true := by simp
  have ect : (ct == ct) = true := by simp
  have hxw : (w.alloc (.cells #[.slice (some ⟨G1, 0, none⟩) kn (kn + 9), .int .i64 kd, .slice (some ⟨G2, 0, none⟩) vn (vn + 9), .int .i64 pg, .int .i64 ct] 40)).alloc (.cells #[.slice ka kn kc, .int .i64 kd, .slice va vn vc, .int .i64 pg, .int .i64 ct] 40) = x := by rw [hy, hx]
  obtain ⟨a0, a1, a2, a3, a4⟩ := HBA.out.cells
  obtain ⟨b0, b1, b2, b3, b4⟩ := HBC.out.cells
  clear h1 h2 hk hv hbx hy hx hz
  go_enter Tryz.func57, Tryz.ntmps57
  go_wp2_with (first | (go_at_call 31; refine HA1.out.mono ?_; rintro e u1 ⟨rfl, hc1⟩; refine Hid.out ?_))
  apply hidden
  have HC1 : Hid (Cf (fun k => k = G1 ∨ k = G2) w u1) := hidden (HCX.out.go (hc1.wide (fun k h => .inl h)))
  have HBA1 := hidden (HBA.out.cf hc1 (by omega))
  have HBC1 := hidden (HBC.out.cf hc1 (by omega))
  have HA2 := hidden (AsLent_any G2 vn va vc val u1 (HK2.out.cf hc1 (fun e => hne e.symm)) (HV.out u1 HC1.out))
  clear a0 a1 a2 a3 a4 b0 b1 b2 b3 b4 hc1 HA1 HCX HK2 HBA HBC
  obtain ⟨a0, a1, a2, a3, a4⟩ := HBA1.out.cells
  obtain ⟨b0, b1, b2, b3, b4⟩ := HBC1.out.cells
  go_wp2_with (first | (go_at_call 31; refine HA2.out.mono ?_; rintro e u2 ⟨rfl, hc2⟩; refine Hid.out ?_))
  apply hidden
  have HC2 : Hid (Cf (fun k => k = G1 ∨ k = G2) w u2) := hidden (HC1.out.go (hc2.wide (fun k h => .inr h)))
  clear a0 a1 a2 a3 a4 b0 b1 b2 b3 b4 hc2 HA2 HC1
  go_wp2
  go_ret
  exact ⟨rfl, HC2⟩
end Go.Proofs.YtphjnahmbdinmaaGreatDoor

/- Layer 6: the document's Lent: a row of cells as their owner hands them in. -/

namespace Go.Proofs.YtphjnahmbdinmaaGreatDoor
open Go.RowKit

/-- The items from lo up to k stand as they were lent: item i's key in block g (2 i), its value in block g (2 i + 1). -/
structure Ln6 (w : World) (R : Nat) (cs : List Cl) (g : Nat → Nat) (lo k : Nat) : Prop where
  at_ : ∀ (i : Nat) (c : Cl), lo ≤ i → i < k → cs[i]? = some c →
    w.cell? ⟨R, i * 5, none⟩ = some (.slice (some ⟨g (2 * i), 0, none⟩) c.key.length (c.key.length + 9)) ∧ w.cell? ⟨R, i * 5 + 1, none⟩ = some (.int .i64 c.kd) ∧ w.cell? ⟨R, i * 5 + 2, none⟩ = some (.slice (some ⟨g (2 * i + 1), 0, none⟩) c.val.length (c.val.length + 9)) ∧ w.cell? ⟨R, i * 5 + 3, none⟩ = some (.int .i64 c.pg) ∧ w.cell? ⟨R, i * 5 + 4, none⟩ = some (.int .i64 c.ct) ∧
    Bk w (g (2 * i)) (c.key ++ mks 9) ∧ Bk w (g (2 * i + 1)) (c.val ++ mks 9)
  mono : ∀ a b, a < b → b < 2 * k → g a < g b
  gt : ∀ a, a < 2 * k → R < g a
  lt : ∀ a, a < 2 * k → g a < w.heap.size
set_option maxRecDepth 100000 in
theorem Ln6.keep {w w' : World} {R lo lo' k : Nat} {cs : List Cl} {g : Nat → Nat} (h : Ln6 w R cs g lo k) (hl : lo ≤ lo') (hz : w.heap.size ≤ w'.heap.size) (h1 : ∀ j, 5 * lo' ≤ j → j < 5 * k → w'.cell? ⟨R, j, none⟩ = w.cell? ⟨R, j, none⟩) (h2 : ∀ a, 2 * lo' ≤ a → a < 2 * k → w'.heap[g a]? = w.heap[g a]?) : Ln6 w' R cs g lo' k := by
  refine ⟨fun i c hi hk hc => ?_, h.mono, h.gt, fun a ha => Nat.lt_of_lt_of_le (h.lt a ha) hz⟩
  obtain ⟨a0, a1, a2, a3, a4, a5, a6⟩ := h.at_ i c (by omega) hk hc
  exact ⟨(h1 _ (by omega) (by omega)).trans a0, (h1 _ (by omega) (by omega)).trans a1, (h1 _ (by omega) (by omega)).trans a2, (h1 _ (by omega) (by omega)).trans a3, (h1 _ (by omega) (by omega)).trans a4, (h2 _ (by omega) (by omega)).trans a5, (h2 _ (by omega) (by omega)).trans a6⟩
set_option maxRecDepth 100000 in
/-- One more. -/
theorem Ln6.step {wr w5 w6 : World} {R k n G1 G2 : Nat} {cs : List Cl} {c : Cl} {g : Nat → Nat} (h : Ln6 wr R cs g 0 k) (hr : RowC w5 R (n + 3)) (hk : k < n) (hc : cs[k]? = some c) (hR : R < wr.heap.size)
    (e5 : ∀ b, b < wr.heap.size → w5.heap[b]? = wr.heap[b]?) (h1 : wr.heap.size < G1) (h2 : G1 < G2)
    (o1 : Bk w5 G1 (c.key ++ mks 9)) (o2 : Bk w5 G2 (c.val ++ mks 9))
    (e6 : w6 = w5.setCells R (k * 5) [.slice (some ⟨G1, 0, none⟩) c.key.length (c.key.length + 9), .int .i64 c.kd, .slice (some ⟨G2, 0, none⟩) c.val.length (c.val.length + 9), .int .i64 c.pg, .int .i64 c.ct]) :
    Ln6 w6 R cs (fun a => if a < 2 * k then g a else if a = 2 * k then G1 else G2) 0 (k + 1) := by
  have l1 : G1 < w5.heap.size := lt_some o1
  have l2 : G2 < w5.heap.size := lt_some o2
  have hsz : w6.heap.size = w5.heap.size := by rw [e6, sets5_size]
  have hob : ∀ b, b < w5.heap.size → b ≠ R → w6.heap[b]? = w5.heap[b]? := fun b hb hne => by rw [e6]; exact World.heap_setCells_other _ _ _ _ hb hne
  refine ⟨fun i d _ hi hd => ?_, fun a b hab hb => ?_, fun a ha => ?_, fun a ha => ?_⟩
  · by_cases hik : i < k
    · obtain ⟨a0, a1, a2, a3, a4, a5, a6⟩ := h.at_ i d (by omega) hik hd
      have hcl : ∀ j, j < 5 * k → w6.cell? ⟨R, j, none⟩ = wr.cell? ⟨R, j, none⟩ := fun j hj => by
        rw [e6, World.cell?_setCells_out R _ _ w5 _ (fun _ _ => .inl (by simp only; omega))]
        exact World.cell?_of_block (e5 R hR)
      simp only [show 2 * i < 2 * k by omega, show 2 * i + 1 < 2 * k by omega, if_true]
      have b1 := h.lt (2 * i) (by omega)
      have b2 := h.lt (2 * i + 1) (by omega)
      have c1 := h.gt (2 * i) (by omega)
      have c2 := h.gt (2 * i + 1) (by omega)
      refine ⟨(hcl _ (by omega)).trans a0, (hcl _ (by omega)).trans a1, (hcl _ (by omega)).trans a2, (hcl _ (by omega)).trans a3, (hcl _ (by omega)).trans a4, ?_, ?_⟩
      · exact ((hob _ (by omega) (by omega)).trans (e5 _ b1)).trans a5
      · exact ((hob _ (by omega) (by omega)).trans (e5 _ b2)).trans a6
    · obtain rfl : i = k := by omega
      rw [hc] at hd
      injection hd with hd
      subst hd
      simp only [show ¬ 2 * i < 2 * i by omega, show ¬ 2 * i + 1 < 2 * i by omega, show ¬ 2 * i + 1 = 2 * i by omega, if_true, if_false]
      have hcs := World.rangeAt_setCells_same w5 R (i * 5) [.slice (some ⟨G1, 0, none⟩) c.key.length (c.key.length + 9), .int .i64 c.kd, .slice (some ⟨G2, 0, none⟩) c.val.length (c.val.length + 9), .int .i64 c.pg, .int .i64 c.ct] (hr.there (by omega))
      rw [← e6] at hcs
      exact ⟨hcs 0 _ rfl, hcs 1 _ rfl, hcs 2 _ rfl, hcs 3 _ rfl, hcs 4 _ rfl, (hob _ l1 (by omega)).trans o1, (hob _ l2 (by omega)).trans o2⟩
  · by_cases hb2 : b < 2 * k
    · have := h.mono a b hab hb2
      simp only [show a < 2 * k by omega, hb2, if_true]
      exact this
    · by_cases ha2 : a < 2 * k
      · have := h.lt a ha2
        simp only [ha2, hb2, if_true, if_false]
        split <;> omega
      · obtain rfl : a = 2 * k := by omega
        obtain rfl : b = 2 * k + 1 := by omega
        simp only [hb2, ha2, show ¬ 2 * k + 1 = 2 * k by omega, if_true, if_false]
        exact h2
  · by_cases ha2 : a < 2 * k
    · simp only [ha2, if_true]
      exact h.gt a ha2
    · simp only [ha2, if_false]
      split <;> omega
  · rw [hsz]
    by_cases ha2 : a < 2 * k
    · simp only [ha2, if_true]
      have := h.lt a ha2
      have : wr.heap.size < w5.heap.size := by omega
      omega
    · simp only [ha2, if_false]
      split <;> assumption
/-- CELLS AS THEY WERE LENT, in the row R, all of it below L. -/
def Lent6 (w : World) (R : Nat) (cs : List Cl) (n L : Nat) : Prop :=
  ∃ g, Ln6 w R cs g 0 n ∧ RowC w R (n + 3) ∧ (∀ j, n ≤ j → j < n + 3 → w.cell? ⟨R, j * 5 + 1, none⟩ = some (.int .i64 (-7))) ∧ (∀ a, a < 2 * n → g a < L) ∧ R < L
set_option maxRecDepth 100000 in
theorem Lent6.on {w w' : World} {R n L : Nat} {cs : List Cl} (h : Lent6 w R cs n L) (hb : Below w.heap.size w w') : Lent6 w' R cs n L := by
  obtain ⟨g, h1, h2, h3, h5, h6⟩ := h
  have hR := h2.lt
  exact ⟨g, h1.keep (Nat.le_refl _) hb.size (fun j _ _ => hb.cell (p := ⟨R, j, none⟩) hR) (fun a _ ha => hb.block _ (h1.lt a ha)), h2.on hb, fun j h1 h2 => (hb.cell (p := ⟨R, _, none⟩) hR).trans (h3 j h1 h2), h5, h6⟩
set_option maxRecDepth 100000 in
theorem Lent6.cf {w w' : World} {R n L : Nat} {cs : List Cl} {F : Nat → Prop} (h : Lent6 w R cs n L) (hc : Cf F w w') (hf : ∀ k, R ≤ k → k < L → ¬ F k) : Lent6 w' R cs n L := by
  obtain ⟨g, h1, h2, h3, h5, h6⟩ := h
  have hR := h2.lt
  have hb : w'.heap[R]? = w.heap[R]? := hc.block R hR (hf R (Nat.le_refl _) h6)
  refine ⟨g, h1.keep (Nat.le_refl _) hc.size (fun j _ _ => World.cell?_of_block hb) (fun a _ ha => hc.block _ (h1.lt a ha) (hf _ (Nat.le_of_lt (h1.gt a ha)) (h5 a ha))), ?_, fun j h1 h2 => (World.cell?_of_block hb).trans (h3 j h1 h2), h5, h6⟩
  obtain ⟨cur, hh, hs⟩ := h2
  exact ⟨cur, hb.trans hh, hs⟩
set_option maxRecDepth 100000 in
theorem Lent6.slc {w : World} {R n L : Nat} {cs : List Cl} (h : Lent6 w R cs n L) (hl : cs.length = n) (hn : n ≤ 900000) (hw : ∀ c ∈ cs, c.Wf) (hk : ∀ c ∈ cs, c.key.length + c.val.length ≤ 35184372088832) : SlC w (some ⟨R, 0, none⟩) n (n + 3) cs := by
  obtain ⟨g, h1, h2, _⟩ := h
  refine ⟨hl, by omega, by omega, (by intro h; cases h), .inr ⟨R, 0, rfl, h2.lt, fun i c hi => ?_⟩⟩
  have hil : i < n := by have := (List.getElem?_eq_some_iff.1 hi).1; omega
  obtain ⟨a0, a1, a2, a3, a4, a5, a6⟩ := h1.at_ i c (by omega) hil hi
  have hm := List.mem_of_getElem? hi
  have := hk c hm
  rw [Nat.zero_add]
  exact ⟨_, _, _, _, a0, a1, a2, a3, a4, sl_lent a5 (hw c hm).1 (by omega), sl_lent a6 (hw c hm).2 (by omega)⟩

end Go.Proofs.YtphjnahmbdinmaaGreatDoor

/- Layer 6: the document's AsLent: the cells are as they were lent; only what was lent turns. -/

namespace Go.Proofs.YtphjnahmbdinmaaGreatDoor
open Go.RowKit

end Go.Proofs.YtphjnahmbdinmaaGreatDoor
