/- Layer 12: cells laid into one page. -/
import Derived.Test.YtfcbfombobelmaaGreatDoorJ35
namespace Go.Proofs.YtfcbfombobelmaaGreatDoor
open Go.RowKit

set_option maxRecDepth 100000 in
theorem methWrite (b : Nat) (w : World) : (method 348 25 (pB b) "Write").run Tryz.prog w = .ok (213, pB b) w := by kernel_rfl
/-- What a change lays behind a page that may be written. -/
def LdTo (b m : Nat) (rd root : Int) (PM : (Int → Option Pf) → Prop) (ct1 : Nat) (cs : List Cl) (ko : Option Addr) (kn kc n : Nat) (w : World) (g c : Nat) (w' : World) : Prop :=
  w'.ownsRow w.heap.size 29 5 (.slice (some ⟨g, 0, none⟩) 1 c) 1 [.slice ko kn kc, .int .i64 3, .slice none 0 0, .int .i64 root, .int .i64 (n : Int)] ∧ Cf (Bo b m) w w' ∧ ∃ M1, PM M1 ∧ ∃ f : Pf, f.l = pgB 2 512 cs ∧ w.heap.size ≤ f.g ∧ Bq w' b m rd (putM M1 root f) ct1
set_option maxRecDepth 100000 in
set_option maxHeartbeats 4000000 in
theorem laid_leaf (w : World) (p b m : Nat) (rd root : Int) (M : Int → Option Pf) (PM : (Int → Option Pf) → Prop) (ct ct1 : Nat) (vg vo : Value) (hc : Chg w p b vg) (hb : Bq w b m rd M ct) (ht : TB w b m) (hpb : p ≠ b ∧ p ≠ m) (ko : Option Addr) (kn kc : Nat) (ao : Option Addr) (n cap : Nat) (cs : List Cl) (hs : SlC w ao n cap cs) (gd : Gd1 cs) (hn : 0 < n)
    (hM' : ∀ M1, PM M1 → (M1 root).isSome = true) (hlen' : ∀ M1, PM M1 → ∀ k f, M1 k = some f → 0 < f.l.length) (hr : (Lit.int .i64 root).wf = true) (hct : ct1 < 1000000)
    (hpg : ∀ u, Below w.heap.size w u → Calls Tryz.prog 70 #[.pointer (some ⟨p, 0, none⟩), .int .i64 1, vo] u fun e w' => ∃ g c, e = .returned (.slice (some ⟨g, 0, none⟩) 1 c) ∧ Hid (∃ M1, PM M1 ∧ Pg1 w' u.heap.size g c root ∧ Cf (Bo b m) u w' ∧ Bq w' b m rd M1 ct1)) :
    Calls Tryz.prog 58 #[.pointer (some ⟨p, 0, none⟩), .int .i64 2, .slice ko kn kc, .slice ao n cap, vo] w fun e w' => ∃ g c, e = .returned (.slice (some ⟨g, 0, none⟩) 1 c) ∧ Hid (LdTo b m rd root PM ct1 cs ko kn kc n w g c w') := by
  obtain ⟨ic, hic, hz0, hz1, hz2⟩ := info_parts infoC
  obtain ⟨t1, t2⟩ := ht w (Cf.refl _ _)
  have HPT := hidden (parts_leaf w p b m rd M ct vg hc hb t1 t2 ko kn kc ao n cap cs hs gd hn)
  have HPG := hidden hpg
  have HCH := hidden hc
  have HBL : Hid (b < w.heap.size ∧ m < w.heap.size ∧ p < w.heap.size) := hidden ⟨hb.lt, hb.mlt, lt_some hc⟩
  have HGD := hidden gd
  have HPB := hidden hpb
  clear hc hb ht hs gd hpg t1 t2 hpb
  go_enter Tryz.func58, Tryz.ntmps58
  go_wp2_with (first | (go_at_call 69; refine HPT.out.mono ?_; rintro e w1 ⟨gp, gb, rfl, HQ1, HB1⟩; refine Hid.out ?_))
  apply hidden
  have HP2 := hidden (HPG.out w1 HB1.out)
  clear HPT HPG
  go_wp2_with (first | (go_at_call 70; refine HP2.out.mono ?_; rintro e w2 ⟨g2, c2, rfl, HQ2⟩; refine Hid.out ?_))
  apply hidden
  clear HP2
  obtain ⟨M1, hPM, hq2⟩ := HQ2.out
  have HQ2' := hidden hq2
  have hM := hM' M1 hPM
  have hlen := hlen' M1 hPM
  have HPM := hidden hPM
  clear HQ2 hq2 hPM hM' hlen'
  have HF2 : Hid (Prt1 w2 gp ko kn kc 0 (n : Int) gb ∧ Sl w2 (some ⟨gb, 0, none⟩) 512 512 (pgB 2 512 cs) ∧ Chg w2 p b vg ∧ Cf (Bo b m) w w2 ∧ Bq w2 b m rd M1 ct1 ∧ w2.cell? ⟨g2, 0, none⟩ = some (.int .i64 root) ∧ 1 ≤ c2 ∧ w.heap.size ≤ g2 ∧ g2 < w2.heap.size) := hidden (by
    obtain ⟨q1, q2, q3, q4⟩ := HQ1.out
    obtain ⟨r1, r2, r3⟩ := HQ2'.out
    obtain ⟨l1, l2, l3⟩ := HBL.out
    have hw1 := HB1.out.size
    have hsl := (q2.sl HGD.out.len HGD.out.pwf (by omega)).cf r2 (.inr fun x e => by cases e; rintro (e | e) <;> simp only at e <;> omega)
    refine ⟨(r2.block gp (lt_some q1) (by rintro (e | e) <;> omega)).trans q1, hsl, (r2.block p (by omega) (by have := HPB.out; rintro (e | e) <;> omega)).trans (box_on HCH.out HB1.out), (Cf.of_below HB1.out).go r2, r3, ?_, ?_, ?_, ?_⟩
    · have h := r1
      unfold Pg1 OwnJ at h
      have := h.cellAt 0 (by simp)
      simpa [IV] using this
    · have h := r1
      unfold Pg1 OwnJ at h
      rcases h.2 with ⟨h, _⟩ | ⟨q, c', cur, e, _, _, hn, _⟩
      · cases h
      · injection e with e1 e2 e3
        simp at hn
        omega
    · have h0 : w1.heap.size ≤ g2 ∧ g2 < w2.heap.size := OwnJ.lt r1 rfl
      omega
    · have h0 : w1.heap.size ≤ g2 ∧ g2 < w2.heap.size := OwnJ.lt r1 rfl
      omega)
  have HW12 : Hid (w.heap.size ≤ w2.heap.size) := hidden HF2.out.2.2.2.1.size
  clear HQ1 HQ2' HB1 HCH
  go_wp2_with fail
  go_loopw [11, 14, 15, 28] (fun s11 s14 s15 s28 wr => (s11 = .slice none 0 0 ∧ s28 = .int .i64 0 ∧ wr = w2) ∨ (∃ g c, s11 = .slice (some ⟨g, 0, none⟩) 1 c ∧ s28 = .int .i64 1 ∧ Hid (LdTo b m rd root PM ct1 cs ko kn kc n w g c wr))) (fun s11 _ _ _ _ => nilM s11)
  case atStart => exact .inl ⟨rfl, rfl, by first | rfl | trivial⟩
  case round =>
    rcases hrel with ⟨rfl, rfl, rfl⟩ | ⟨g, c, rfl, rfl, HW⟩
    · obtain ⟨f1, f2, f3, f4, f5, f6, f7, f8, f9⟩ := HF2.out
      have f1' := f1
      unfold Prt1 at f1'
      have d0 := cell_of_row _ _ 0 _ _ _ f1'
      have d1 := cell_of_row _ _ 1 _ _ _ f1'
      have d2 := cell_of_row _ _ 2 _ _ _ f1'
      have d3 := cell_of_row _ _ 3 _ _ _ f1'
      have d4 := cell_of_row _ _ 4 _ _ _ f1'
      have d5 := cell_of_row _ _ 5 _ _ _ f1'
      simp at d0 d1 d2 d3 d4 d5
      obtain ⟨s, hs⟩ : ∃ s, wr.heap.size = s := ⟨_, rfl⟩
      obtain ⟨x, hx⟩ : ∃ x, wr.alloc (.cells #[.slice ko kn kc, .int .i64 3, .slice none 0 0, .int .i64 0, .int .i64 (n : Int), .slice (some ⟨gb, 0, none⟩) 512 512] 125) = x := ⟨_, rfl⟩
      have hbx : Below wr.heap.size wr x := by rw [← hx]; exact bl_al (Below.refl _ _) (Nat.le_refl _) _
      have hpx : Prt1 x s ko kn kc 0 (n : Int) gb := by unfold Prt1; rw [← hx, ← hs]; exact heap_alloc_last wr _
      have hxs : x.heap.size = s + 1 := by rw [← hx, ← hs]; simp
      have x0 : x.cell? ⟨p, 0, none⟩ = some (iB b) := (show Chg x p b vg from box_on f3 hbx).cells.1
      have x1 : x.cell? ⟨g2, 0, none⟩ = some (.int .i64 root) := (hbx.cell (p := ⟨g2, 0, none⟩) f9).trans f6
      have x5 := cell_of_row _ _ 5 _ _ _ hpx
      simp at x5
      have HWR : Hid (∀ u, Below x.heap.size x u → Calls Tryz.prog 213 #[pB b, .int .i64 root, .slice (some ⟨gb, 0, none⟩) 512 512] u fun e w' => e = .returned (.int .i64 0) ∧ Hid (Cf (Bo b m) x w' ∧ ∃ f : Pf, f.l = pgB 2 512 cs ∧ x.heap.size ≤ f.g ∧ Bq w' b m rd (putM M1 root f) ct1)) := hidden fun u hu => by
        have hxu := bl_go hbx (Nat.le_refl _) hu
        refine (bwrite_any (f5.on hxu) root hr (some ⟨gb, 0, none⟩) 512 512 (pgB 2 512 cs) (f2.on (Nat.le_refl _) hxu) hct).mono ?_
        rintro e w' ⟨k, rfl, HQ⟩
        rcases HQ.out with ⟨h, _⟩ | ⟨_, h, _⟩ | ⟨_, _, rfl, f, h1, h2, h3, h4⟩
        · rw [h] at hM; cases hM
        · exact absurd rfl h
        · exact ⟨rfl, hidden ⟨(Cf.of_below hu).go (h4.wideB (fun x e => .inr e)), f, h1, Nat.le_trans hu.size h2, h3⟩⟩
      have HMS : Hid (∀ k f', M1 k = some f' → f'.g < s) := hidden fun k f' hk => by
        have h1 := (f5.pgs k f' hk).1
        have h2 := hlen k f' hk
        rcases h1.hat with h0 | ⟨q, off, e', hlt, _⟩
        · omega
        · injection e' with e'
          injection e' with e1 e2
          omega
      have HPX := hidden hpx
      have HXS := hidden hxs
      have HX1 : Hid (x.cell? ⟨g2, 0, none⟩ = some (.int .i64 root) ∧ w.heap.size ≤ g2 ∧ g2 < s ∧ Cf (Bo b m) w x) := hidden ⟨x1, f8, by omega, f4.go (Cf.of_below hbx)⟩
      have HSW : Hid (wr.heap.size = s) := hidden hs
      have m1 := fun u => methWrite b u
      clear f1 f1' f2 f3 f4 f5 f6 f8 f9 hbx hpx hxs
      go_upto_region 7 with fail
      go_cut [46] from 33 to 46 (fun v u => v = .tuple #[] ∧ Hid (Cf (Bo b m) x u ∧ ∃ f : Pf, f.l = pgB 2 512 cs ∧ x.heap.size ≤ f.g ∧ Bq u b m rd (putM M1 root f) ct1))
      case first =>
        go_wp2_with fail
        go_region_with (first | (go_at_call 213; refine (HWR.out _ (by first | exact Below.refl _ _ | exact (Below.refl _ _).drew | exact bl_dr (Below.refl _ _) _)).mono ?_; rintro e w3 ⟨rfl, HQ3⟩) | (go_at_call 29; refine same_call (must_ok _) ?_))
        all_goals (try go_wp2_with fail)
        all_goals go_meet
        all_goals exact ⟨rfl, by first | exact HQ3 | exact hidden (by obtain ⟨a1, f, a2, a3, a4⟩ := HQ3.out; exact ⟨a1.go (Cf.of_below (bl_dr (Below.refl _ _) _)), f, a2, a3, a4.on (bl_dr (Below.refl _ _) _)⟩)⟩
      obtain ⟨rfl, HQ3⟩ := hcut
      obtain ⟨w3, hw3⟩ : ∃ w3, w3 = wc := ⟨_, rfl⟩
      subst hw3
      clear d0 d1 d2 d3 d4 d5 x0 x1 x5 HWR m1 hx
      obtain ⟨l1, l2, l3⟩ := HBL.out
      obtain ⟨k1, k2, k3, k4⟩ := HX1.out
      have hxs := HXS.out
      have hws := HW12.out
      have hsw := HSW.out
      have hp3 : Prt1 w3 s ko kn kc 0 (n : Int) gb := (HQ3.out.1.block s (by omega) (by rintro (e | e) <;> omega)).trans HPX.out
      have z1 : w3.cell? ⟨g2, 0, none⟩ = some (.int .i64 root) := by
        rw [← k1]
        simp only [World.cell?]
        rw [HQ3.out.1.block g2 (by omega) (by rintro (e | e) <;> omega)]
      have y0 := cell_of_row _ _ 0 _ _ _ hp3
      have y1 := cell_of_row _ _ 1 _ _ _ hp3
      have y2 := cell_of_row _ _ 2 _ _ _ hp3
      have y3 := cell_of_row _ _ 3 _ _ _ hp3
      have y4 := cell_of_row _ _ 4 _ _ _ hp3
      simp at y0 y1 y2 y3 y4
      have fz : w3.frozen? ⟨s, 3, none⟩ = false := by unfold Prt1 at hp3; simp [World.frozen?, hp3]
      have HP3 := hidden hp3
      have HNUM : Hid (w.heap.size ≤ s ∧ b < w.heap.size ∧ m < w.heap.size) := hidden ⟨by omega, l1, l2⟩
      clear hp3 l1 l2 l3 k1 k2 k3 k4 hxs hws hsw
      obtain ⟨y, hy⟩ : ∃ y, w3.setCell ⟨s, 3, none⟩ (.int .i64 root) = y := ⟨_, rfl⟩
      have hcy : Cf (· = s) w3 y := by rw [← hy]; exact Cf.set _ _ _ _
      have hysz : y.heap.size = w3.heap.size := by rw [← hy]; simp
      obtain ⟨z, hz⟩ : ∃ z, y.alloc (.cells #[.slice ko kn kc, .int .i64 3, .slice none 0 0, .int .i64 root, .int .i64 (n : Int)] 29) = z := ⟨_, rfl⟩
      have hbz : Below y.heap.size y z := by rw [← hz]; exact bl_al (Below.refl _ _) (Nat.le_refl _) _
      have hpy : Prt1 y s ko kn kc root (n : Int) gb := by
        have h := HP3.out
        unfold Prt1 at h ⊢
        rw [← hy]
        simpa using set_row (w := w3) (a := s) (i := 3) (cs := [.slice ko kn kc, .int .i64 3, .slice none 0 0, .int .i64 0, .int .i64 (n : Int), .slice (some ⟨gb, 0, none⟩) 512 512]) (u := .int .i64 root) h
      have v0 := cell_of_row _ _ 0 _ _ _ hpy
      have v1 := cell_of_row _ _ 1 _ _ _ hpy
      have v2 := cell_of_row _ _ 2 _ _ _ hpy
      have v3 := cell_of_row _ _ 3 _ _ _ hpy
      have v4 := cell_of_row _ _ 4 _ _ _ hpy
      simp at v0 v1 v2 v3 v4
      have hcu : ∀ j q, ([.slice ko kn kc, .int .i64 3, .slice none 0 0, .int .i64 root, .int .i64 (n : Int)] : List Value)[j]? = some q → z.cell? ⟨w3.heap.size, 0 + j, none⟩ = some q := fun j q hq => by
        have h1 : z.heap[w3.heap.size]? = some (.cells #[.slice ko kn kc, .int .i64 3, .slice none 0 0, .int .i64 root, .int .i64 (n : Int)] 29 (0, 0)) := by rw [← hz, ← hysz]; exact heap_alloc_last y _
        rw [Nat.zero_add, cell_of_row _ _ j _ _ _ h1]
        simpa using hq
      have HCU := hidden hcu
      have hwz : w.heap.size ≤ z.heap.size := by
        have h1 := HX1.out.2.2.2.size
        have h2 := HQ3.out.1.size
        have h3 := hbz.size
        omega
      have HCZ : Hid (Cf (Bo b m) w z) := hidden ((((HX1.out.2.2.2).go HQ3.out.1).trans hcy (fun i hi e => by have := HNUM.out; omega)).go (Cf.of_below hbz))
      have HBZ : Hid (∃ f : Pf, f.l = pgB 2 512 cs ∧ w.heap.size ≤ f.g ∧ Bq z b m rd (putM M1 root f) ct1) := hidden (by
        obtain ⟨_, f, a2, a3, a4⟩ := HQ3.out
        have hxs := HXS.out
        have hnu := HNUM.out
        refine ⟨f, a2, by omega, (a4.cf hcy (by omega) (by omega) (fun k f' hk e => ?_)).on hbz⟩
        unfold putM at hk
        split at hk
        · injection hk with hk
          subst hk
          omega
        · have := HMS.out k f' hk
          omega)
      clear hcu hpy hbz hcy HP3
      go_wp2_with (at_builtin; refine wpList_append_own_at z rfl _ _ 83 rfl w.heap.size 29 ic _ 5 72 Tryz.underlying83 hic hz0 hz1 hz2 rfl (by decide) _ 0 [] rfl (World.ownsRow_nil _ _ _ _) ⟨w3.heap.size, 0, none⟩ 1 1 [.slice ko kn kc, .int .i64 3, .slice none 0 0, .int .i64 root, .int .i64 (n : Int)] rfl (by rfl) (fun j q hq => by rw [Addr.add_lit]; exact HCU.out j q hq) (by simp [Value.oneCell']) (by unfold maxLen; omega) (by omega) hwz ?_; refine Hid.out ?_)
      apply hidden
      intro v' w5 g1 g5 _ _
      have hb5 : Below z.heap.size z w5 := (Below.refl _ _).grown g5 (Nat.le_refl _) (fun k hk => by cases hk)
      obtain ⟨g, c, rfl⟩ : ∃ g c, v' = .slice (some ⟨g, 0, none⟩) 1 c := by
        rcases g1.2 with ⟨_, h0⟩ | ⟨q, c', cur, rfl, _⟩
        · cases h0
        · exact ⟨q, c', rfl⟩
      have HFIN : Hid (LdTo b m rd root PM ct1 cs ko kn kc n w g c w5) := hidden (by
        obtain ⟨f, a2, a3, a4⟩ := HBZ.out
        exact ⟨g1, HCZ.out.go (Cf.of_below hb5), M1, HPM.out, f, a2, a3, a4.on hb5⟩)
      clear g1 g5 hb5 v0 v1 v2 v3 v4 y0 y1 y2 y3 y4 z1 fz hy hz
      go_wp2
      go_roundw
      case rel => exact .inr ⟨g, c, rfl, rfl, HFIN⟩
      case measure => simp [nilM]
    · go_wp2
      go_ret
      exact ⟨g, c, rfl, HW⟩
end Go.Proofs.YtfcbfombobelmaaGreatDoor

/- Layer 12: no cells laid; a root laid. -/

namespace Go.Proofs.YtfcbfombobelmaaGreatDoor
open Go.RowKit

set_option maxRecDepth 100000 in
theorem laid_0 (w : World) (p b : Nat) (root : Int) (hc : Chg w p b (.slice none 0 0)) (ko : Option Addr) (kn kc : Nat) (ao : Option Addr) (cap og oc : Nat) (ho : w.cell? ⟨og, 0, none⟩ = some (.int .i64 root)) :
    Calls Tryz.prog 58 #[.pointer (some ⟨p, 0, none⟩), .int .i64 2, .slice ko kn kc, .slice ao 0 cap, .slice (some ⟨og, 0, none⟩) 1 oc] w fun e w' => ∃ g c, e = .returned (.slice none 0 0) ∧ Hid (Pg1 w' w.heap.size g c root ∧ Chg w' p b (.slice (some ⟨g, 0, none⟩) 1 c)) ∧ Hid (Cf (· = p) w w') := by
  have HP := hidden (pages_gone w p b root hc og oc ho)
  clear hc ho
  go_enter Tryz.func58, Tryz.ntmps58
  go_wp2_with (first | (go_at_call 69; refine same_call (parts_0 _ _ _ _ _ _ _ _) ?_) | (go_at_call 70; refine HP.out.mono ?_; rintro e w1 ⟨g, c, rfl, HQ, HC⟩; refine Hid.out ?_))
  apply hidden
  go_wp2_with fail
  go_loopw [11, 14, 15, 28] (fun s11 s14 s15 s28 wr => s11 = .slice none 0 0 ∧ s28 = .int .i64 0 ∧ wr = w1) (fun _ _ _ _ _ => 0)
  case atStart => exact ⟨rfl, rfl, by first | rfl | trivial⟩
  case round =>
    obtain ⟨rfl, rfl, rfl⟩ := hrel
    go_wp2
    go_ret
    exact ⟨g, c, rfl, HQ, HC⟩
set_option maxRecDepth 100000 in
set_option maxHeartbeats 1000000 in
theorem rooted_leaf (w : World) (p b m : Nat) (rd : Int) (M : Int → Option Pf) (ct : Nat) (vg : Value) (hc : Chg w p b vg) (hb : Bq w b m rd M ct) (ht : TB w b m) (hpb : p ≠ b ∧ p ≠ m) (ao : Option Addr) (n cap : Nat) (cs : List Cl) (hs : SlC w ao n cap cs) (gd : Gd1 cs) (hn : 0 < n) (hM : M 2 = none) (hlen : ∀ k f, M k = some f → 0 < f.l.length) (hct : ct < 999999) :
    Calls Tryz.prog 48 #[.pointer (some ⟨p, 0, none⟩), .int .i64 2, .slice ao n cap] w fun e w' => e = .returned (.int .i64 2) ∧ Hid (Cf (Bo b m) w w' ∧ ∃ f0 f : Pf, f.l = pgB 2 512 cs ∧ w.heap.size ≤ f.g ∧ Bq w' b m rd (putM (putM M 2 f0) 2 f) (ct + 1)) := by
  have HL := hidden (laid_leaf w p b m rd 2 M (fun M1 => ∃ f0 : Pf, f0.l.length = 512 ∧ M1 = putM M 2 f0) ct (ct + 1) vg (.slice none 0 0) hc hb ht hpb none 0 0 ao n cap cs hs gd hn (by rintro M1 ⟨f0, _, rfl⟩; simp [putM]) (by
    rintro M1 ⟨f0, h0, rfl⟩ k f hk
    unfold putM at hk
    split at hk
    · injection hk with hk
      subst hk
      omega
    · exact hlen k f hk) (wf64 2 (by omega) (by omega)) (by omega) (fun u hu => by
      refine (pages_new u p b m rd M ct vg (box_on hc hu) (hb.on hu) hM (by omega)).mono ?_
      rintro e w' ⟨g, c, rfl, HQ⟩
      obtain ⟨h1, h2, f, h3, h4, h5⟩ := HQ.out
      exact ⟨g, c, rfl, hidden ⟨_, ⟨f, h3, rfl⟩, h1, h2, h5⟩⟩))
  clear hc hb ht hs gd hM hlen
  go_enter Tryz.func48, Tryz.ntmps48
  go_wp2_with (first | (go_at_call 58; refine HL.out.mono ?_; rintro e w1 ⟨g, c, rfl, HQ⟩; refine Hid.out ?_))
  apply hidden
  obtain ⟨q1, _⟩ := HQ.out
  have c3 := q1.cellAt 3 (by omega)
  simp at c3
  clear HL q1
  go_wp2
  go_ret
  obtain ⟨_, q2, M1, ⟨f0, _, rfl⟩, f, q3, q4, q5⟩ := HQ.out
  exact ⟨rfl, hidden ⟨q2, f0, f, q3, q4, q5⟩⟩
end Go.Proofs.YtfcbfombobelmaaGreatDoor
