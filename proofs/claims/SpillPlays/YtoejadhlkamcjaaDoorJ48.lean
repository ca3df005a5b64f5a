import Derived.Test.YtoejadhlkamcjaaDoorJ44
import Derived.Test.YtoejadhlkamcjaaDoorJ45
import Derived.Test.YtoejadhlkamcjaaDoorJ46
import Derived.Test.YtoejadhlkamcjaaDoorJ47
import Derived.Deep.RegionHeld
import Derived.Deep.Cut
namespace Go.Proofs.YtoejadhlkamcjaaDoor
set_option maxRecDepth 100000
open Go.RowKit Go.Maps
def Sd9 (x i : Nat) (a : Value) (g j : Nat) (n : Int) (u : World) : Prop := u.cell? ⟨x, i, none⟩ = some a ∧ u.cell? ⟨g, j, none⟩ = some (.int .i64 n)
set_option maxHeartbeats 16000000 in
theorem walk_SpillPlays (pg ps : Int) (so : Option Addr) (sn sc : Nat) (os : List Os9) (w : World) (ht : Tab w) (h0 : 0 < w.heap.size) (hs : SlS9 w so sn sc os) (hsn : sn ≤ 1048576) :
  Calls Tryd.prog 3 #[.int .i64 pg, .int .i64 ps, .slice so sn sc] w fun e w' => e = .returned (.bool true) ∧ Below w.heap.size w w' := by
 have HAW := hidden (awake_any w ht h0)
 have HS := hidden hs
 have HT := hidden ht
 have H0 := hidden h0
 have hsnI : (sn : Int) ≤ 1048576 := by omega
 have hsc := hs.hcap
 have HOL := hidden hs.hlen
 clear hs ht
 go_enter Tryd.func3, Tryd.ntmps3
 go_wp2_with (first
  | (go_at_call 4; refine HAW.out.mono ?_; rintro e w1 ⟨rfl, HB1⟩; refine Hid.out ?_))
 apply hidden
 clear HAW
 by_cases hok : pw pg ∧ 2 ≤ ps ∧ ps ≤ 65536
 ·obtain ⟨hp, hp2, hp3⟩ := hok
  obtain ⟨P, rfl⟩ : ∃ P : Nat, pg = P := ⟨pg.toNat, by have := pw_le hp; omega⟩
  obtain ⟨T, rfl⟩ : ∃ T : Nat, ps = (T : Int) + 2 := ⟨(ps - 2).toNat, by omega⟩
  have hTm : T ≤ 65534 := by omega
  have HNB : Hid (∀ u : World, Calls Tryd.prog 5 #[.int .i64 2, .int .i64 (P : Int), .int .i64 ((T : Int) + 2)] u fun e u' => ∃ b m, e = .returned (pB b) ∧ Hid (u.heap.size ≤ b ∧ u.heap.size ≤ m ∧ Bn u' b m 2 (P : Int) ((T : Int) + 2) 0 (fun _ => none) 0 ∧ Below u.heap.size u u')) := hidden (fun u => newBench_yes u 2 P _ (.inr rfl) hp hp2 hp3)
  have HP := hidden hp
  clear hp hp2 hp3
  go_wp2_with (first
   | (go_at_call 5; refine (HNB.out _).mono ?_; rintro e w2 ⟨b, m, rfl, HN1⟩; refine Hid.out ?_; apply hidden; go_wp2_with (first | (go_at_call 5; refine (HNB.out _).mono ?_; rintro e w3 ⟨b2, m2, rfl, HN2⟩; refine Hid.out ?_; apply hidden; obtain ⟨x, hxs⟩ : ∃ x, w3.heap.size = x := ⟨_, rfl⟩; obtain ⟨z, hz⟩ : ∃ z, w3.alloc (.cells #[pB b, pB b2, .slice none 0 0, .slice none 0 0, .slice none 0 0, .slice none 0 0, .slice none 0 0] 32) = z := ⟨_, rfl⟩; have c0 : z.cell? ⟨x, 0, none⟩ = some (pB b) := (by rw [← hz, ← hxs]; simp); have c1 : z.cell? ⟨x, 1, none⟩ = some (pB b2) := (by rw [← hz, ← hxs]; simp)))))
  have hbz : Below w3.heap.size w3 z := by rw [← hz]; exact bl_al (Below.refl _ _) (Nat.le_refl _) _
  have hrow : z.heap[x]? = some (rowX b b2 fun _ => .slice none 0 0) := by rw [← hz, ← hxs]; exact Array.getElem?_push_size
  have HPP : Hid (Pp9 z w.heap.size x b m b2 m2 P T 0) := hidden (by
   obtain ⟨a1, a2, a3, a4⟩ := HN1.out
   obtain ⟨b1, b2', b3, b4⟩ := HN2.out
   have s1 := HB1.out.size
   have s2 := a4.size
   have s3 := b4.size
   have l1 := a3.lt
   have l2 := a3.mlt
   have l3 := b3.lt
   have l4 := b3.mlt
   exact Pp9.new hrow ((a3.on b4).on hbz) (b3.on hbz) ⟨by omega, by omega, by omega, by omega, by omega, by omega, by omega, by omega⟩ ⟨by omega, by omega, by omega, by omega, by omega⟩)
  have HCZ : Hid (Cf (w.heap.size ≤ ·) w z) := hidden (by
   obtain ⟨_, _, _, a4⟩ := HN1.out
   obtain ⟨_, _, _, b4⟩ := HN2.out
   exact (((Cf.of_below HB1.out).go (Cf.of_below a4)).go (Cf.of_below b4)).go (Cf.of_below hbz))
  clear HNB HN1 HN2 hbz hrow hz hxs c0 c1
  go_loopw [9] (fun i wr => ∃ j : Nat, j ≤ sn ∧ i = .int .i64 (j : Int) ∧ Hid (Pp9 wr w.heap.size x b m b2 m2 P T j ∧ Cf (w.heap.size ≤ ·) w wr)) (fun i _ => sn - (intOf i).toNat)
  case atStart => exact ⟨0, by omega, rfl, hidden ⟨HPP.out, HCZ.out⟩⟩
  case round =>
   obtain ⟨j, hj, rfl, HQ⟩ := hrel
   clear HPP HCZ
   by_cases hlt : j < sn
   ·have hltI : (j : Int) < (sn : Int) := by omega
    obtain ⟨bb, off, rfl, hbb, hcs⟩ : ∃ b off, so = some ⟨b, off, none⟩ ∧ b < w.heap.size ∧ ∀ i o, os[i]? = some o → ∃ (va : Option Addr) (vc : Nat), w.cell? ⟨b, off + i * 6, none⟩ = some (.int .i64 o.k) ∧ w.cell? ⟨b, off + i * 6 + 1, none⟩ = some (.int .i64 o.f) ∧ w.cell? ⟨b, off + i * 6 + 2, none⟩ = some (.int .i64 o.n) ∧ w.cell? ⟨b, off + i * 6 + 3, none⟩ = some (.int .i64 o.fr) ∧ w.cell? ⟨b, off + i * 6 + 4, none⟩ = some (.int .i64 o.to) ∧ w.cell? ⟨b, off + i * 6 + 5, none⟩ = some (.slice va o.v.length vc) ∧ Sl w va o.v.length vc o.v ∧ -9223372036854775808 ≤ o.f ∧ o.f ≤ 9223372036854775807 := by
     rcases HS.out.hat with h | h
     ·omega
     ·exact h
    obtain ⟨o, ho⟩ : ∃ o, os[j]? = some o := ⟨_, List.getElem?_eq_getElem (by have := HOL.out; omega)⟩
    obtain ⟨va, vc, e0, e1, e2, e3, e4, e5, hsv, hf1, hf2⟩ := hcs j o ho
    have hbl : Below w.heap.size w wr := HQ.out.2.below (Nat.le_refl _) (fun k hk e => by omega)
    have d0 : wr.cell? ⟨bb, off + j * 6, none⟩ = some (.int .i64 o.k) := (hbl.cell (p := ⟨bb, off + j * 6, none⟩) hbb).trans e0
    have d1 : wr.cell? ⟨bb, off + j * 6 + 1, none⟩ = some (.int .i64 o.f) := (hbl.cell (p := ⟨bb, off + j * 6 + 1, none⟩) hbb).trans e1
    have d2 : wr.cell? ⟨bb, off + j * 6 + 2, none⟩ = some (.int .i64 o.n) := (hbl.cell (p := ⟨bb, off + j * 6 + 2, none⟩) hbb).trans e2
    have d3 : wr.cell? ⟨bb, off + j * 6 + 3, none⟩ = some (.int .i64 o.fr) := (hbl.cell (p := ⟨bb, off + j * 6 + 3, none⟩) hbb).trans e3
    have d4 : wr.cell? ⟨bb, off + j * 6 + 4, none⟩ = some (.int .i64 o.to) := (hbl.cell (p := ⟨bb, off + j * 6 + 4, none⟩) hbb).trans e4
    have d5 : wr.cell? ⟨bb, off + j * 6 + 5, none⟩ = some (.slice va o.v.length vc) := (hbl.cell (p := ⟨bb, off + j * 6 + 5, none⟩) hbb).trans e5
    have hvb : o.v.length = 0 ∨ ∀ p, va = some p → p.block < w.heap.size := hsv.hat.imp id fun ⟨b', o', q, hq, _⟩ p hp => by rw [q] at hp; cases hp; exact hq
    obtain ⟨k0, hk0⟩ : ∃ k0, o.k = k0 := ⟨_, rfl⟩
    obtain ⟨f0, hf0⟩ : ∃ f0, o.f = f0 := ⟨_, rfl⟩
    obtain ⟨n0, hn0⟩ : ∃ n0, o.n = n0 := ⟨_, rfl⟩
    obtain ⟨fr0, hfr0⟩ : ∃ fr0, o.fr = fr0 := ⟨_, rfl⟩
    obtain ⟨to0, hto0⟩ : ∃ to0, o.to = to0 := ⟨_, rfl⟩
    obtain ⟨vl, hvl⟩ : ∃ vl, o.v = vl := ⟨_, rfl⟩
    rw [hvl] at d5 hsv hvb
    obtain ⟨vn, hvn⟩ : ∃ vn, vl.length = vn := ⟨_, rfl⟩
    rw [hvn] at d5 hsv hvb
    rw [hk0] at d0
    rw [hf0] at d1 hf1 hf2
    rw [hn0] at d2
    rw [hfr0] at d3
    rw [hto0] at d4
    by_cases hbig : 200000 < (vn : Int)
    ·clear hcs hvb hk0 hf0 hn0 hfr0 hto0 hvl hvn e0 e1 e2 e3 e4 e5 ho
     have hbd : decide (200000 < (vn : Int)) = true := by simpa using hbig
     have HBL := hidden hbl
     clear hbl
     go_wp2_with fail
     go_ret
     exact ⟨rfl, HBL.out⟩
    ·have hbd : decide (200000 < (vn : Int)) = false := by simpa using hbig
     have HPL := hidden (play9 HQ.out.1 (by omega) hTm HP.out (HT.out.on hbl H0.out) H0.out k0 f0 n0 fr0 to0 va vn vc vl ⟨hf1, hf2⟩ (hsv.on (Nat.le_refl _) hbl) hvb (by omega))
     clear hcs hvb hk0 hf0 hn0 hfr0 hto0 hvl hvn e0 e1 e2 e3 e4 e5 ho hbl hsv
     go_wp2_with (first
      | (go_at_call 6; refine HPL.out.mono ?_; rintro e w4 ⟨rfl, HR⟩; refine Hid.out ?_))
     apply hidden
     clear HPL d0 d1 d2 d3 d4 d5
     have HAL := hidden (alike9 HR.out.1 hTm)
     go_wp2_with (first
      | (go_at_call 7; refine HAL.out.mono ?_; rintro e w5 ⟨rfl, HB5⟩; refine Hid.out ?_))
     apply hidden
     clear HAL
     go_wp2_with fail
     go_roundw
     case rel => exact ⟨j + 1, by omega, by go_num, hidden ⟨HR.out.1.on HB5.out, (HQ.out.2.go HR.out.2).go (Cf.of_below HB5.out)⟩⟩
     case measure => simp [intOf]; omega
   ·obtain rfl : j = sn := by omega
    have hlI : ¬ (j : Int) < (j : Int) := by omega
    obtain ⟨rd, M, N, ct, K, rb, R, FL, its, lss, hs1, hco, hit, l1, l2, l3, hr0, hr1⟩ := HQ.out.1
    obtain ⟨c0, c1⟩ := hs1.cells
    have HT2' : Hid (((T : Int) + 2 - 2).toNat = T) := hidden (by omega)
    have HTK := hidden (taken_list hs1.bd (by omega) (by omega))
    rw [HT2'.out] at HTK
    have HLL : Hid (∀ a ∈ tkL N T, (N a).isSome = true) := hidden (fun a ha => tkL_some N T a ha)
    have hLL : (tkL N T).length ≤ T := tkL_length N T
    obtain ⟨L, hL⟩ : ∃ L, tkL N T = L := ⟨_, rfl⟩
    rw [hL] at HTK HLL hLL
    obtain ⟨ln, hln⟩ : ∃ ln, L.length = ln := ⟨_, rfl⟩
    have HLN := hidden hln
    rw [hln] at hLL
    have hlnI : (ln : Int) ≤ 65534 := by omega
    have HS1 := hidden hs1
    have HCO := hidden hco
    have HIT := hidden hit
    have HLE := hidden (And.intro l1 (And.intro l2 l3))
    clear hs1 hco hit l1 l2 l3 c0 hL hln HT2'
    go_wp2_with (first
     | (go_at_call 8; refine HTK.out.mono ?_; rintro e w5 ⟨v, rfl, HO5, HB5⟩; refine Hid.out ?_))
    apply hidden
    clear HTK c1
    obtain ⟨lo, lc, rfl, hlj⟩ := HO5.out.sl
    rw [HLN.out] at hlj ⊢
    have HLJ := hidden hlj
    have HS5 := hidden (HS1.out.on HB5.out)
    have HLO : Hid (∀ p, lo = some p → wr.heap.size ≤ p.block) := hidden (fun p hp => (HO5.out.lt (by rw [hp]; rfl)).1)
    have HMS : Hid (∀ q, Mu x b m b2 m2 rb q → q < wr.heap.size) := hidden (fun q hq => (HS1.out.lts hq).1)
    clear hlj
    go_wp2_with fail
    go_loopw [13] (fun i wq => ∃ r : Nat, r ≤ ln ∧ i = .int .i64 (r : Int) ∧ Hid (Sq9 wq w.heap.size x b m b2 m2 P T (rd + (r : Int)) (rd + (r : Int)) M N ct ct K rb R ∧ Cf (Mu x b m b2 m2 rb) w5 wq)) (fun i _ => ln - (intOf i).toNat)
    case atStart => exact ⟨0, by omega, rfl, hidden ⟨by rw [show rd + ((0 : Nat) : Int) = rd by omega]; exact HS5.out, Cf.refl _ _⟩⟩
    case round =>
     obtain ⟨r, hr, rfl, HR⟩ := hrel
     by_cases hlt2 : r < ln
     ·have hltI2 : (r : Int) < (ln : Int) := by omega
      have hlcap := HLJ.out.hcap
      obtain ⟨gl, rfl, hgl, hcl⟩ : ∃ b, lo = some ⟨b, 0, none⟩ ∧ b < w5.heap.size ∧ ∀ i, i < ln → w5.cell? ⟨b, i, none⟩ = some (.int .i64 (L.getD i 0)) := by
       rcases HLJ.out.hat with h | h
       ·omega
       ·exact h
      have HGM : Hid (¬ Mu x b m b2 m2 rb gl) := hidden (fun e => by have h1 := HLO.out _ rfl; have h2 := HMS.out gl e; simp only at h1; omega)
      have ck : wr.cell? ⟨gl, r, none⟩ = some (.int .i64 (L.getD r 0)) := (World.cell?_of_block (HR.out.2.block gl hgl HGM.out)).trans (hcl r hlt2)
      have hlm : L.getD r 0 ∈ L := getD_mem (by rw [HLN.out]; exact hlt2)
      have hNs := HLL.out _ hlm
      obtain ⟨a, ha⟩ : ∃ a, L.getD r 0 = a := ⟨_, rfl⟩
      rw [ha] at ck hNs
      have hMs : (M a).isSome = true := by rw [con_iso HCO.out]; exact hNs
      obtain ⟨f1, hf1⟩ := Option.isSome_iff_exists.1 hMs
      obtain ⟨f2, hf2⟩ := Option.isSome_iff_exists.1 hNs
      have hff : f1.l = f2.l := by
       have h1 := congrFun HCO.out a
       unfold con at h1
       rw [hf1, hf2] at h1
       simpa using h1
      have hai := HR.out.1.gM.in_ a hMs
      have hwa : (Lit.int .i64 a).wf = true := wf64 _ (by omega) (by omega)
      have hpg := (HR.out.1.br.pgs a f1 hf1).1
      have HWL : Hid (Wf f1.l ∧ f1.l.length ≤ 140737488355328) := hidden ⟨hpg.wf, hpg.hroom⟩
      obtain ⟨ls, hls⟩ : ∃ ls, f1.l = ls := ⟨_, rfl⟩
      have hls2 : f2.l = ls := by rw [← hff, hls]
      rw [hls] at HWL
      have hgw : gl < wr.heap.size := Nat.lt_of_lt_of_le hgl HR.out.2.size
      have HF1 := hidden (And.intro hf1 hls)
      have HF2 := hidden (And.intro hf2 hls2)
      have HWA := hidden hwa
      have hrd : rd + (r : Int) < 4611686018427387904 := by omega
      have hrd0 : 0 ≤ rd + (r : Int) := by omega
      obtain ⟨c0, c1⟩ := HR.out.1.cells
      have hxl := lt_some HR.out.1.row
      have HXG := hidden (And.intro hxl hgw)
      have HR1 : Hid (∀ u, Below wr.heap.size wr u → Calls Tryd.prog 9 #[pB b, .int .i64 a] u fun e w' => ∃ ao sn c, e = .returned (.tuple #[.slice ao sn c, .int .i64 0]) ∧ Hid (OwnB w' wr.heap.size (.slice ao sn c) ls ∧ Bn w' b m 2 (P : Int) ((T : Int) + 2) (rd + (r : Int) + 1) M ct ∧ Cf (· = b) wr w')) := hidden (fun u hu => by
       refine (bread_any ((HR.out.1.br).on hu) a HWA.out hrd hrd0).mono ?_
       rintro e w' ⟨ao, sn', c, k, rfl, hq⟩
       rcases hq.out with ⟨h1, _⟩ | ⟨f, h1, rfl, rfl, h4, h5, h6⟩
       ·rw [HF1.out.1] at h1; cases h1
       ·rw [HF1.out.1] at h1
        cases h1
        rw [HF1.out.2] at h4 ⊢
        refine ⟨_, _, _, rfl, hidden ⟨h4.low hu.size, h5, (Cf.of_below hu).go h6⟩⟩)
      have HSF : Hid (∀ (F : Nat → Prop) (u : World), Cf F wr u → (∀ q, F q → q ≠ x ∧ Mu x b m b2 m2 rb q) → Sd9 x 0 (pB b) gl r a u) := hidden (fun F u hc hq => ⟨(World.cell?_of_block (hc.block x HXG.out.1 (fun e => (hq x e).1 rfl))).trans c0, (World.cell?_of_block (hc.block gl HXG.out.2 (fun e => HGM.out (hq gl e).2))).trans ck⟩)
      clear hcl hgl hlm hNs ha hMs hf1 hf2 hff hai hwa hpg hls hls2
      go_upto_region 20 with fail
      refine wp_region_held_drew (S := Sd9 x 0 (pB b) gl r a) (by kernel_rfl) (HSF.out (fun _ => False) _ (Cf.of_below (Below.refl _ _).drew) (fun _ e => e.elim)) (fun hHeld => ?_)
      refine wpAnyH_take (i := 0) (v := ?_) rfl (by kernel_rfl) (by kernel_rfl) (by kernel_rfl) (fun _ _ _ h => h) (Or.inl ⟨by rfl, ?_⟩) (by assumption) ?_
      rotate_left
      ·(intro w hSw; obtain ⟨q0, q1⟩ := hSw; go_simp; try (with_reducible rfl))
      try simp only [Act.put, List.getElem_toArray, List.getElem_cons_zero, List.setIfInBounds_toArray, List.set_cons_zero, List.set_cons_succ]
      refine wpAnyH_take (i := 1) (v := ?_) rfl (by kernel_rfl) (by kernel_rfl) (by kernel_rfl) (fun _ _ _ h => h) (Or.inl ⟨by rfl, ?_⟩) (by assumption) ?_
      rotate_left
      ·(intro w hSw; obtain ⟨q0, q1⟩ := hSw; go_simp; try (with_reducible rfl))
      try simp only [Act.put, List.getElem_toArray, List.getElem_cons_succ, List.getElem_cons_zero, List.setIfInBounds_toArray, List.set_cons_zero, List.set_cons_succ]
      refine wpAnyH_take (i := 2) (v := ?_) rfl (by kernel_rfl) (by kernel_rfl) (by kernel_rfl) (fun _ _ _ h => h) (Or.inl ⟨by rfl, ?_⟩) (by assumption) ?_
      rotate_left
      ·(intro w hSw; obtain ⟨q0, q1⟩ := hSw; go_simp; try (with_reducible rfl))
      try simp only [Act.put, List.getElem_toArray, List.getElem_cons_succ, List.getElem_cons_zero, List.setIfInBounds_toArray, List.set_cons_zero, List.set_cons_succ]
      refine wpAnyH_take (i := 3) (v := ?_) rfl (by kernel_rfl) (by kernel_rfl) (by kernel_rfl) (fun _ _ _ h => h) (Or.inl ⟨by rfl, ?_⟩) (by assumption) ?_
      rotate_left
      ·(intro w hSw; obtain ⟨q0, q1⟩ := hSw; go_simp; try (with_reducible rfl))
      try simp only [Act.put, List.getElem_toArray, List.getElem_cons_succ, List.getElem_cons_zero, List.setIfInBounds_toArray, List.set_cons_zero, List.set_cons_succ]
      refine wpAnyH_take (i := 4) (v := ?_) rfl (by kernel_rfl) (by kernel_rfl) (by kernel_rfl) (fun _ _ _ h => h) (Or.inl ⟨by rfl, ?_⟩) (by assumption) ?_
      rotate_left
      ·(intro w hSw; obtain ⟨q0, q1⟩ := hSw; go_simp; try (with_reducible rfl))
      try simp only [Act.put, List.getElem_toArray, List.getElem_cons_succ, List.getElem_cons_zero, List.setIfInBounds_toArray, List.set_cons_zero, List.set_cons_succ]
      refine wpAnyH_take (i := 5) (v := ?_) rfl (by kernel_rfl) (by kernel_rfl) (by kernel_rfl) (fun _ _ _ h => h) (Or.inl ⟨by rfl, ?_⟩) (by assumption) ?_
      rotate_left
      ·(intro w hSw; obtain ⟨q0, q1⟩ := hSw; go_simp; try (with_reducible rfl))
      try simp only [Act.put, List.getElem_toArray, List.getElem_cons_succ, List.getElem_cons_zero, List.setIfInBounds_toArray, List.set_cons_zero, List.set_cons_succ]
      refine wpAnyH_take (i := 6) (v := ?_) rfl (by kernel_rfl) (by kernel_rfl) (by kernel_rfl) (fun _ _ _ h => h) (Or.inl ⟨by rfl, ?_⟩) (by assumption) ?_
      rotate_left
      ·(intro w hSw; obtain ⟨q0, q1⟩ := hSw; go_simp; try (with_reducible rfl))
      try simp only [Act.put, List.getElem_toArray, List.getElem_cons_succ, List.getElem_cons_zero, List.setIfInBounds_toArray, List.set_cons_zero, List.set_cons_succ]
      refine wpAnyH_take (i := 7) (v := ?_) rfl (by kernel_rfl) (by kernel_rfl) (by kernel_rfl) (fun _ _ _ h => h) (Or.inl ⟨by rfl, ?_⟩) (by assumption) ?_
      rotate_left
      ·(intro w hSw; obtain ⟨q0, q1⟩ := hSw; go_simp; try (with_reducible rfl))
      try simp only [Act.put, List.getElem_toArray, List.getElem_cons_succ, List.getElem_cons_zero, List.setIfInBounds_toArray, List.set_cons_zero, List.set_cons_succ]
      refine wpAnyH_ready (rs := [8]) (by kernel_rfl) (by simp) ?_
      refine AllReadyH.cons rfl (fun K hK => ?_) AllReadyH.nil
      go_simp
      go_at_call 9
      refine (HR1.out _ (Below.refl _ _).drew).mono ?_
      rintro e v2 ⟨ao, an, ac, rfl, HA⟩
      dsimp only
      refine hK.out _ _ (HSF.out _ _ HA.out.2.2 (fun q e => ⟨fun h => (HR.out.1.d1).1 (h.symm.trans e), Mu_r q (.inl e)⟩)) (fun hHeld => ?_)
      clear hK K
      try simp only [Act.put, List.getElem_toArray, List.getElem_cons_succ, List.getElem_cons_zero, List.setIfInBounds_toArray, List.set_cons_zero, List.set_cons_succ]
      refine wpAnyH_take (i := 9) (v := ?_) rfl (by kernel_rfl) (by kernel_rfl) (by kernel_rfl) (fun _ _ _ h => h) (Or.inl ⟨by rfl, ?_⟩) (by assumption) ?_
      rotate_left
      ·(intro w hSw; obtain ⟨q0, q1⟩ := hSw; go_simp; try (with_reducible rfl))
      try simp only [Act.put, List.getElem_toArray, List.getElem_cons_succ, List.getElem_cons_zero, List.setIfInBounds_toArray, List.set_cons_zero, List.set_cons_succ]
      refine wpAnyH_take (i := 10) (v := ?_) rfl (by kernel_rfl) (by kernel_rfl) (by kernel_rfl) (fun _ _ _ h => h) (Or.inl ⟨by rfl, ?_⟩) (by assumption) ?_
      rotate_left
      ·(intro w hSw; obtain ⟨q0, q1⟩ := hSw; go_simp; try (with_reducible rfl))
      try simp only [Act.put, List.getElem_toArray, List.getElem_cons_succ, List.getElem_cons_zero, List.setIfInBounds_toArray, List.set_cons_zero, List.set_cons_succ]
      refine wpAnyH_take (i := 11) (v := ?_) rfl (by kernel_rfl) (by kernel_rfl) (by kernel_rfl) (fun _ _ _ h => h) (Or.inl ⟨by rfl, ?_⟩) (by assumption) ?_
      rotate_left
      ·(intro w hSw; obtain ⟨q0, q1⟩ := hSw; go_simp; try (with_reducible rfl))
      try simp only [Act.put, List.getElem_toArray, List.getElem_cons_succ, List.getElem_cons_zero, List.setIfInBounds_toArray, List.set_cons_zero, List.set_cons_succ]
      refine wpAnyH_take (i := 12) (v := ?_) rfl (by kernel_rfl) (by kernel_rfl) (by kernel_rfl) (fun _ _ _ h => h) (Or.inl ⟨by rfl, ?_⟩) (by assumption) ?_
      rotate_left
      ·(intro w hSw; obtain ⟨q0, q1⟩ := hSw; go_simp; try (with_reducible rfl))
      try simp only [Act.put, List.getElem_toArray, List.getElem_cons_succ, List.getElem_cons_zero, List.setIfInBounds_toArray, List.set_cons_zero, List.set_cons_succ]
      refine wpAnyH_take (i := 13) (v := ?_) rfl (by kernel_rfl) (by kernel_rfl) (by kernel_rfl) (fun _ _ _ h => h) (Or.inl ⟨by rfl, ?_⟩) (by assumption) ?_
      rotate_left
      ·(intro w hSw; obtain ⟨q0, q1⟩ := hSw; go_simp; try (with_reducible rfl))
      try simp only [Act.put, List.getElem_toArray, List.getElem_cons_succ, List.getElem_cons_zero, List.setIfInBounds_toArray, List.set_cons_zero, List.set_cons_succ]
      refine wpAnyH_done (by kernel_rfl) ?_ _
      clear hHeld
      clear HR1 HSF
      have HS2 := hidden (HR.out.1.readr HA.out.2.1 (HA.out.2.2.wide fun k e => .inl e))
      have d1 := HS2.out.cells.2
      have ck2 : v2.cell? ⟨gl, r, none⟩ = some (.int .i64 a) := (World.cell?_of_block (HA.out.2.2.block gl HXG.out.2 (fun e => HGM.out (Mu_r gl (.inl e))))).trans ck
      have HXG2 : Hid (x < v2.heap.size ∧ gl < v2.heap.size) := hidden ⟨Nat.lt_of_lt_of_le HXG.out.1 HA.out.2.2.size, Nat.lt_of_lt_of_le HXG.out.2 HA.out.2.2.size⟩
      have HR2 : Hid (∀ u, Below v2.heap.size v2 u → Calls Tryd.prog 9 #[pB b2, .int .i64 a] u fun e w' => ∃ ao sn c, e = .returned (.tuple #[.slice ao sn c, .int .i64 0]) ∧ Hid (OwnB w' v2.heap.size (.slice ao sn c) ls ∧ Bn w' b2 m2 2 (P : Int) ((T : Int) + 2) (rd + (r : Int) + 1) N ct ∧ Cf (· = b2) v2 w')) := hidden (fun u hu => by
       refine (bread_any ((HS2.out.bd).on hu) a HWA.out hrd hrd0).mono ?_
       rintro e w' ⟨ao, sn', c, k, rfl, hq⟩
       rcases hq.out with ⟨h1, _⟩ | ⟨f, h1, rfl, rfl, h4, h5, h6⟩
       ·rw [HF2.out.1] at h1; cases h1
       ·rw [HF2.out.1] at h1
        cases h1
        rw [HF2.out.2] at h4 ⊢
        refine ⟨_, _, _, rfl, hidden ⟨h4.low hu.size, h5, (Cf.of_below hu).go h6⟩⟩)
      have HSF2 : Hid (∀ (F : Nat → Prop) (u : World), Cf F v2 u → (∀ q, F q → q ≠ x ∧ Mu x b m b2 m2 rb q) → Sd9 x 1 (pB b2) gl r a u) := hidden (fun F u hc hq => ⟨(World.cell?_of_block (hc.block x HXG2.out.1 (fun e => (hq x e).1 rfl))).trans d1, (World.cell?_of_block (hc.block gl HXG2.out.2 (fun e => HGM.out (hq gl e).2))).trans ck2⟩)
      clear c0 c1 ck
      go_upto_region 21 with fail
      refine wp_region_held_drew (S := Sd9 x 1 (pB b2) gl r a) (by kernel_rfl) (HSF2.out (fun _ => False) _ (Cf.of_below (Below.refl _ _).drew) (fun _ e => e.elim)) (fun hHeld => ?_)
      refine wpAnyH_take (i := 0) (v := ?_) rfl (by kernel_rfl) (by kernel_rfl) (by kernel_rfl) (fun _ _ _ h => h) (Or.inl ⟨by rfl, ?_⟩) (by assumption) ?_
      rotate_left
      ·(intro w hSw; obtain ⟨q0, q1⟩ := hSw; go_simp; try (with_reducible rfl))
      try simp only [Act.put, List.getElem_toArray, List.getElem_cons_zero, List.setIfInBounds_toArray, List.set_cons_zero, List.set_cons_succ]
      refine wpAnyH_take (i := 1) (v := ?_) rfl (by kernel_rfl) (by kernel_rfl) (by kernel_rfl) (fun _ _ _ h => h) (Or.inl ⟨by rfl, ?_⟩) (by assumption) ?_
      rotate_left
      ·(intro w hSw; obtain ⟨q0, q1⟩ := hSw; go_simp; try (with_reducible rfl))
      try simp only [Act.put, List.getElem_toArray, List.getElem_cons_succ, List.getElem_cons_zero, List.setIfInBounds_toArray, List.set_cons_zero, List.set_cons_succ]
      refine wpAnyH_take (i := 2) (v := ?_) rfl (by kernel_rfl) (by kernel_rfl) (by kernel_rfl) (fun _ _ _ h => h) (Or.inl ⟨by rfl, ?_⟩) (by assumption) ?_
      rotate_left
      ·(intro w hSw; obtain ⟨q0, q1⟩ := hSw; go_simp; try (with_reducible rfl))
      try simp only [Act.put, List.getElem_toArray, List.getElem_cons_succ, List.getElem_cons_zero, List.setIfInBounds_toArray, List.set_cons_zero, List.set_cons_succ]
      refine wpAnyH_take (i := 3) (v := ?_) rfl (by kernel_rfl) (by kernel_rfl) (by kernel_rfl) (fun _ _ _ h => h) (Or.inl ⟨by rfl, ?_⟩) (by assumption) ?_
      rotate_left
      ·(intro w hSw; obtain ⟨q0, q1⟩ := hSw; go_simp; try (with_reducible rfl))
      try simp only [Act.put, List.getElem_toArray, List.getElem_cons_succ, List.getElem_cons_zero, List.setIfInBounds_toArray, List.set_cons_zero, List.set_cons_succ]
      refine wpAnyH_take (i := 4) (v := ?_) rfl (by kernel_rfl) (by kernel_rfl) (by kernel_rfl) (fun _ _ _ h => h) (Or.inl ⟨by rfl, ?_⟩) (by assumption) ?_
      rotate_left
      ·(intro w hSw; obtain ⟨q0, q1⟩ := hSw; go_simp; try (with_reducible rfl))
      try simp only [Act.put, List.getElem_toArray, List.getElem_cons_succ, List.getElem_cons_zero, List.setIfInBounds_toArray, List.set_cons_zero, List.set_cons_succ]
      refine wpAnyH_take (i := 5) (v := ?_) rfl (by kernel_rfl) (by kernel_rfl) (by kernel_rfl) (fun _ _ _ h => h) (Or.inl ⟨by rfl, ?_⟩) (by assumption) ?_
      rotate_left
      ·(intro w hSw; obtain ⟨q0, q1⟩ := hSw; go_simp; try (with_reducible rfl))
      try simp only [Act.put, List.getElem_toArray, List.getElem_cons_succ, List.getElem_cons_zero, List.setIfInBounds_toArray, List.set_cons_zero, List.set_cons_succ]
      refine wpAnyH_take (i := 6) (v := ?_) rfl (by kernel_rfl) (by kernel_rfl) (by kernel_rfl) (fun _ _ _ h => h) (Or.inl ⟨by rfl, ?_⟩) (by assumption) ?_
      rotate_left
      ·(intro w hSw; obtain ⟨q0, q1⟩ := hSw; go_simp; try (with_reducible rfl))
      try simp only [Act.put, List.getElem_toArray, List.getElem_cons_succ, List.getElem_cons_zero, List.setIfInBounds_toArray, List.set_cons_zero, List.set_cons_succ]
      refine wpAnyH_take (i := 7) (v := ?_) rfl (by kernel_rfl) (by kernel_rfl) (by kernel_rfl) (fun _ _ _ h => h) (Or.inl ⟨by rfl, ?_⟩) (by assumption) ?_
      rotate_left
      ·(intro w hSw; obtain ⟨q0, q1⟩ := hSw; go_simp; try (with_reducible rfl))
      try simp only [Act.put, List.getElem_toArray, List.getElem_cons_succ, List.getElem_cons_zero, List.setIfInBounds_toArray, List.set_cons_zero, List.set_cons_succ]
      refine wpAnyH_ready (rs := [8]) (by kernel_rfl) (by simp) ?_
      refine AllReadyH.cons rfl (fun K hK => ?_) AllReadyH.nil
      go_simp
      go_at_call 9
      refine (HR2.out _ (Below.refl _ _).drew).mono ?_
      rintro e v3 ⟨eo, en, ec, rfl, HE⟩
      dsimp only
      refine hK.out _ _ (HSF2.out _ _ HE.out.2.2 (fun q e => ⟨fun h => (HS2.out.d1).2.2.1 (h.symm.trans e), Mu_d q (.inl e)⟩)) (fun hHeld => ?_)
      clear hK K
      try simp only [Act.put, List.getElem_toArray, List.getElem_cons_succ, List.getElem_cons_zero, List.setIfInBounds_toArray, List.set_cons_zero, List.set_cons_succ]
      refine wpAnyH_take (i := 9) (v := ?_) rfl (by kernel_rfl) (by kernel_rfl) (by kernel_rfl) (fun _ _ _ h => h) (Or.inl ⟨by rfl, ?_⟩) (by assumption) ?_
      rotate_left
      ·(intro w hSw; obtain ⟨q0, q1⟩ := hSw; go_simp; try (with_reducible rfl))
      try simp only [Act.put, List.getElem_toArray, List.getElem_cons_succ, List.getElem_cons_zero, List.setIfInBounds_toArray, List.set_cons_zero, List.set_cons_succ]
      refine wpAnyH_take (i := 10) (v := ?_) rfl (by kernel_rfl) (by kernel_rfl) (by kernel_rfl) (fun _ _ _ h => h) (Or.inl ⟨by rfl, ?_⟩) (by assumption) ?_
      rotate_left
      ·(intro w hSw; obtain ⟨q0, q1⟩ := hSw; go_simp; try (with_reducible rfl))
      try simp only [Act.put, List.getElem_toArray, List.getElem_cons_succ, List.getElem_cons_zero, List.setIfInBounds_toArray, List.set_cons_zero, List.set_cons_succ]
      refine wpAnyH_take (i := 11) (v := ?_) rfl (by kernel_rfl) (by kernel_rfl) (by kernel_rfl) (fun _ _ _ h => h) (Or.inl ⟨by rfl, ?_⟩) (by assumption) ?_
      rotate_left
      ·(intro w hSw; obtain ⟨q0, q1⟩ := hSw; go_simp; try (with_reducible rfl))
      try simp only [Act.put, List.getElem_toArray, List.getElem_cons_succ, List.getElem_cons_zero, List.setIfInBounds_toArray, List.set_cons_zero, List.set_cons_succ]
      refine wpAnyH_take (i := 12) (v := ?_) rfl (by kernel_rfl) (by kernel_rfl) (by kernel_rfl) (fun _ _ _ h => h) (Or.inl ⟨by rfl, ?_⟩) (by assumption) ?_
      rotate_left
      ·(intro w hSw; obtain ⟨q0, q1⟩ := hSw; go_simp; try (with_reducible rfl))
      try simp only [Act.put, List.getElem_toArray, List.getElem_cons_succ, List.getElem_cons_zero, List.setIfInBounds_toArray, List.set_cons_zero, List.set_cons_succ]
      refine wpAnyH_take (i := 13) (v := ?_) rfl (by kernel_rfl) (by kernel_rfl) (by kernel_rfl) (fun _ _ _ h => h) (Or.inl ⟨by rfl, ?_⟩) (by assumption) ?_
      rotate_left
      ·(intro w hSw; obtain ⟨q0, q1⟩ := hSw; go_simp; try (with_reducible rfl))
      try simp only [Act.put, List.getElem_toArray, List.getElem_cons_succ, List.getElem_cons_zero, List.setIfInBounds_toArray, List.set_cons_zero, List.set_cons_succ]
      refine wpAnyH_done (by kernel_rfl) ?_ _
      clear hHeld
      clear HR2 HSF2 d1 ck2
      have HS3 := hidden (HS2.out.readd HE.out.2.1 (HE.out.2.2.wide fun k e => .inl e))
      have HA3 : Hid (OwnB v3 wr.heap.size (.slice ao an ac) ls) := hidden (HA.out.1.cf HE.out.2.2 (fun k hk e => by
       have h1 := (HA.out.1.blk hk).1
       have h2 := (HR.out.1.lts (k := b2) (.inl (.inr (.inr (.inr (.inl rfl)))))).1
       omega))
      obtain ⟨S, hS⟩ : ∃ S, strOfNums ls = S := ⟨_, rfl⟩
      have kb1 : (convert 33 9 (.slice ao an ac)).run Tryd.prog v3 = .ok (.string S) v3 := by rw [← hS]; exact conv_sl (HA3.out.sl2 HWL.out.1 HWL.out.2)
      have kb2 : (convert 33 9 (.slice eo en ec)).run Tryd.prog v3 = .ok (.string S) v3 := by rw [← hS]; exact conv_sl (HE.out.1.sl2 HWL.out.1 HWL.out.2)
      have eS : (S.toList == S.toList) = true := by simp
      have eN : (S.toList != S.toList) = false := by simp
      have HNX : Hid (Sq9 v3 w.heap.size x b m b2 m2 P T (rd + ((r + 1 : Nat) : Int)) (rd + ((r + 1 : Nat) : Int)) M N ct ct K rb R ∧ Cf (Mu x b m b2 m2 rb) w5 v3) := hidden ⟨by rw [show rd + ((r + 1 : Nat) : Int) = rd + (r : Int) + 1 by omega]; exact HS3.out, (HR.out.2.go (HA.out.2.2.wide fun k e => Mu_r k (.inl e))).go (HE.out.2.2.wide fun k e => Mu_d k (.inl e))⟩
      clear HA3 HS3 HS2 HA HE hS
      go_wp2_with fail
      go_roundw
      case rel => exact ⟨r + 1, by omega, by go_num, HNX⟩
      case measure => simp [intOf]; omega
     ·obtain rfl : r = ln := by omega
      have hlI2 : ¬ (r : Int) < (r : Int) := by omega
      have HPE : Hid (Pp9 wr w.heap.size x b m b2 m2 P T (j + 1)) := hidden (by
       have q1 := HLE.out
       exact ⟨rd + (r : Int), M, N, ct, K, rb, R, FL, its, lss, HR.out.1, HCO.out, HIT.out.moreK ((Cf.of_below HB5.out).go HR.out.2) HS1.out (fun _ e => e), by omega, by omega, by omega, by omega, by omega⟩)
      have HCE : Hid (Cf (w.heap.size ≤ ·) w wr) := hidden ((HQ.out.2.go (Cf.of_below HB5.out)).go (HR.out.2.wide fun k e => (HS1.out.lts e).2))
      have HOW := hidden (own9 HPE.out (by omega))
      go_wp2_with (first
       | (go_at_call 10; refine HOW.out.mono ?_; rintro e w9 ⟨rfl, HC9⟩; refine Hid.out ?_))
      apply hidden
      clear HOW
      go_wp2
      go_ret
      exact ⟨rfl, (HCE.out.go HC9.out).below (Nat.le_refl _) (fun k hk e => by omega)⟩
 ·have HNB : Hid (∀ u : World, Calls Tryd.prog 5 #[.int .i64 2, .int .i64 pg, .int .i64 ps] u fun e u' => e = .returned (.pointer none) ∧ u' = u) := hidden (fun u => newBench_no2 u pg ps hok)
  obtain ⟨x, hxs⟩ : ∃ x, w1.heap.size = x := ⟨_, rfl⟩
  obtain ⟨z, hz⟩ : ∃ z, w1.alloc (.cells #[.pointer none, .pointer none, .slice none 0 0, .slice none 0 0, .slice none 0 0, .slice none 0 0, .slice none 0 0] 32) = z := ⟨_, rfl⟩
  have hbz : Below w1.heap.size w1 z := by rw [← hz]; exact bl_al (Below.refl _ _) (Nat.le_refl _) _
  have c0 : z.cell? ⟨x, 0, none⟩ = some (.pointer none) := by rw [← hz, ← hxs]; simp
  have HBZ := hidden (bl_go HB1.out (Nat.le_refl _) hbz)
  clear hok hbz
  go_wp2_with (first
   | (go_at_call 5; refine same_call (HNB.out _) ?_))
  go_ret
  exact ⟨rfl, HBZ.out⟩
end Go.Proofs.YtoejadhlkamcjaaDoor
