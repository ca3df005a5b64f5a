import Derived.Test.YtoejadhlkamcjaaDoorJ37
import Derived.Deep.RegionHeld
import Derived.Deep.Cut
import Derived.Test.YtoejadhlkamcjaaDoorJ38
import Derived.Test.YtoejadhlkamcjaaDoorJ39
import Derived.Test.YtoejadhlkamcjaaDoorJ40
import Derived.Test.YtoejadhlkamcjaaDoorJ41
import Derived.Test.YtoejadhlkamcjaaDoorJ42
import Derived.Test.YtoejadhlkamcjaaDoorJ43
import Derived.BigQuiet
namespace Go.Proofs.YtoejadhlkamcjaaDoor
set_option maxRecDepth 100000
open Go.RowKit Go.Maps
set_option maxHeartbeats 8000000 in
theorem play_7 {w : World} {B x b m b2 m2 P T t : Nat} (h : Pp9 w B x b m b2 m2 P T t) (ht : t ≤ 1100000) (hT : T ≤ 65534) (hp : pw P) (htb : Tab w) (hB0 : 0 < B) (k f n fr to : Int) (vo : Option Addr) (vn vc : Nat) (v : List Int)
  (hf : -9223372036854775808 ≤ f ∧ f ≤ 9223372036854775807) (hv : Sl w vo vn vc v) (hvb : vn = 0 ∨ ∀ p, vo = some p → p.block < B) (_ : vn ≤ 200000) (hk : k = 7) :
  Calls Tryd.prog 6 #[.pointer (some ⟨x, 0, none⟩), opV k f n fr to vo vn vc] w fun e u => e = .returned (.bool true) ∧ Hid (Pp9 u B x b m b2 m2 P T (t + 1) ∧ Cf (B ≤ ·) w u) := by
 subst hk
 obtain ⟨rd, M, N, ct, K, rb, R, FL, its, lss, hs, hco, hit, l1, l2, l3, hr0, hr1⟩ := h
 have hwf := fsN_wf hit.fl (wf64 f hf.1 hf.2)
 obtain ⟨z, hz⟩ : ∃ z, w.alloc (.cells #[.int .i64 7, .int .i64 f, .int .i64 n, .int .i64 fr, .int .i64 to, .slice vo vn vc] 35) = z := ⟨_, rfl⟩
 have hbz : Below w.heap.size w z := by rw [← hz]; exact bl_al (Below.refl _ _) (Nat.le_refl _) _
 obtain ⟨s, hs0⟩ : ∃ s, w.heap.size = s := ⟨_, rfl⟩
 have g0 : z.cell? ⟨s, 0, none⟩ = some (.int .i64 7) := by rw [← hz, ← hs0]; simp
 have g1 : z.cell? ⟨s, 1, none⟩ = some (.int .i64 f) := by rw [← hz, ← hs0]; simp
 have g2 : z.cell? ⟨s, 2, none⟩ = some (.int .i64 n) := by rw [← hz, ← hs0]; simp
 have g3 : z.cell? ⟨s, 3, none⟩ = some (.int .i64 fr) := by rw [← hz, ← hs0]; simp
 have g4 : z.cell? ⟨s, 4, none⟩ = some (.int .i64 to) := by rw [← hz, ← hs0]; simp
 have g5 : z.cell? ⟨s, 5, none⟩ = some (.slice vo vn vc) := by rw [← hz, ← hs0]; simp
 have hzs : s < z.heap.size := by rw [← hz, ← hs0]; simp
 have HFI := hidden (first9 (hs.on hbz) FL hit.r0 (by omega) 7 f n fr to vo vn vc hf)
 obtain ⟨n0, hn0⟩ : ∃ n0, fsN FL f = n0 := ⟨_, rfl⟩
 rw [hn0] at HFI hwf
 have HN0 := hidden hwf
 have H := hidden hs
 have HCO := hidden hco
 have HIT := hidden hit
 have HLE := hidden (And.intro l1 (And.intro l2 (And.intro l3 (And.intro hr0 hr1))))
 have HBZ := hidden hbz
 have HSW := hidden hs0
 have HMS : Hid (∀ q, Mu x b m b2 m2 rb q → q < s ∧ B ≤ q) := hidden (fun q hq => by have := hs.lts hq; omega)
 have HKS : Hid (∀ q, K q → q < s) := hidden (fun q hq => by have := (hs.kl q hq).1; omega)
 have HG : Hid (∀ i v, z.cell? ⟨s, i, none⟩ = some v → ∀ u, Below z.heap.size z u → u.cell? ⟨s, i, none⟩ = some v) := hidden (fun i v e u hu => (hu.cell (p := ⟨s, i, none⟩) hzs).trans e)
 have HG0 := hidden (And.intro g0 (And.intro g1 (And.intro g2 (And.intro g3 (And.intro g4 g5)))))
 have HZS := hidden hzs
 have HV := hidden hv
 have HVB := hidden hvb
 have HTB := hidden htb
 have HPW := hidden hp
 have hBw : B ≤ w.heap.size := Nat.le_trans hs.hB.1 (Nat.le_of_lt (lt_some hs.row))
 have HBS := hidden hBw
 clear hs hco hit hwf hn0 hbz hzs l1 l2 l3 hv hvb htb hp hBw
 go_enter Tryd.func6, Tryd.ntmps6
 go_wp2_with (first
  | (go_at_call 19; refine HFI.out.mono ?_; rintro e v1 ⟨rfl, HV1⟩; refine Hid.out ?_))
 apply hidden
 have HB1 : Hid (Below w.heap.size w v1) := hidden (bl_go HBZ.out (Nat.le_refl _) HV1.out)
 have HS1 : Hid (Sq9 v1 B x b m b2 m2 P T rd rd M N ct ct K rb R) := hidden (H.out.on HB1.out)
 have HSV : Hid (s < v1.heap.size) := hidden (Nat.lt_of_lt_of_le HZS.out HV1.out.size)
 obtain ⟨y0, y1, y2, y3, y4, y5⟩ := HG0.out
 have j0 := HG.out 0 _ y0 v1 HV1.out
 have j1 := HG.out 1 _ y1 v1 HV1.out
 have j2 := HG.out 2 _ y2 v1 HV1.out
 have j3 := HG.out 3 _ y3 v1 HV1.out
 have j4 := HG.out 4 _ y4 v1 HV1.out
 have j5 := HG.out 5 _ y5 v1 HV1.out
 have HT1 : Hid (Tab v1) := hidden (HTB.out.on HB1.out (by have := HBS.out; omega))
 have h01 : 0 < v1.heap.size := Nat.lt_of_le_of_lt (Nat.zero_le _) HSV.out
 have HV9 : Hid (Sl v1 vo vn vc v) := hidden (HV.out.on (Nat.le_refl _) HB1.out)
 have hrd : rd < 2305843009213693952 := by have := HLE.out.2.2.2.2; omega
 have hrd0 : 0 ≤ rd := HLE.out.2.2.2.1
 have HJ : Hid (∀ (F : Nat → Prop) (u : World), Cf F v1 u → (∀ q, F q → Mu x b m b2 m2 rb q) → ∀ i v, v1.cell? ⟨s, i, none⟩ = some v → u.cell? ⟨s, i, none⟩ = some v) := hidden (fun F u hc hF i v e => (World.cell?_of_block (hc.block s HSV.out (fun q => by have := (HMS.out s (hF s q)).1; omega))).trans e)
 clear HFI HG HG0 HV1 y0 y1 y2 y3 y4 y5 g0 g1 g2 g3 g4 g5 hz HSW
 obtain ⟨c0, c1⟩ := HS1.out.cells
 have HQ9 := hidden (turn9 HS1.out HCO.out FL HIT.out.r0 (by have := HLE.out.1; omega) HIT.out.fl hT 7 f n fr to vo vn vc hf (by have := hrd; omega) hrd0)
 clear c0 c1
 go_wp2_with (first
  | (go_at_call 28; refine HQ9.out.mono ?_; rintro e v2 ⟨rfl, HQ⟩; refine Hid.out ?_))
 apply hidden
 clear HQ9
 have HF : Hid (Pp9 v2 B x b m b2 m2 P T (t + 1) ∧ Cf (B ≤ ·) w v2) := hidden (by
  obtain ⟨rd', M', N', ct', K', p1, p2, p3, p4, p5, p6⟩ := HQ.out
  have hcw := (Cf.of_below HB1.out).go p4
  have q1 := HLE.out
  exact ⟨⟨rd', M', N', ct', K', rb, _, FL, its, lss, p1, p2, HIT.out.moreK hcw H.out p3, by omega, by omega, by omega, by omega, by omega⟩, Cf.muB H.out hcw (fun _ e => e)⟩)
 clear HQ
 go_wp2
 go_ret
 exact ⟨rfl, HF⟩
end Go.Proofs.YtoejadhlkamcjaaDoor

namespace Go.Proofs.YtoejadhlkamcjaaDoor
set_option maxRecDepth 100000
open Go.RowKit Go.Maps
set_option maxHeartbeats 8000000 in
theorem play_8 {w : World} {B x b m b2 m2 P T t : Nat} (h : Pp9 w B x b m b2 m2 P T t) (ht : t ≤ 1100000) (hT : T ≤ 65534) (hp : pw P) (htb : Tab w) (hB0 : 0 < B) (k f n fr to : Int) (vo : Option Addr) (vn vc : Nat) (v : List Int)
  (hf : -9223372036854775808 ≤ f ∧ f ≤ 9223372036854775807) (hv : Sl w vo vn vc v) (hvb : vn = 0 ∨ ∀ p, vo = some p → p.block < B) (_ : vn ≤ 200000) (hk : k = 8) :
  Calls Tryd.prog 6 #[.pointer (some ⟨x, 0, none⟩), opV k f n fr to vo vn vc] w fun e u => e = .returned (.bool true) ∧ Hid (Pp9 u B x b m b2 m2 P T (t + 1) ∧ Cf (B ≤ ·) w u) := by
 subst hk
 obtain ⟨rd, M, N, ct, K, rb, R, FL, its, lss, hs, hco, hit, l1, l2, l3, hr0, hr1⟩ := h
 have hwf := fsN_wf hit.fl (wf64 f hf.1 hf.2)
 obtain ⟨z, hz⟩ : ∃ z, w.alloc (.cells #[.int .i64 8, .int .i64 f, .int .i64 n, .int .i64 fr, .int .i64 to, .slice vo vn vc] 35) = z := ⟨_, rfl⟩
 have hbz : Below w.heap.size w z := by rw [← hz]; exact bl_al (Below.refl _ _) (Nat.le_refl _) _
 obtain ⟨s, hs0⟩ : ∃ s, w.heap.size = s := ⟨_, rfl⟩
 have g0 : z.cell? ⟨s, 0, none⟩ = some (.int .i64 8) := by rw [← hz, ← hs0]; simp
 have g1 : z.cell? ⟨s, 1, none⟩ = some (.int .i64 f) := by rw [← hz, ← hs0]; simp
 have g2 : z.cell? ⟨s, 2, none⟩ = some (.int .i64 n) := by rw [← hz, ← hs0]; simp
 have g3 : z.cell? ⟨s, 3, none⟩ = some (.int .i64 fr) := by rw [← hz, ← hs0]; simp
 have g4 : z.cell? ⟨s, 4, none⟩ = some (.int .i64 to) := by rw [← hz, ← hs0]; simp
 have g5 : z.cell? ⟨s, 5, none⟩ = some (.slice vo vn vc) := by rw [← hz, ← hs0]; simp
 have hzs : s < z.heap.size := by rw [← hz, ← hs0]; simp
 have HFI := hidden (first9 (hs.on hbz) FL hit.r0 (by omega) 8 f n fr to vo vn vc hf)
 obtain ⟨n0, hn0⟩ : ∃ n0, fsN FL f = n0 := ⟨_, rfl⟩
 rw [hn0] at HFI hwf
 have HN0 := hidden hwf
 have H := hidden hs
 have HCO := hidden hco
 have HIT := hidden hit
 have HLE := hidden (And.intro l1 (And.intro l2 (And.intro l3 (And.intro hr0 hr1))))
 have HBZ := hidden hbz
 have HSW := hidden hs0
 have HMS : Hid (∀ q, Mu x b m b2 m2 rb q → q < s ∧ B ≤ q) := hidden (fun q hq => by have := hs.lts hq; omega)
 have HKS : Hid (∀ q, K q → q < s) := hidden (fun q hq => by have := (hs.kl q hq).1; omega)
 have HG : Hid (∀ i v, z.cell? ⟨s, i, none⟩ = some v → ∀ u, Below z.heap.size z u → u.cell? ⟨s, i, none⟩ = some v) := hidden (fun i v e u hu => (hu.cell (p := ⟨s, i, none⟩) hzs).trans e)
 have HG0 := hidden (And.intro g0 (And.intro g1 (And.intro g2 (And.intro g3 (And.intro g4 g5)))))
 have HZS := hidden hzs
 have HV := hidden hv
 have HVB := hidden hvb
 have HTB := hidden htb
 have HPW := hidden hp
 have hBw : B ≤ w.heap.size := Nat.le_trans hs.hB.1 (Nat.le_of_lt (lt_some hs.row))
 have HBS := hidden hBw
 clear hs hco hit hwf hn0 hbz hzs l1 l2 l3 hv hvb htb hp hBw
 go_enter Tryd.func6, Tryd.ntmps6
 go_wp2_with (first
  | (go_at_call 19; refine HFI.out.mono ?_; rintro e v1 ⟨rfl, HV1⟩; refine Hid.out ?_))
 apply hidden
 have HB1 : Hid (Below w.heap.size w v1) := hidden (bl_go HBZ.out (Nat.le_refl _) HV1.out)
 have HS1 : Hid (Sq9 v1 B x b m b2 m2 P T rd rd M N ct ct K rb R) := hidden (H.out.on HB1.out)
 have HSV : Hid (s < v1.heap.size) := hidden (Nat.lt_of_lt_of_le HZS.out HV1.out.size)
 obtain ⟨y0, y1, y2, y3, y4, y5⟩ := HG0.out
 have j0 := HG.out 0 _ y0 v1 HV1.out
 have j1 := HG.out 1 _ y1 v1 HV1.out
 have j2 := HG.out 2 _ y2 v1 HV1.out
 have j3 := HG.out 3 _ y3 v1 HV1.out
 have j4 := HG.out 4 _ y4 v1 HV1.out
 have j5 := HG.out 5 _ y5 v1 HV1.out
 have HT1 : Hid (Tab v1) := hidden (HTB.out.on HB1.out (by have := HBS.out; omega))
 have h01 : 0 < v1.heap.size := Nat.lt_of_le_of_lt (Nat.zero_le _) HSV.out
 have HV9 : Hid (Sl v1 vo vn vc v) := hidden (HV.out.on (Nat.le_refl _) HB1.out)
 have hrd : rd < 2305843009213693952 := by have := HLE.out.2.2.2.2; omega
 have hrd0 : 0 ≤ rd := HLE.out.2.2.2.1
 have HJ : Hid (∀ (F : Nat → Prop) (u : World), Cf F v1 u → (∀ q, F q → Mu x b m b2 m2 rb q) → ∀ i v, v1.cell? ⟨s, i, none⟩ = some v → u.cell? ⟨s, i, none⟩ = some v) := hidden (fun F u hc hF i v e => (World.cell?_of_block (hc.block s HSV.out (fun q => by have := (HMS.out s (hF s q)).1; omega))).trans e)
 clear HFI HG HG0 HV1 y0 y1 y2 y3 y4 y5 g0 g1 g2 g3 g4 g5 hz HSW
 obtain ⟨c0, c1⟩ := HS1.out.cells
 have HQ9 := hidden (turn9 HS1.out HCO.out FL HIT.out.r0 (by have := HLE.out.1; omega) HIT.out.fl hT 8 f n fr to vo vn vc hf (by have := hrd; omega) hrd0)
 clear c0 c1
 go_wp2_with (first
  | (go_at_call 28; refine HQ9.out.mono ?_; rintro e v2 ⟨rfl, HQ⟩; refine Hid.out ?_))
 apply hidden
 clear HQ9
 have HF : Hid (Pp9 v2 B x b m b2 m2 P T (t + 1) ∧ Cf (B ≤ ·) w v2) := hidden (by
  obtain ⟨rd', M', N', ct', K', p1, p2, p3, p4, p5, p6⟩ := HQ.out
  have hcw := (Cf.of_below HB1.out).go p4
  have q1 := HLE.out
  exact ⟨⟨rd', M', N', ct', K', rb, _, FL, its, lss, p1, p2, HIT.out.moreK hcw H.out p3, by omega, by omega, by omega, by omega, by omega⟩, Cf.muB H.out hcw (fun _ e => e)⟩)
 clear HQ
 go_wp2
 go_ret
 exact ⟨rfl, HF⟩
end Go.Proofs.YtoejadhlkamcjaaDoor

namespace Go.Proofs.YtoejadhlkamcjaaDoor
set_option maxRecDepth 100000
open Go.RowKit Go.Maps
theorem play9 {w : World} {B x b m b2 m2 P T t : Nat} (h : Pp9 w B x b m b2 m2 P T t) (ht : t ≤ 1100000) (hT : T ≤ 65534) (hp : pw P) (htb : Tab w) (hB0 : 0 < B) (k f n fr to : Int) (vo : Option Addr) (vn vc : Nat) (v : List Int)
  (hf : -9223372036854775808 ≤ f ∧ f ≤ 9223372036854775807) (hv : Sl w vo vn vc v) (hvb : vn = 0 ∨ ∀ p, vo = some p → p.block < B) (hvn : vn ≤ 200000) :
  Calls Tryd.prog 6 #[.pointer (some ⟨x, 0, none⟩), opV k f n fr to vo vn vc] w fun e u => e = .returned (.bool true) ∧ Hid (Pp9 u B x b m b2 m2 P T (t + 1) ∧ Cf (B ≤ ·) w u) := by
 by_cases h1 : k = 1
 ·exact play_1 h ht hT hp htb hB0 k f n fr to vo vn vc v hf hv hvb hvn h1
 by_cases h2 : k = 2
 ·exact play_2 h ht hT hp htb hB0 k f n fr to vo vn vc v hf hv hvb hvn h2
 by_cases h3 : k = 3
 ·exact play_3 h ht hT hp htb hB0 k f n fr to vo vn vc v hf hv hvb hvn h3
 by_cases h4 : k = 4
 ·exact play_4 h ht hT hp htb hB0 k f n fr to vo vn vc v hf hv hvb hvn h4
 by_cases h5 : k = 5
 ·exact play_5 h ht hT hp htb hB0 k f n fr to vo vn vc v hf hv hvb hvn h5
 by_cases h6 : k = 6
 ·exact play_6 h ht hT hp htb hB0 k f n fr to vo vn vc v hf hv hvb hvn h6
 by_cases h7 : k = 7
 ·exact play_7 h ht hT hp htb hB0 k f n fr to vo vn vc v hf hv hvb hvn h7
 by_cases h8 : k = 8
 ·exact play_8 h ht hT hp htb hB0 k f n fr to vo vn vc v hf hv hvb hvn h8
 exact play_0 h ht hT hp htb hB0 k f n fr to vo vn vc v hf hv hvb hvn ⟨h1, h2, h3, h4, h5, h6, h7, h8⟩
end Go.Proofs.YtoejadhlkamcjaaDoor

namespace Go.Proofs.YtoejadhlkamcjaaDoor
set_option maxRecDepth 100000
open Go.RowKit Go.Maps
set_option maxHeartbeats 2000000 in
theorem same9d (w : World) (ao bo : Option Addr) (n c c2 : Nat) (l : List Int) (ha : SlJ w ao n c l) (hb : SlJ w bo n c2 l) (hn : n ≤ 4294967296) :
  Calls Tryd.prog 25 #[.slice ao n c, .slice bo n c2] w fun e u => e = .returned (.bool true) ∧ ∃ q, u = w.drewN q := by
 have HA := hidden ha
 have HB := hidden hb
 have hnI : (n : Int) ≤ 4294967296 := by omega
 have hca := ha.hcap
 have hcb := hb.hcap
 clear ha hb
 go_enter Tryd.func25, Tryd.ntmps25
 go_wp2_with fail
 go_loopw [5] (fun i wr => ∃ j : Nat, j ≤ n ∧ i = .int .i64 (j : Int) ∧ Hid (∃ q, wr = w.drewN q)) (fun i _ => n - (intOf i).toNat)
 case atStart => exact ⟨0, by omega, rfl, hidden ⟨0, rfl⟩⟩
 case round =>
  obtain ⟨j, hj, rfl, HW⟩ := hrel
  by_cases hlt : j < n
  ·have hltI : (j : Int) < (n : Int) := by omega
   obtain ⟨g1, rfl, hg1, hc1⟩ : ∃ b, ao = some ⟨b, 0, none⟩ ∧ b < w.heap.size ∧ ∀ i, i < n → w.cell? ⟨b, i, none⟩ = some (.int .i64 (l.getD i 0)) := by
    rcases HA.out.hat with h | h
    ·omega
    ·exact h
   obtain ⟨g2, rfl, hg2, hc2⟩ : ∃ b, bo = some ⟨b, 0, none⟩ ∧ b < w.heap.size ∧ ∀ i, i < n → w.cell? ⟨b, i, none⟩ = some (.int .i64 (l.getD i 0)) := by
    rcases HB.out.hat with h | h
    ·omega
    ·exact h
   have d1 : wr.cell? ⟨g1, j, none⟩ = some (.int .i64 (l.getD j 0)) := by obtain ⟨q, hq⟩ := HW.out; rw [hq]; exact hc1 j hlt
   have d2 : wr.cell? ⟨g2, j, none⟩ = some (.int .i64 (l.getD j 0)) := by obtain ⟨q, hq⟩ := HW.out; rw [hq]; exact hc2 j hlt
   obtain ⟨y, hy⟩ : ∃ y, l.getD j 0 = y := ⟨_, rfl⟩
   rw [hy] at d1 d2
   have eY : (y == y) = true := by simp
   have eN : (y != y) = false := by simp
   clear hc1 hc2 hy hg1 hg2
   go_wp2_with fail
   go_quiet (fail)
   go_wp2
   go_roundw
   case rel => exact ⟨j + 1, by omega, by go_num, hidden (by obtain ⟨q, hq⟩ := HW.out; exact ⟨_, by rw [hq, World.drewN_drewN]⟩)⟩
   case measure => simp [intOf]; omega
  ·obtain rfl : j = n := by omega
   have hlI : ¬ (j : Int) < (j : Int) := by omega
   go_wp2
   go_ret
   exact ⟨rfl, HW.out⟩
theorem SlJ.on9 {w u : World} {ao : Option Addr} {n c : Nat} {l : List Int} (h : SlJ w ao n c l) (hb : Below w.heap.size w u) : SlJ u ao n c l :=
 ⟨h.hlen, h.hcap, h.hat.imp id fun ⟨b, e, hl, hc⟩ => ⟨b, e, Nat.lt_of_lt_of_le hl hb.size, fun i hi => (hb.cell (p := ⟨b, i, none⟩) hl).trans (hc i hi)⟩⟩
end Go.Proofs.YtoejadhlkamcjaaDoor
