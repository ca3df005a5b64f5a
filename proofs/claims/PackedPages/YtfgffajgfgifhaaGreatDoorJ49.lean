import Derived.Test.YtfgffajgfgifhaaGreatDoorJ48
import Derived.Test.YtfgffajgfgifhaaGreatDoorCards
import Derived.Test.YtfgffajgfgifhaaGreatDoorTie
import Derived.WalkKit
import Derived.ProofKit
import Derived.OpenShut
import Derived.Deep.DeepHandedRow
import Derived.Lib.LaidTab
import Derived.ChangeArms
import Derived.DataElems
import Derived.SizedLaws
import Derived.KernelRfl
import Derived.WideShapes
namespace Go.Proofs.YtfgffajgfgifhaaGreatDoor
set_option maxRecDepth 100000
open Go.RowKit
theorem SlO7.item8 {w wr : World} {ao : Option Addr} {n cap : Nat} {os : List Op7} (h : SlO7 w ao n cap os) (hb : Below w.heap.size w wr) (j : Nat) (hj : j < n) : ∃ (b off : Nat) (o : Op7) (ka : Option Addr) (kc : Nat) (va : Option Addr) (vc : Nat) (qa : Option Addr) (qc : Nat), ao = some ⟨b, off, none⟩ ∧ o ∈ os ∧ wr.cell? ⟨b, off + j * 8, none⟩ = some (.int .i64 o.q) ∧ wr.cell? ⟨b, off + j * 8 + 1, none⟩ = some (.int .i64 o.x) ∧ wr.cell? ⟨b, off + j * 8 + 2, none⟩ = some (.slice ka o.c.key.length kc) ∧ wr.cell? ⟨b, off + j * 8 + 3, none⟩ = some (.int .i64 o.c.kd) ∧ wr.cell? ⟨b, off + j * 8 + 4, none⟩ = some (.slice va o.c.val.length vc) ∧ wr.cell? ⟨b, off + j * 8 + 5, none⟩ = some (.int .i64 o.c.pg) ∧ wr.cell? ⟨b, off + j * 8 + 6, none⟩ = some (.int .i64 o.c.ct) ∧ wr.cell? ⟨b, off + j * 8 + 7, none⟩ = some (.slice qa o.key.length qc) ∧ Sl w ka o.c.key.length kc o.c.key ∧ Sl w va o.c.val.length vc o.c.val ∧ Sl w qa o.key.length qc o.key := by
 have hl := h.hlen
 rcases h.hat with h0 | ⟨b, off, e, hlt, hc⟩
 ·omega
 ·obtain ⟨o, ho⟩ : ∃ o, os[j]? = some o := ⟨_, zI (by omega)⟩
  obtain ⟨ka, kc, va, vc, qa, qc, e0, e1, e2, e3, e4, e5, e6, e7, s1, s2, s3⟩ := hc j o ho
  have hm : ∀ i, wr.cell? ⟨b, off + j * 8 + i, none⟩ = w.cell? ⟨b, off + j * 8 + i, none⟩ := fun i => hb.cell (p := ⟨b, off + j * 8 + i, none⟩) hlt
  exact ⟨b, off, o, ka, kc, va, vc, qa, qc, e, List.mem_of_getElem? ho, (hm 0).trans e0, (hm 1).trans e1, (hm 2).trans e2, (hm 3).trans e3, (hm 4).trans e4, (hm 5).trans e5, (hm 6).trans e6, (hm 7).trans e7, s1, s2, s3⟩
theorem Dm.new {w : World} {r : Nat} {k : Int} {n : Nat} (hn : pw n) (h : QD w r k n (.slice none 0 0) (.slice none 0 0) 0) : Dm w (fun _ => False) r k n ⟨[], [], 0⟩ := by
 have hok : Qok k n ⟨[], [], 0⟩ := by
  have hn2 := zai hn
  refine ⟨fun c hc => ?_, List.Pairwise.nil, (fun c hc => by cases hc), (fun c hc => by cases hc), ?_⟩
  ·unfold ktl at hc
   split at hc <;> simp at hc
  ·unfold filQ lvQ
   simp [qbd]
   omega
 exact ⟨none, 0, 0, [], none, 0, 0, ⟨h, ⟨⟨rfl, .inl ⟨rfl, rfl⟩⟩, rfl, (fun g e => by cases e), fun u _ => by simp [Row5]⟩, fun u _ => Sl.nil_any _ _ _ fun _ => rfl, hok, fun e => e, fun b e => e.elim⟩⟩
theorem Kz.new {w : World} {kb : Nat} (h : w.heap[kb]? = some (.cells #[.int .i64 0, .slice none 0 0, .slice none 0 0] 35 (0, 0))) : Kz True w (· = kb) kb 0 0 :=
 ⟨.slice none 0 0, .slice none 0 0, [], [], ⟨h, ⟨rfl, .inl ⟨rfl, rfl⟩⟩, ⟨rfl, .inl ⟨rfl, rfl⟩⟩⟩, rfl, fun _ => ⟨fun _ => [], rfl, (fun t u ht => by simp at ht), (fun t t' u u' ht => by simp at ht)⟩, rfl, rfl, (fun g e => by cases e), (fun g e => by cases e), (fun t u g ht => by simp at ht), fun b e => by subst e; exact zag h⟩
theorem rem5 (j : Nat) : Int.tmod (j : Int) 5 = ((j % 5 : Nat) : Int) := by
 rw [Int.tmod_eq_emod_of_nonneg (by omega)]
 omega
theorem pw_cast7 {n : Int} (h : pw n) : ∃ m : Nat, n = (m : Int) := by
 unfold pw at h
 exact ⟨n.toNat, by omega⟩
theorem new_two {k n : Int} {w1 w2 w3 : World} {po : Option Addr} {c : Int} {xo : Option Addr} {d : Int} (h1 : (po = none ∧ c = 1 ∧ ¬ (isKd k ∧ pw n)) ∨ (po = some ⟨w1.heap.size, 0, none⟩ ∧ c = 0 ∧ isKd k ∧ pw n ∧ w2.heap[w1.heap.size]? = some (.cells #[.int .i64 k, .int .i64 n, .slice none 0 0, .slice none 0 0, .slice none 0 0, .int .i64 0] 63 (0, 0))))
  (h2 : (xo = none ∧ d = 1 ∧ ¬ (isKd k ∧ pw n)) ∨ ∃ r, xo = some ⟨r, 0, none⟩ ∧ d = 0 ∧ isKd k ∧ pw n ∧ w2.heap.size ≤ r ∧ w3.heap[r]? = some (.cells #[.int .i64 k, .int .i64 n, .slice none 0 0, .slice none 0 0, .int .i64 0] 65 (0, 0)))
  (b1 : Below w1.heap.size w1 w2) (b2 : Below w2.heap.size w2 w3) :
  (po = none ∧ c = 1 ∧ xo = none ∧ d = 1) ∨ ∃ (m a r : Nat), n = (m : Int) ∧ po = some ⟨a, 0, none⟩ ∧ c = 0 ∧ xo = some ⟨r, 0, none⟩ ∧ d = 0 ∧ isKd k ∧ pw (m : Int) ∧ Hid (∃ K G, Pr w3 K a G r k m ⟨[], [], 0⟩ ∧ ∀ i, Zp K G r i → w1.heap.size ≤ i ∧ i < w3.heap.size) := by
 rcases h1 with ⟨rfl, rfl, hno⟩ | ⟨rfl, rfl, hk, hn, hrow⟩
 ·rcases h2 with ⟨rfl, rfl, _⟩ | ⟨r, _, _, hk, hn, _⟩
  ·exact .inl ⟨rfl, rfl, rfl, rfl⟩
  ·exact absurd ⟨hk, hn⟩ hno
 ·rcases h2 with ⟨_, _, hno⟩ | ⟨r, rfl, rfl, _, _, hr, hq⟩
  ·exact absurd ⟨hk, hn⟩ hno
  ·obtain ⟨m, rfl⟩ := pw_cast7 hn
   refine .inr ⟨m, w1.heap.size, r, rfl, rfl, rfl, rfl, rfl, hk, hn, zaa ⟨fun b => w1.heap.size ≤ b ∧ b < w2.heap.size, fun _ => False, ⟨(Pk.new hn hrow _ Lr).go b2, Dm.new hn hq, fun e => by omega, fun b _ e => e⟩, fun i e => ?_⟩⟩
   have s1 := b1.size
   have s2 := b2.size
   have s3 := zag hq
   rcases e with e | e | e
   ·exact ⟨e.1, by omega⟩
   ·exact e.elim
   ·exact ⟨by omega, by omega⟩
set_option maxHeartbeats 16000000 in
theorem walk_PackedPages (kd pg ot : Int) (so : Option Addr) (sn sc : Nat) (os : List Op7) (w : World) (ht : Tab w) (h0 : 0 < w.heap.size) (hs : SlO7 w so sn sc os) (hsn : sn ≤ 1256584717421) (hos : ∀ o ∈ os, o.c.key.length ≤ 140737488351232 ∧ o.c.val.length ≤ 140737488351232 ∧ o.key.length ≤ 140737488351232) :
  Calls Tryz.prog 3 #[.int .i64 kd, .int .i64 pg, .int .i64 ot, .slice so sn sc] w fun e w' => e = .returned (.bool true) ∧ Below w.heap.size w w' := by
 have HS := zaa hs
 have HT := zaa ht
 have HL := zaa (live_any w ht h0)
 have HOS := zaa hos
 have H0 := zaa h0
 clear hs ht hos h0
 go_enter Tryz.func3, Tryz.ntmps3
 go_wp2_with (first
  | (go_at_call 5; refine HL.out.mono ?_; rintro e w1 ⟨rfl, hb1⟩; have HB1 := zaa hb1; clear hb1)
  | (go_at_call 6; refine (newQ7_any kd pg _).mono ?_; rintro e w2 ⟨po, cp, rfl, HB2, HQ2⟩; refine Hid.out ?_))
 apply zaa
 clear HL
 go_wp2_with (go_at_call 7; refine (dnew_any kd pg _).mono ?_; rintro e w3 ⟨xo, cx, rfl, HB3, HQ3⟩; refine Hid.out ?_)
 apply zaa
 go_wp2_with (go_at_call 6; refine (newQ7_any ot 512 _).mono ?_; rintro e w4 ⟨qo, cq, rfl, HB4, HQ4⟩; refine Hid.out ?_)
 apply zaa
 go_wp2_with (go_at_call 7; refine (dnew_any ot 512 _).mono ?_; rintro e w5 ⟨yo, cy, rfl, HB5, HQ5⟩; refine Hid.out ?_)
 apply zaa
 have HB15 : Hid (Below w.heap.size w w3 ∧ Below w.heap.size w w5) := zaa ⟨zab (zab HB1.out Lr HB2.out) Lr HB3.out, zab (zab (zab (zab HB1.out Lr HB2.out) Lr HB3.out) Lr HB4.out) Lr HB5.out⟩
 have hp := new_two HQ2.out HQ3.out HB2.out HB3.out
 have hq := new_two HQ4.out HQ5.out HB4.out HB5.out
 clear HQ2 HQ3 HQ4 HQ5
 rcases hp with ⟨rfl, rfl, rfl, rfl⟩ | ⟨n, a, r, rfl, rfl, rfl, rfl, rfl, hk1, hn1, HP1⟩
 ·rcases hq with ⟨rfl, rfl, rfl, rfl⟩ | ⟨l, b, t, hl5, rfl, rfl, rfl, rfl, hk2, hn2, HP2⟩
  ·go_wp2
   go_ret
   exact ⟨rfl, HB15.out.2⟩
  ·clear hl5 hk2 hn2 HP2
   go_wp2
   go_ret
   exact ⟨rfl, HB15.out.2⟩
 rcases hq with ⟨rfl, rfl, rfl, rfl⟩ | ⟨l, b, t, hl5, rfl, rfl, rfl, rfl, hk2, hn2, HP2⟩
 ·clear hk1 hn1 HP1
  go_wp2
  go_ret
  exact ⟨rfl, HB15.out.2⟩
 have HK1 := zaa (And.intro hk1 hn1)
 have HK2 := zaa (And.intro hk2 hn2)
 obtain ⟨w6, hw6⟩ : ∃ w6, w5.alloc (.cells #[.int .i64 0, .slice none 0 0, .slice none 0 0] 35) = w6 := ⟨_, rfl⟩
 obtain ⟨kb, hkb⟩ : ∃ kb, w5.heap.size = kb := ⟨_, rfl⟩
 have HS2 : Hid (S2 True w w6 a r kd n b t ot l kb 0 0) := zaa (by
  have hb6 : Below w5.heap.size w5 w6 := by rw [← hw6]; exact zac Br Lr _
  obtain ⟨K, G, hpr, hz⟩ := HP1.out
  obtain ⟨L, H, hpr2, hz2⟩ := HP2.out
  have s1 := HB1.out.size
  have s3 := HB15.out.1.size
  have s4 := HB4.out.size
  have s5 := HB5.out.size
  have hkz : Kz True w6 (· = kb) kb 0 0 := Kz.new (by rw [← hw6, ← hkb]; exact heap_alloc_last w5 _)
  exact ⟨K, G, ⟨[], [], 0⟩, L, H, ⟨[], [], 0⟩, (· = kb), ⟨((hpr.go HB4.out).go HB5.out).go hb6, hpr2.go hb6, hkz, fun i e f => by have := hz i e; have := hz2 i f; omega, fun i e f => by have := hz i f; omega, fun i e f => by have := hz2 i f; omega, fun i e => by have := hz i e; omega, fun i e => by have := hz2 i e; omega, fun i e => by omega, zab HB15.out.2 Lr hb6⟩⟩)
 clear hk1 hn1 hk2 hn2 HP1 HP2 hl5
 go_upto_region 9 with fail
 try rw [hkb]
 clear hw6 hkb HB1 HB2 HB3 HB4 HB5 HB15
 go_wp2_with fail
 have snI : (sn : Int) ≤ 1256584717421 := by omega
 go_loopw [19] (fun iv wr => ∃ j : Nat, iv = .int .i64 (j : Int) ∧ j ≤ sn ∧ Hid (∃ N P, S2 True w wr a r kd n b t ot l kb N P ∧ N ≤ 3 * j ∧ P ≤ j)) (fun iv _ => sn - (intOf iv).toNat)
 case atStart => exact ⟨0, rfl, by omega, zaa ⟨0, 0, HS2.out, by omega, by omega⟩⟩
 case round =>
  clear HS2
  obtain ⟨j, rfl, hj, HSJ⟩ := hrel
  have jI : (j : Int) ≤ 1256584717421 := by omega
  by_cases hlt : j < sn
  ·have hltI : (j : Int) < (sn : Int) := by omega
   obtain ⟨N, P, hs2, hN, hP⟩ := HSJ.out
   obtain ⟨bo, off, o, ka, kc, va, vc, qa, qc, rfl, hmem, c0, c1, c2, c3, c4, c5, c6, c7, hk, hv, hq⟩ := HS.out.item8 hs2.be j hlt
   have hbd := HOS.out o hmem
   obtain ⟨m5, hm5⟩ : ∃ m5, j % 5 = m5 := ⟨_, rfl⟩
   have hr5 := rem5 j
   rw [hm5] at hr5
   by_cases h4 : m5 = 4
   ·have HST := zaa (hs2.swap.step HK2.out.2 HK2.out.1 HT.out H0.out (by omega) (by omega) o.q o.x o.c ka va qa kc vc qc o.key hk hv hq ⟨⟨hbd.1, hbd.2.1⟩, hbd.2.2⟩)
    subst h4
    have hr5' : Int.tmod (j : Int) 5 = 4 := hr5
    have HNP := zaa (And.intro hN hP)
    clear hs2 hN hP hk hv hq hbd hm5 hr5 hmem HSJ
    go_wp2_with (go_at_call 8; refine HST.out.mono ?_; rintro e w7 ⟨rfl, HS7⟩; refine Hid.out ?_)
    apply zaa
    clear c0 c1 c2 c3 c4 c5 c6 c7 HST hr5'
    go_wp2
    go_roundw
    case rel =>
     obtain ⟨N', P', h1, h2, h3⟩ := HS7.out
     have := HNP.out
     exact ⟨j + 1, by go_num, by omega, zaa ⟨N', P', h1.swap, by omega, by omega⟩⟩
    case measure => simp [intOf]; omega
   ·have HST := zaa (hs2.step HK1.out.2 HK1.out.1 HT.out H0.out (by omega) (by omega) o.q o.x o.c ka va qa kc vc qc o.key hk hv hq ⟨⟨hbd.1, hbd.2.1⟩, hbd.2.2⟩)
    have h4I : ¬ (m5 : Int) = 4 := by omega
    have HNP := zaa (And.intro hN hP)
    clear hs2 hN hP hk hv hq hbd hm5 hmem HSJ h4
    go_wp2_with (go_at_call 8; refine HST.out.mono ?_; rintro e w7 ⟨rfl, HS7⟩; refine Hid.out ?_)
    apply zaa
    clear c0 c1 c2 c3 c4 c5 c6 c7 HST hr5 h4I
    go_wp2
    go_roundw
    case rel =>
     obtain ⟨N', P', h1, h2, h3⟩ := HS7.out
     have := HNP.out
     exact ⟨j + 1, by go_num, by omega, zaa ⟨N', P', h1, by omega, by omega⟩⟩
    case measure => simp [intOf]; omega
  ·have hltI : ¬ (j : Int) < (sn : Int) := by omega
   obtain ⟨N, P, hs2, hN, hP⟩ := HSJ.out
   have HA : Hid (S2 True w wr a r kd n b t ot l kb N P ∧ N ≤ 3769754152263 ∧ P ≤ 1256584717421) := zaa ⟨hs2, by omega, by omega⟩
   have HS1 := zaa (HA.out.1.step0 HK1.out.2 HK1.out.1 HT.out H0.out (by have := HA.out; omega) (by have := HA.out; omega) 8)
   clear hs2 hN hP HSJ
   go_wp2_with (go_at_call 8; refine HS1.out.mono ?_; rintro e z1 ⟨rfl, HZ1⟩; refine Hid.out ?_)
   apply zaa
   clear HS1
   obtain ⟨N1, P1, hz1, hN1, hP1⟩ := HZ1.out
   have HA1 : Hid (S2 True w z1 a r kd n b t ot l kb N1 P1 ∧ N1 ≤ 3769754152266 ∧ P1 ≤ 1256584717422) := zaa ⟨hz1, by have := HA.out; omega, by have := HA.out; omega⟩
   have HS1 := zaa (HA1.out.1.step0 HK1.out.2 HK1.out.1 HT.out H0.out (by have := HA1.out; omega) (by have := HA1.out; omega) 9)
   clear hz1 hN1 hP1 HZ1 HA
   go_wp2_with (go_at_call 8; refine HS1.out.mono ?_; rintro e z2 ⟨rfl, HZ2⟩; refine Hid.out ?_)
   apply zaa
   clear HS1
   obtain ⟨N2, P2, hz2, hN2, hP2⟩ := HZ2.out
   have HA2 : Hid (S2 True w z2 b t ot l a r kd n kb N2 P2 ∧ N2 ≤ 3769754152269 ∧ P2 ≤ 1256584717423) := zaa ⟨hz2.swap, by have := HA1.out; omega, by have := HA1.out; omega⟩
   have HS1 := zaa (HA2.out.1.step0 HK2.out.2 HK2.out.1 HT.out H0.out (by have := HA2.out; omega) (by have := HA2.out; omega) 8)
   clear hz2 hN2 hP2 HZ2 HA1
   go_wp2_with (go_at_call 8; refine HS1.out.mono ?_; rintro e z3 ⟨rfl, HZ3⟩; refine Hid.out ?_)
   apply zaa
   clear HS1
   obtain ⟨N3, P3, hz3, hN3, hP3⟩ := HZ3.out
   have HA3 : Hid (S2 True w z3 b t ot l a r kd n kb N3 P3 ∧ N3 ≤ 3769754152272 ∧ P3 ≤ 1256584717424) := zaa ⟨hz3, by have := HA2.out; omega, by have := HA2.out; omega⟩
   have HS1 := zaa (HA3.out.1.step0 HK2.out.2 HK2.out.1 HT.out H0.out (by have := HA3.out; omega) (by have := HA3.out; omega) 9)
   clear hz3 hN3 hP3 HZ3 HA2
   go_wp2_with (go_at_call 8; refine HS1.out.mono ?_; rintro e z4 ⟨rfl, HZ4⟩; refine Hid.out ?_)
   apply zaa
   clear HS1
   obtain ⟨N4, P4, hz4, hN4, hP4⟩ := HZ4.out
   have HA4 : Hid (S2 True w z4 b t ot l a r kd n kb N4 P4 ∧ N4 ≤ 3769754152275 ∧ P4 ≤ 1256584717425) := zaa ⟨hz4, by have := HA3.out; omega, by have := HA3.out; omega⟩
   have HS1 := zaa (HA4.out.1.stands (by have := HA4.out; omega))
   clear hz4 hN4 hP4 HZ4 HA3
   go_wp2_with (go_at_call 9; refine HS1.out.mono ?_; rintro e z5 ⟨rfl, HZ5⟩; refine Hid.out ?_)
   apply zaa
   clear HS1
   have HA5 : Hid (S2 False w z5 a r kd n b t ot l kb N4 P4 ∧ N4 ≤ 3769754152275 ∧ P4 ≤ 1256584717425) := zaa ⟨HZ5.out.swap, by have := HA4.out; omega, by have := HA4.out; omega⟩
   have HS1 := zaa (HA5.out.1.step0 HK1.out.2 HK1.out.1 HT.out H0.out (by have := HA5.out; omega) (by have := HA5.out; omega) 9)
   clear HZ5 HA4
   go_wp2_with (go_at_call 8; refine HS1.out.mono ?_; rintro e z6 ⟨rfl, HZ6⟩; refine Hid.out ?_)
   apply zaa
   clear HS1
   obtain ⟨N6, P6, hz6, hN6, hP6⟩ := HZ6.out
   have HA6 : Hid (S2 False w z6 b t ot l a r kd n kb N6 P6 ∧ N6 ≤ 3769754152278 ∧ P6 ≤ 1256584717426) := zaa ⟨hz6.swap, by have := HA5.out; omega, by have := HA5.out; omega⟩
   have HS1 := zaa (HA6.out.1.step0 HK2.out.2 HK2.out.1 HT.out H0.out (by have := HA6.out; omega) (by have := HA6.out; omega) 9)
   clear hz6 hN6 hP6 HZ6 HA5
   go_wp2_with (go_at_call 8; refine HS1.out.mono ?_; rintro e z7 ⟨rfl, HZ7⟩; refine Hid.out ?_)
   apply zaa
   clear HS1
   go_wp2
   go_ret
   obtain ⟨N7, P7, hz7, _⟩ := HZ7.out
   exact ⟨rfl, hz7.be⟩
end Go.Proofs.YtfgffajgfgifhaaGreatDoor
namespace Go.Proofs.YtfgffajgfgifhaaGreatDoor
set_option maxRecDepth 100000
open Go.ChangeShapes Go.WideShapes Go.ChangeAt Go.RowKit
theorem own : ownKnob Tryz.prog.godebug = none := by kernel_rfl
theorem gTab : Tryz.prog.globalNamed "espalier/ink.steps" = some 0 := by kernel_rfl
theorem gTabType : (Tryz.prog.globals[0]?).map (·.type) = some 154 := by kernel_rfl
theorem cellsR : Tryz.prog.cellsOf 153 = 16 := by kernel_rfl
theorem cellsU : Tryz.prog.cellsOf 112 = 1 := by kernel_rfl
def rowZ (i : Nat) : List Int := ((tabN.drop (16 * i)).take 16).map fun (x : Nat) => (x : Int)
theorem laid_eq {H : Type} : (Rows.laid_espalier_ink_steps : DataW H) = .agg ((List.range 8).map fun i => Lib.tabData .u32 (rowZ i)) := by kernel_rfl
theorem rowZ_at (i r : Nat) (hi : i < 8) (hr : r < 16) : (rowZ i)[r]? = some ((tN (16 * i + r) : Nat) : Int) := by
 have h : ∀ (a : Fin 8) (b : Fin 16), (rowZ a.val)[b.val]? = some ((tN (16 * a.val + b.val) : Nat) : Int) := by decide +kernel
 exact h ⟨i, hi⟩ ⟨r, hr⟩
theorem tab_of_laid {W : World} (h : laidMetH Tryz.prog [("espalier/ink.steps", Rows.laid_espalier_ink_steps)] W) : Tab W := by
 have h' : laidMet Tryz.prog [("espalier/ink.steps", Rows.laid_espalier_ink_steps)] W := h
 obtain ⟨ps, ⟨g', t', cs, fuel, p, q, hg', ht', hvar, hd, _, _⟩, _⟩ := h'
 obtain rfl := Option.some.inj (gTab.symm.trans hg')
 obtain rfl := Option.some.inj (gTabType.symm.trans ht')
 obtain ⟨xs, m, _, hx, _, hxl, hat⟩ := DataW.trod_array Tryz.underlying154 hd
 rw [laid_eq] at hx
 have hxs : (List.range 8).map (fun i => Lib.tabData .u32 (rowZ i)) = xs.map (·.1) := by
  have := congrArg Prod.fst hx
  simpa using this
 rw [cellsR] at hat
 intro j hj
 have e : j = 16 * (j / 16) + j % 16 := by omega
 have hi : j / 16 < 8 := by omega
 have hr : j % 16 < 16 := by omega
 generalize j / 16 = i at *
 generalize j % 16 = r at *
 subst e
 have hxi : xs[i]? = some xs[i] := zI (by omega)
 have hfst : xs[i].1 = Lib.tabData .u32 (rowZ i) := by
  have := congrArg (·[i]?) hxs
  simpa [hi, hxl] using this.symm
 have hrow := hat i hi
 rw [hxi] at hrow
 have hc := Lib.cells_of_tab (zs := rowZ i) (p := xs[i].2) (k := .u32) Tryz.underlying153 Tryz.underlying112 cellsU cellsR (hrow.trans (by rw [← hfst]))
 have hcj : cs[16 * i + r]? = some (.int .u32 (tN (16 * i + r))) := by
  have h1 := congrArg (·[r]?) hc
  simp only [List.getElem?_map, rowZ_at i r hi hr, Option.map_some] at h1
  rw [List.getElem?_take_of_lt hr, List.getElem?_drop] at h1
  rw [Nat.mul_comm i 16] at h1
  simpa using h1
 have := World.var?_cell gTab hvar (16 * i + r)
 rw [this]
 simpa using hcj
theorem laidOut : laidOutB Tryz.prog = true := by kernel_rfl
end Go.Proofs.YtfgffajgfgifhaaGreatDoor
namespace Go.Proofs.YtfgffajgfgifhaaGreatDoor
set_option maxRecDepth 100000
open Go.ChangeShapes Go.WideShapes Go.ChangeAt Go.RowKit
theorem bytesU8 : Tryz.prog.bytesOf 5 = 1 := by kernel_rfl
theorem cells5 : Tryz.prog.cellsOf 5 = 1 := by kernel_rfl
theorem bulk_lits {H : Type} (k : IntKind) (zs : List Int) : Rows.uptoBulkAll (lits (H := H) k zs) = zs.length := by
 induction zs with
 | nil => rfl
 | cons z zs ih =>
  show Rows.uptoBulkAll (DataW.lit (.int k z) :: lits k zs) = _
  simp only [Rows.uptoBulkAll, Rows.uptoBulk, ih, List.length_cons]
  omega
theorem open_bytes {H : Type} {enc : TypeId × Value → H} {W : World} {base : Nat} {sp : Nat → Bool} {held : Bool} {v : Value} {d : DataW H} {p : List MemPlace} (hok : Value.okWide Tryz.prog W .any base 37 v)
  (h : DataW.Trod enc Tryz.prog W 0 sp held 37 v d p) (hsz : ∀ elems spare, d = .slice elems spare → (elems.length + spare.length) * Tryz.prog.bytesOf 5 ≤ reachBytes) :
  ∃ a n c l, v = .slice a n c ∧ Sl W a n c l ∧ n ≤ 140737488351232 ∧ n + 1 ≤ Rows.uptoBulk d := by
 obtain ⟨a, len, cap, rfl⟩ := okWide_slice Tryz.underlying37 hok
 obtain ⟨fuel, hf⟩ := h
 rcases open_ints Tryz.underlying37 Tryz.underlying5 cells5 hf with ⟨hcs, hx⟩ | ⟨x, l, c, zs, hcs, _, hl, hm, hz, hx, hcell, hwz⟩
 ·simp [Value.cells] at hcs
  obtain ⟨rfl, rfl, rfl⟩ := hcs
  obtain rfl : d = .nil := congrArg Prod.fst hx
  exact ⟨none, 0, 0, [], rfl, ⟨rfl, Lr, by omega, Wf.nil, fun _ => rfl, .inl rfl⟩, by omega, by simp [Rows.uptoBulk]⟩
 ·simp [Value.cells] at hcs
  obtain ⟨rfl, rfl, rfl⟩ := hcs
  obtain rfl : d = .slice (lits .u8 (zs.take len)) (lits .u8 (zs.drop len)) := congrArg Prod.fst hx
  have hzl : len ≤ zs.length := by rw [hz]; split <;> omega
  have h1 := hsz _ _ rfl
  rw [bytesU8] at h1
  simp only [lits, List.length_map, zJ, zK, reachBytes] at h1
  have hb : len ≤ 140737488351232 := by omega
  refine ⟨some x, len, cap, zs.take len, rfl, ⟨by simp; omega, hl, by omega, fun y hy => bounds_u8 (hwz y (List.mem_of_mem_take hy)), (by intro h; cases h), ?_⟩, hb, ?_⟩
  ·by_cases h0 : len = 0
   ·exact .inl h0
   ·obtain ⟨b, off, spot⟩ := x
    have hc := hcell 0 (by omega)
    have hspot : spot = none := by simpa [Addr.add] using World.cell?_spot hc
    subst hspot
    refine .inr ⟨b, off, rfl, World.block_lt_of_cell? W _ (by simpa [Addr.add] using hc), fun i hi => ?_⟩
    have h2 := hcell i (by omega)
    rw [Addr.add_lit] at h2
    rw [h2]
    simp [List.getD, hi]
  ·simp only [Rows.uptoBulk, bulk_lits, zJ]
   omega
theorem cellsSl : Tryz.prog.cellsOf 37 = 1 := by kernel_rfl
theorem open_cells {H : Type} {enc : TypeId × Value → H} {W : World} {sp : Nat → Bool} {held : Bool} {fuel : Nat} {cs : List Value} {d : DataW H} {p : List MemPlace}
  (hf : DataW.trod enc Tryz.prog W 0 sp held fuel 37 cs = some (d, p)) (hsz : ∀ elems spare, d = .slice elems spare → (elems.length + spare.length) * Tryz.prog.bytesOf 5 ≤ reachBytes) :
  ∃ a n c l, cs = [.slice a n c] ∧ Sl W a n c l ∧ n ≤ 140737488351232 := by
 rcases open_ints Tryz.underlying37 Tryz.underlying5 cells5 hf with ⟨hcs, hx⟩ | ⟨x, len, cap, zs, hcs, _, hl, hm, hz, hx, hcell, hwz⟩
 ·exact ⟨none, 0, 0, [], hcs, ⟨rfl, Lr, by omega, Wf.nil, fun _ => rfl, .inl rfl⟩, by omega⟩
 ·obtain rfl : d = .slice (lits .u8 (zs.take len)) (lits .u8 (zs.drop len)) := congrArg Prod.fst hx
  have hzl : len ≤ zs.length := by rw [hz]; split <;> omega
  have h1 := hsz _ _ rfl
  rw [bytesU8] at h1
  simp only [lits, List.length_map, zJ, zK, reachBytes] at h1
  have hb : len ≤ 140737488351232 := by omega
  refine ⟨some x, len, cap, zs.take len, hcs, ⟨by simp; omega, hl, by omega, fun y hy => bounds_u8 (hwz y (List.mem_of_mem_take hy)), (by intro h; cases h), ?_⟩, hb⟩
  by_cases h0 : len = 0
  ·exact .inl h0
  ·obtain ⟨b, off, spot⟩ := x
   have hc := hcell 0 (by omega)
   have hspot : spot = none := by simpa [Addr.add] using World.cell?_spot hc
   subst hspot
   refine .inr ⟨b, off, rfl, World.block_lt_of_cell? W _ (by simpa [Addr.add] using hc), fun i hi => ?_⟩
   have h2 := hcell i (by omega)
   rw [Addr.add_lit] at h2
   rw [h2]
   simp [List.getD, hi]
theorem weights_part {H : Type} {t : TypeId} {d : DataW H} {n : Nat} : ∀ {ds : List (DataW H)}, d ∈ ds → n ∈ d.weights Tryz.prog t → n ∈ DataW.weightsAll Tryz.prog t ds
 | [], h, _ => by cases h
 | x :: ds, h, hn => by
  simp only [DataW.weightsAll, List.mem_append]
  rcases List.mem_cons.1 h with rfl | h
  ·exact .inl hn
  ·exact .inr (weights_part h hn)
theorem cellsCell : Tryz.prog.cellsOf 39 = 5 := by kernel_rfl
theorem cellsInt : Tryz.prog.cellsOf 3 = 1 := by kernel_rfl
end Go.Proofs.YtfgffajgfgifhaaGreatDoor
namespace Go.Proofs.YtfgffajgfgifhaaGreatDoor
set_option maxRecDepth 100000
open Go.ChangeShapes Go.WideShapes Go.ChangeAt Go.RowKit
theorem cellsOp7 : Tryz.prog.cellsOf 41 = 8 := by kernel_rfl
theorem bytesOp7 : Tryz.prog.bytesOf 41 = 112 := by kernel_rfl
end Go.Proofs.YtfgffajgfgifhaaGreatDoor
