/- The walk of PlateLasts. -/
import Derived.Test.YtedhoeedidmcnaaPa4
import Derived.Test.YtedhoeedidmcnaaPlAw
import Derived.Deep.DeepCutAuto
namespace Go.Proofs.Ytedhoeedidmcnaa
open Go.RowKit

/-- A slice of Ops: the numbers and bytes; how the first one falls. -/
structure SlO (w : World) (ao : Option Addr) (n : Nat) (l : List (Int × Int)) : Prop where
  hlen : l.length = n
  hroom : n ≤ 1466015503701
  wf : ∀ i, i < n → 0 ≤ (l.getD i (0, 0)).2 ∧ (l.getD i (0, 0)).2 ≤ 255
  hat : n = 0 ∨ ∃ b off, ao = some ⟨b, off, none⟩ ∧ b < w.heap.size ∧ (∀ i, i < n → w.cell? ⟨b, off + i * 8 + 2, none⟩ = some (.int .i64 (l.getD i (0, 0)).1) ∧ w.cell? ⟨b, off + i * 8 + 3, none⟩ = some (.int .u8 (l.getD i (0, 0)).2)) ∧
    ∃ ko kn kc ks tn ta, w.cell? ⟨b, off + 5, none⟩ = some (.slice ko kn kc) ∧ w.cell? ⟨b, off + 6, none⟩ = some (.int .i64 tn) ∧ w.cell? ⟨b, off + 7, none⟩ = some (.int .i64 ta) ∧ Ks w ko kn ks ∧ kn ≤ 17592186044416 ∧ (ko = none → kn = 0 ∧ kc = 0)

theorem St.wfs {w0 w : World} {X : Nat → Prop} {a : Nat} {d : D} (h : St w0 w X a d) : Wf d.safe := by
  obtain ⟨F, hD⟩ := h.dv
  obtain ⟨bs, bl, vL, vK, ha, hr⟩ := hD
  exact hr.ws
theorem drewN_two (w : World) (a b : Nat) : (w.drewN a).drewN b = w.drewN (a + b) := by simp [World.drewN, Nat.add_assoc]
theorem below_draws {B : Nat} {w w' : World} (h : Below B w w') (q : Nat) : Below B w (w'.drewN q) := ⟨h.os, h.tape, h.output, h.size, h.block⟩
/-- How the power is to fail, as the walk has it: in the block gf; the safe bytes of before in gb. -/
def Mid (w1 : World) (a gb gf : Nat) (d : D) (safe0 : List Int) (ko : Option Addr) (kn kc : Nat) (ks : List Int) (tn ta : Int) (X : Nat → Prop) (u : World) : Prop :=
  St w1 u X a d ∧ X gb ∧ X gf ∧ u.heap[gb]? = some (.cells (By safe0).toArray 5 (0, 0)) ∧ u.heap[gf]? = some (.cells #[.slice ko kn kc, .int .i64 tn, .int .i64 ta] 38 (0, 0)) ∧ Ks u ko kn ks ∧ kn ≤ 17592186044416 ∧ (ko = none → kn = 0 ∧ kc = 0) ∧ (kn = 0 ∨ ∀ g, ko = some g → g.block < w1.heap.size)
theorem Mid.of {w1 w4 u : World} {a gb : Nat} {d : D} {safe0 : List Int} {ko : Option Addr} {kn kc : Nat} {ks : List Int} {tn ta : Int} {X : Nat → Prop} (hs : St w1 w4 X a d) (hx : X gb) (hr : w4.heap[gb]? = some (.cells (By safe0).toArray 5 (0, 0))) (hb : Below w4.heap.size w4 u) (hf : u.heap[w4.heap.size]? = some (.cells #[.slice ko kn kc, .int .i64 tn, .int .i64 ta] 38 (0, 0)))
    (hk : Ks w4 ko kn ks) (h1 : kn ≤ 17592186044416) (h2 : ko = none → kn = 0 ∧ kc = 0) (h3 : kn = 0 ∨ ∀ g, ko = some g → g.block < w1.heap.size) : Mid w1 a gb w4.heap.size d safe0 ko kn kc ks tn ta (Xn X w4 u) u :=
  ⟨hs.page hb, .inl hx, .inr ⟨Nat.le_refl _, lt_of_some hf⟩, (hb.block gb (lt_of_some hr)).trans hr, hf, hk.on hb, h1, h2, h3⟩

theorem Mid.ks {w1 u v : World} {a gb gf : Nat} {d : D} {safe0 : List Int} {ko : Option Addr} {kn kc : Nat} {ks : List Int} {tn ta : Int} {X : Nat → Prop} (h : Mid w1 a gb gf d safe0 ko kn kc ks tn ta X u) (hv : Below w1.heap.size w1 v) : Ks v ko kn ks := by
  obtain ⟨hs, _, _, _, _, hk, _, _, h3⟩ := h
  refine ⟨hk.hlen, hk.hroom, ?_⟩
  rcases h3 with h0 | h3
  · exact .inl h0
  · rcases hk.hat with h0 | ⟨b, off, e, hb, hc⟩
    · exact .inl h0
    · have hb1 : b < w1.heap.size := h3 _ e
      exact .inr ⟨b, off, e, Nat.lt_of_lt_of_le hb1 hv.size, fun i hi => ((hv.cell (p := ⟨b, off + i, none⟩) hb1).trans (hs.be.cell (p := ⟨b, off + i, none⟩) hb1).symm).trans (hc i hi)⟩
/-- The device in the second run of writes: k of them are done. -/
def Run2 (w1 : World) (a gb gf : Nat) (l1 : List (Int × Int)) (safe0 : List Int) (dA : D) (A : Int) (ko : Option Addr) (kn kc : Nat) (tn ta : Int) (k : Nat) (X : Nat → Prop) (d : D) (u : World) : Prop :=
  St w1 u X a d ∧ X gb ∧ X gf ∧ u.heap[gb]? = some (.cells (By safe0).toArray 5 (0, 0)) ∧ u.heap[gf]? = some (.cells #[.slice ko kn kc, .int .i64 tn, .int .i64 ta] 38 (0, 0)) ∧ ((d = dU dA l1 k ∧ (k : Int) ≤ A) ∨ Fin8 l1 safe0 k d)

set_option maxRecDepth 100000 in
set_option maxHeartbeats 4000000 in
theorem walk_PlateLasts (a0 : Option Addr) (n0 c0 : Nat) (l0 : List (Int × Int)) (a1 : Option Addr) (n1 c1 : Nat) (l1 : List (Int × Int)) (acts : Int) (w : World) (hs0 : SlO w a0 n0 l0) (hs1 : SlO w a1 n1 l1) (hac : -9223372036854775808 ≤ acts ∧ acts ≤ 9223372036854775807) :
    Calls Try.prog 6 #[.slice a0 n0 c0, .slice a1 n1 c1, .int .i64 acts] w fun e w' => e = .returned (.bool true) ∧ Below w.heap.size w w' := by
  have HS0 := hidden hs0
  have HS1 := hidden hs1
  have HAC := hidden hac
  have hr0 := hs0.hroom
  have hr1 := hs1.hroom
  clear hs0 hs1 hac
  go_enter Try.func6, Try.ntmps6
  go_wp2_with (go_at_call 7; refine (awake_any w).mono ?_; rintro e w1 ⟨rfl, b1⟩; have B1 := hidden b1; clear b1; refine Hid.out ?_)
  apply hidden
  have cN := St_New w1 512 8 (by decide)
  go_wp2_with (go_at_call 9; refine cN.mono ?_; rintro e w2 ⟨a, rfl, s2⟩; have S2 := hidden s2; clear s2; refine Hid.out ?_)
  apply hidden
  clear cN
  have BW : Hid (∀ u, Below w1.heap.size w1 u → Below w.heap.size w u) := hidden fun u hu => B1.out.trans (hu.mono B1.out.size)
  go_wp2_with fail
  go_loopw [9] (fun i wr => ∃ k : Nat, k ≤ n0 ∧ i = .int .i64 k ∧ ∃ X, Hid (St w1 wr X a (dS (d0 512 8) l0 k))) (fun i _ => n0 - (intOf i).toNat)
  case atStart => exact ⟨0, by omega, rfl, _, S2⟩
  case round =>
    obtain ⟨k, hk, rfl, X, SK⟩ := hrel
    by_cases hlt : k < n0
    · have hlt' : (k : Int) < (n0 : Int) := by omega
      obtain ⟨b, off, ha0, hbl, hcs, _⟩ := HS0.out.hat.resolve_left (by omega)
      subst ha0
      obtain ⟨g2, g3⟩ := hcs k hlt
      have hwf := HS0.out.wf k hlt
      obtain ⟨N, V, hNV⟩ : ∃ N V, l0.getD k (0, 0) = (N, V) := ⟨_, _, rfl⟩
      rw [hNV] at g2 g3 hwf
      obtain ⟨hp1, hp2⟩ := pgn_ok N
      have HCL : Hid (∀ u, Below w1.heap.size w1 u → u.cell? ⟨b, off + k * 8 + 2, none⟩ = some (.int .i64 N) ∧ u.cell? ⟨b, off + k * 8 + 3, none⟩ = some (.int .u8 V)) := hidden fun u hu => ⟨((BW.out u hu).cell (p := ⟨b, off + k * 8 + 2, none⟩) hbl).trans g2, ((BW.out u hu).cell (p := ⟨b, off + k * 8 + 3, none⟩) hbl).trans g3⟩
      obtain ⟨x2, x3⟩ := HCL.out wr SK.out.be
      obtain ⟨e1, e2, e3, e4, e5, e6, e7, e8⟩ := dS_f (d0 512 8) l0 rfl k
      have HWR := hidden (fun u X1 (s1 : St w1 u X1 a (dS (d0 512 8) l0 k)) g (r1 : u.heap[g]? = some (.cells (By (rep V)).toArray 5 (0, 0))) (x1 : X1 g) => St_Write w1 u X1 a (dS (d0 512 8) l0 k) s1 (pgn N) g 512 (rep V) (by simp only [refu, e3, e2]; rw [if_neg (by simp [d0]), if_neg (by simp only [d0]; omega)]) (by rw [e2]; exact hp2) (by rw [e1, rep_len]; rfl) (rep_wf V hwf) r1 x1 (by rw [e5]; simp only [d0]; omega) (by rw [e5]; simp only [d0]; omega) (by rw [e7, ws_len]; omega) (by rw [e4]; rfl))
      rw [show (dS (d0 512 8) l0 k).page = 512 from e1] at HWR
      have HNV := hidden hNV
      have cP := hidden (St_page w1 wr.drew X a (dS (d0 512 8) l0 k) SK.out.dr 512 V (by omega))
      obtain ⟨P, hP⟩ : ∃ P, pgn N = P := ⟨_, rfl⟩
      rw [hP] at hp1 hp2 HWR
      have HP := hidden hP
      clear g2 g3 hcs e1 e2 e3 e4 e5 e6 e7 e8 hNV hwf hP
      go_wp2_with fail
      go_region_held3 (fun u => u.cell? ⟨b, off + k * 8 + 2, none⟩ = some (.int .i64 N) ∧ u.cell? ⟨b, off + k * 8 + 3, none⟩ = some (.int .u8 V)) (go_keep)
        (first | (go_at_call 27; refine cP.out.mono ?_; rintro e u1 ⟨g, X1, rfl, r1, s1, x1, k1⟩; have R1 := hidden r1; have S1 := hidden s1; have XX1 := hidden x1; obtain ⟨y2, y3⟩ := HCL.out u1 s1.be; clear r1 s1 x1 k1) | (go_at_call 26; refine (HWR.out u1 X1 S1.out g R1.out XX1.out).mono ?_; rintro e u2 ⟨rfl, s2, k2⟩; have SW := hidden s2; obtain ⟨z2, z3⟩ := HCL.out u2 s2.be; clear s2 k2))
      have HN : Hid (St w1 u2 X1 a (dS (d0 512 8) l0 (k + 1))) := hidden (by
        show St w1 u2 X1 a ((dS (d0 512 8) l0 k).wrote (pgn (l0.getD k (0, 0)).1) (rep (l0.getD k (0, 0)).2))
        rw [HNV.out, HP.out]
        exact SW.out)
      clear SW S1 R1 XX1 HWR HCL cP x2 x3 y2 y3 z2 z3
      go_wp2
      go_roundw
      case rel => exact ⟨k + 1, by omega, by go_num, X1, HN⟩
      case measure => simp [intOf]; omega
    · have hge : ¬ ((k : Int) < (n0 : Int)) := by omega
      obtain rfl : k = n0 := by omega
      obtain ⟨e1, e2, e3, e4, e5, e6, e7, e8⟩ := dS_f (d0 512 8) l0 rfl k
      have cS := St_Sync w1 wr X a _ SK.out (by rw [e3]; rfl) (by rw [e4]; rfl) (by rw [e6]; simp [d0]) (by rw [e6]; simp [d0])
      obtain ⟨dT, hdT⟩ : ∃ dT, (dS (d0 512 8) l0 k).synced = dT := ⟨_, rfl⟩
      rw [hdT] at cS
      have HT : Hid (dT.page = 512 ∧ dT.pages = 8 ∧ dT.down = false ∧ dT.loose = [] ∧ dT.cw = (k : Int) ∧ dT.safe.length = 4096) := by
        refine hidden ⟨by rw [← hdT]; exact e1, by rw [← hdT]; exact e2, by rw [← hdT]; exact e3, by rw [← hdT]; rfl, by rw [← hdT]; show (dS (d0 512 8) l0 k).cw = _; rw [e5]; simp [d0], ?_⟩
        rw [← hdT]
        show (lay (dS (d0 512 8) l0 k).page (dS (d0 512 8) l0 k).loose _ (dS (d0 512 8) l0 k).safe (dS (d0 512 8) l0 k).loose.length).length = 4096
        rw [e1, e7, e8, ws_len]
        exact lay_ok8 l0 k _ _ (by simp only [d0, List.length_replicate]) k (Nat.le_refl _)
      clear e1 e2 e3 e4 e5 e6 e7 e8 hdT SK
      go_wp2_with (go_at_call 28; refine cS.mono ?_; rintro e w3 ⟨rfl, s3, k3⟩; have S3 := hidden s3; clear s3 k3; refine Hid.out ?_)
      apply hidden
      clear cS
      have cF := St_Safe w1 w3 X a dT S3.out
      rw [HT.out.1, HT.out.2.1] at cF
      go_wp2_with (go_at_call 25; refine cF.mono ?_; rintro e w4 ⟨gb, X4, rfl, r4, s4, x4, k4⟩; have S4 := hidden s4; have R4 := hidden r4; have XB := hidden x4; clear s4 r4 x4 k4; refine Hid.out ?_)
      apply hidden
      clear cF S3
      obtain ⟨safe0, hsafe⟩ : ∃ s, dT.safe = s := ⟨_, rfl⟩
      rw [hsafe] at R4
      have HSF := hidden hsafe
      clear hsafe
      go_upto_if 54 with fail
      go_cut [] (fun u => ∃ ko kn kc ks tn ta X, Hid (Mid w1 a gb w4.heap.size dT safe0 ko kn kc ks tn ta X u))
      case first =>
        by_cases h1 : n1 = 0
        · subst h1
          have HM := hidden (Mid.of (u := w4.alloc (.cells #[.slice none 0 0, .int .i64 0, .int .i64 0] 38 (0, 0))) (ko := none) (kn := 0) (kc := 0) (ks := []) (tn := 0) (ta := 0) S4.out XB.out R4.out ((Below.refl _ _).alloc (Nat.le_refl _) _) (alloc_row _ _) (Ks.nil _) (by omega) (fun _ => ⟨rfl, rfl⟩) (.inl rfl))
          go_wp2
          go_meet
          case rel => exact ⟨_, _, _, _, _, _, _, HM⟩
        · have hd : (0 : Int) < (n1 : Int) := by omega
          obtain ⟨b, off, ha1, hbl, hcs, ko, kn, kc, ks, tn, ta, q5, q6, q7, hks, hkn, hkk⟩ := HS1.out.hat.resolve_left h1
          subst ha1
          have B4 := BW.out w4 S4.out.be
          have q5' : w4.cell? ⟨b, off + 5, none⟩ = some (.slice ko kn kc) := (B4.cell (p := ⟨b, off + 5, none⟩) hbl).trans q5
          have q6' : w4.cell? ⟨b, off + 6, none⟩ = some (.int .i64 tn) := (B4.cell (p := ⟨b, off + 6, none⟩) hbl).trans q6
          have q7' : w4.cell? ⟨b, off + 7, none⟩ = some (.int .i64 ta) := (B4.cell (p := ⟨b, off + 7, none⟩) hbl).trans q7
          have hb4 : b < w4.heap.size := Nat.lt_of_lt_of_le hbl B4.size
          have hbne : ¬ b = w4.heap.size := by omega
          have HK4 := hidden (hks.on B4)
          have HKB : Hid (kn = 0 ∨ ∀ g, ko = some g → g.block < w1.heap.size) := hidden (by
            by_cases hz : kn = 0
            · exact .inl hz
            · obtain ⟨b', off', e', hb', _⟩ := hks.hat.resolve_left hz
              refine .inr fun g hg => ?_
              rw [e'] at hg
              injection hg with hg
              subst hg
              exact Nat.lt_of_lt_of_le hb' B1.out.size)
          have HKK := hidden hkk
          clear q5 q6 q7 hks hcs B4 hkk
          go_wp2
          go_meet
          case rel => exact ⟨ko, kn, kc, ks, tn, ta, _, hidden (Mid.of S4.out XB.out R4.out ((Below.refl _ _).alloc (Nat.le_refl _) _) (alloc_row _ _) HK4.out hkn HKK.out HKB.out)⟩
      case rest =>
        obtain ⟨ko, kn, kc, ks, tn, ta, X5, M5⟩ := hcut
        clear S4 R4 XB
        go_upto_if 60 with fail
        go_cut [2] (fun t u => ∃ A : Int, t = .int .i64 A ∧ 0 ≤ A ∧ A ≤ 9223372036854775807 ∧ u = wc)
        case first =>
          have hac1 := HAC.out.1
          have hac2 := HAC.out.2
          by_cases hneg : acts < 0
          · have hb1 : acts + 1 ≤ 0 := by omega
            go_wp2
            go_meet
            case rel => exact ⟨-(acts + 1), rfl, by omega, by omega, rfl⟩
          · go_wp2
            go_meet
            case rel => exact ⟨acts, rfl, by omega, by omega, rfl⟩
        case rest =>
          obtain ⟨A, rfl, hA0, hA1, hwc⟩ := hcut
          subst hwc
          have HKS : Hid (∀ u, Below w1.heap.size w1 u → Ks u ko kn ks) := hidden fun u hu => M5.out.ks hu
          obtain ⟨m1, m2, m3, m4, m5, m6, m7, m8, m9⟩ := M5.out
          generalize w4.heap.size = gf at m3 m5 M5 ⊢
          have p0 : wc.cell? ⟨gf, 0, none⟩ = some (.slice ko kn kc) := by simp [World.cell?, m5]
          have p1 : wc.cell? ⟨gf, 1, none⟩ = some (.int .i64 tn) := by simp [World.cell?, m5]
          have p2 : wc.cell? ⟨gf, 2, none⟩ = some (.int .i64 ta) := by simp [World.cell?, m5]
          have cA := St_Arm w1 wc X5 a dT m1 A ko kn kc ks tn ta HT.out.2.2.1 hA0 m6 m7 m8 m9
          obtain ⟨dA, hdA⟩ : ∃ dA, dT.arm A ks tn ta = dA := ⟨_, rfl⟩
          rw [hdA] at cA
          have HDA : Hid (dA.page = 512 ∧ dA.pages = 8 ∧ dA.down = false ∧ dA.loose = [] ∧ dA.cw = (k : Int) ∧ dA.armed = true ∧ dA.left = A ∧ dA.safe = safe0) := hidden (by
            rw [← hdA]
            exact ⟨HT.out.1, HT.out.2.1, HT.out.2.2.1, HT.out.2.2.2.1, HT.out.2.2.2.2.1, rfl, rfl, HSF.out⟩)
          have HSL : Hid (safe0.length = 4096) := hidden (by rw [← HSF.out]; exact HT.out.2.2.2.2.2)
          have MG := hidden (And.intro m2 (And.intro m3 (And.intro m4 m5)))
          clear hdA m1 m2 m3 m4 m5 m6 m7 m8 m9 M5 HT HSF
          go_wp2_with (go_at_call 29; refine cA.mono ?_; rintro e w6 ⟨rfl, s6, k6⟩; have R6 : Hid (Run2 w1 a gb gf l1 safe0 dA A ko kn kc tn ta 0 X5 dA w6) := hidden ⟨s6, MG.out.1, MG.out.2.1, (k6 gb MG.out.1).trans MG.out.2.2.1, (k6 gf MG.out.2.1).trans MG.out.2.2.2, .inl ⟨rfl, by omega⟩⟩; clear s6 k6; refine Hid.out ?_)
          apply hidden
          clear cA MG p0 p1 p2
          go_wp2_with fail
          go_loopw [13, 14] (fun nn ii wr => ∃ (j : Nat) (X : Nat → Prop) (d' : D), nn = .int .i64 j ∧ ii = .int .i64 j ∧ j ≤ n1 ∧ Hid (Run2 w1 a gb gf l1 safe0 dA A ko kn kc tn ta j X d' wr)) (fun _ ii _ => n1 - (intOf ii).toNat)
          case atStart => exact ⟨0, X5, dA, rfl, rfl, by omega, R6⟩
          case round =>
            obtain ⟨j, X7, d7, rfl, rfl, hj, R7⟩ := hrel
            obtain ⟨r1, r2, r3, r4, r5, r6⟩ := R7.out
            have hju : j < n1 ∧ d7 = dU dA l1 j ∧ (j : Int) ≤ A ∨ (j = n1 ∧ d7 = dU dA l1 j ∨ Fin8 l1 safe0 j d7) := by
              rcases r6 with ⟨h1, h2⟩ | h1
              · by_cases hlt : j < n1
                · exact .inl ⟨hlt, h1, h2⟩
                · exact .inr (.inl ⟨by omega, h1⟩)
              · exact .inr (.inr h1)
            have S7 := hidden r1
            have G7 := hidden (And.intro r2 (And.intro r3 (And.intro r4 r5)))
            clear r1 r2 r3 r4 r5 r6 R7 R6
            rcases hju with ⟨hlt, hdu, hjA⟩ | hex
            · have hlt' : (j : Int) < (n1 : Int) := by omega
              subst hdu
              obtain ⟨f1, f2, f3, f4, f5, f6, f7, f8, f9, f10, f11⟩ := dU_f dA l1 HDA.out.2.2.2.1 j
              obtain ⟨b, off, ha1, hbl, hcs, _⟩ := HS1.out.hat.resolve_left (by omega)
              subst ha1
              obtain ⟨g2, g3⟩ := hcs j hlt
              have hwf := HS1.out.wf j hlt
              obtain ⟨N, V, hNV⟩ : ∃ N V, l1.getD j (0, 0) = (N, V) := ⟨_, _, rfl⟩
              rw [hNV] at g2 g3 hwf
              obtain ⟨hp1, hp2⟩ := pgn_ok N
              have HCL : Hid (∀ u, Below w1.heap.size w1 u → u.cell? ⟨b, off + j * 8 + 2, none⟩ = some (.int .i64 N) ∧ u.cell? ⟨b, off + j * 8 + 3, none⟩ = some (.int .u8 V)) := hidden fun u hu => ⟨((BW.out u hu).cell (p := ⟨b, off + j * 8 + 2, none⟩) hbl).trans g2, ((BW.out u hu).cell (p := ⟨b, off + j * 8 + 3, none⟩) hbl).trans g3⟩
              obtain ⟨x2, x3⟩ := HCL.out wr S7.out.be
              have cU : Calls Try.prog 12 #[.pointer (some ⟨a, 0, none⟩)] wr fun e w' => e = .returned (.bool true) ∧ w' = wr := by
                obtain ⟨FF, hDD⟩ := S7.out.dv
                have := up_any wr FF a _ hDD
                rw [f3, HDA.out.2.2.1] at this
                exact this
              have HWR := hidden (fun u X1 (s1 : St w1 u X1 a (dU dA l1 j)) g (r1 : u.heap[g]? = some (.cells (By (rep V)).toArray 5 (0, 0))) (x1 : X1 g) => St_WriteA w1 u X1 a (dU dA l1 j) s1 (pgn N) g 512 (rep V) (by simp only [refu, f3, f2, HDA.out.2.2.1, HDA.out.2.1]; rw [if_neg (by simp), if_neg (by omega)]) (by rw [f2, HDA.out.2.1]; exact hp2) (by rw [f1, rep_len, HDA.out.1]) (rep_wf V hwf) r1 x1 (by rw [f5, HDA.out.2.2.2.2.1]; omega) (by rw [f5, HDA.out.2.2.2.2.1]; omega) (by rw [f7, ws_len]; omega) (by rw [f4]; exact HDA.out.2.2.2.2.2.1) (by rw [f6, HDA.out.2.2.2.2.2.2.1]; omega) (by rw [f6, HDA.out.2.2.2.2.2.2.1]; omega))
              rw [show (dU dA l1 j).page = 512 from f1.trans HDA.out.1] at HWR
              have HNXT : Hid (∀ d', (d' = if 0 < (dU dA l1 j).left then { (dU dA l1 j).wrote (pgn N) (rep V) with left := (dU dA l1 j).left - 1 } else ((dU dA l1 j).wrote (pgn N) (rep V)).fallen (dU dA l1 j).keep (dU dA l1 j).torn (dU dA l1 j).tat) → (d' = dU dA l1 (j + 1) ∧ ((j + 1 : Nat) : Int) ≤ A) ∨ Fin8 l1 safe0 (j + 1) d') := hidden fun d' hd' => by
                have hl : (dU dA l1 j).left = A - j := by rw [f6, HDA.out.2.2.2.2.2.2.1]
                by_cases hpos : 0 < (dU dA l1 j).left
                · rw [if_pos hpos] at hd'
                  refine .inl ⟨?_, by omega⟩
                  rw [hd']
                  show _ = { (dU dA l1 j).wrote (pgn (l1.getD j (0, 0)).1) (rep (l1.getD j (0, 0)).2) with left := (dU dA l1 j).left - 1 }
                  rw [hNV]
                · rw [if_neg hpos] at hd'
                  refine .inr ?_
                  rw [hd']
                  refine fin_fallen _ _ _ (f1.trans HDA.out.1) (f2.trans HDA.out.2.1) ?_ (f8.trans HDA.out.2.2.2.2.2.2.2)
                  show (dU dA l1 j).loose ++ [(pgn N, rep V)] = ws l1 j ++ [(pgn (l1.getD j (0, 0)).1, rep (l1.getD j (0, 0)).2)]
                  rw [f7, hNV]
              have cP := hidden (St_page w1 wr.drew X7 a (dU dA l1 j) S7.out.dr 512 V (by omega))
              obtain ⟨P, hP⟩ : ∃ P, pgn N = P := ⟨_, rfl⟩
              rw [hP] at hp1 hp2 HWR HNXT
              clear g2 g3 hcs f1 f2 f3 f4 f5 f6 f7 f8 f9 f10 f11 hNV hwf hP
              go_wp2_with (go_at_call 12; refine same_call cU ?_)
              clear cU
              go_region_held3 (fun u => u.cell? ⟨b, off + j * 8 + 2, none⟩ = some (.int .i64 N) ∧ u.cell? ⟨b, off + j * 8 + 3, none⟩ = some (.int .u8 V)) (go_keep)
                (first | (go_at_call 27; refine cP.out.mono ?_; rintro e u1 ⟨g, X1, rfl, r1, s1, x1, k1⟩; have R1 := hidden r1; have S1 := hidden s1; have XX1 := hidden x1; have KK1 := hidden k1; obtain ⟨y2, y3⟩ := HCL.out u1 s1.be; clear r1 s1 x1 k1) | (go_at_call 26; refine (HWR.out u1 X1 S1.out g R1.out XX1.out).mono ?_; rintro e u2 ⟨ex, d8, rfl, s2, k2, hd8⟩; have SW := hidden s2; have KK2 := hidden k2; have HD8 := hidden hd8; obtain ⟨z2, z3⟩ := HCL.out u2 s2.be; clear s2 k2 hd8))
              have HN : Hid (Run2 w1 a gb gf l1 safe0 dA A ko kn kc tn ta (j + 1) X1 d8 u2) := hidden (by
                obtain ⟨q1, q2, q3, q4⟩ := G7.out
                obtain ⟨t1, t2⟩ := KK1.out gb q1
                obtain ⟨t3, t4⟩ := KK1.out gf q2
                exact ⟨SW.out, t1, t3, ((KK2.out gb t1).trans t2).trans q3, ((KK2.out gf t3).trans t4).trans q4, HNXT.out d8 HD8.out⟩)
              clear SW S1 R1 XX1 KK1 KK2 HWR HCL cP x2 x3 y2 y3 z2 z3 HNXT HD8 S7 G7
              go_wp2
              go_roundw
              case rel => exact ⟨j + 1, X1, d8, by go_num, by go_num, by omega, HN⟩
              case measure => simp [intOf]; omega
            · have q0 : wr.cell? ⟨gf, 0, none⟩ = some (.slice ko kn kc) := by simp [World.cell?, G7.out.2.2.2]
              have q1 : wr.cell? ⟨gf, 1, none⟩ = some (.int .i64 tn) := by simp [World.cell?, G7.out.2.2.2]
              have q2 : wr.cell? ⟨gf, 2, none⟩ = some (.int .i64 ta) := by simp [World.cell?, G7.out.2.2.2]
              have hex' : (j = n1 ∧ d7 = dU dA l1 j) ∨ (j = n1 ∧ Fin8 l1 safe0 j d7) ∨ (j < n1 ∧ Fin8 l1 safe0 j d7) := by
                rcases hex with h | h
                · exact .inl h
                · by_cases e : j = n1
                  · exact .inr (.inl ⟨e, h⟩)
                  · exact .inr (.inr ⟨by omega, h⟩)
              clear hex
              refine hex'.elim ?E1 (fun h => h.elim ?E2 ?E3)
              case' E1 =>
                rintro ⟨hjn, hdu⟩
                clear hex'
                have hge : ¬ ((j : Int) < (n1 : Int)) := by omega
                subst hdu
                obtain ⟨f1, f2, f3, f4, f5, f6, f7, f8, f9, f10, f11⟩ := dU_f dA l1 HDA.out.2.2.2.1 j
                have HF9 : Hid (Fin8 l1 safe0 j ((dU dA l1 j).fallen ks tn ta)) := hidden (fin_fallen _ _ _ (f1.trans HDA.out.1) (f2.trans HDA.out.2.1) f7 (f8.trans HDA.out.2.2.2.2.2.2.2))
                have cC := St_Crash w1 wr X7 a _ S7.out ko kn kc ks tn ta (HKS.out wr S7.out.be) (f3.trans HDA.out.2.2.1)
                clear f1 f2 f3 f4 f5 f6 f7 f8 f9 f10 f11 hjn
                generalize (dU dA l1 j).fallen ks tn ta = d9 at HF9 cC
                go_wp2_with (go_at_call 30; refine cC.mono ?_; rintro e w9 ⟨rfl, s9, k9⟩; have S9 := hidden s9; have XG9 := hidden G7.out.1; have RG9 := hidden ((k9 gb G7.out.1).trans G7.out.2.2.1); clear s9 k9; refine Hid.out ?_)
                apply hidden
                clear cC S7 G7 q0 q1 q2
                generalize X7 = X9 at S9 XG9
              case' E2 =>
                rintro ⟨hjn, hfin⟩
                clear hex' h
                have hge : ¬ ((j : Int) < (n1 : Int)) := by omega
                have HF9 := hidden hfin
                have cC := St_CrashD w1 wr X7 a _ S7.out ko kn kc tn ta hfin.down
                clear hjn hfin
                go_wp2_with (go_at_call 30; refine cC.mono ?_; rintro e w9 ⟨rfl, ⟨X9, hX9, s9⟩, k9⟩; have S9 := hidden s9; have XG9 := hidden (hX9 gb G7.out.1); have RG9 := hidden ((k9 gb G7.out.1).trans G7.out.2.2.1); clear s9 k9 hX9; refine Hid.out ?_)
                apply hidden
                clear cC S7 G7 q0 q1 q2
                generalize d7 = d9 at S9 HF9
              case' E3 =>
                rintro ⟨hjn, hfin⟩
                clear hex' h
                have hlt' : (j : Int) < (n1 : Int) := by omega
                have HF9 := hidden hfin
                have cU : Calls Try.prog 12 #[.pointer (some ⟨a, 0, none⟩)] wr fun e w' => e = .returned (.bool false) ∧ w' = wr := by
                  obtain ⟨FF, hDD⟩ := S7.out.dv
                  have := up_any wr FF a _ hDD
                  rw [hfin.down] at this
                  exact this
                have cC := St_CrashD w1 wr X7 a _ S7.out ko kn kc tn ta hfin.down
                clear hjn hfin
                go_wp2_with (first | (go_at_call 12; refine same_call cU ?_) | (go_at_call 30; refine cC.mono ?_; rintro e w9 ⟨rfl, ⟨X9, hX9, s9⟩, k9⟩; have S9 := hidden s9; have XG9 := hidden (hX9 gb G7.out.1); have RG9 := hidden ((k9 gb G7.out.1).trans G7.out.2.2.1); clear s9 k9 hX9; refine Hid.out ?_))
                apply hidden
                clear cC cU S7 G7 q0 q1 q2
                generalize d7 = d9 at S9 HF9
              all_goals
                have cS := St_Safe w1 w9 X9 a d9 S9.out
                rw [HF9.out.page, HF9.out.pages] at cS
                go_wp2_with (go_at_call 25; refine cS.mono ?_; rintro e w10 ⟨ga, X10, rfl, r10, s10, x10, k10⟩; have S10 := hidden s10; have RA10 := hidden r10; have XA := hidden x10; have RG10 := hidden ((k10 gb XG9.out).2.trans RG9.out); have XG10 := hidden (k10 gb XG9.out).1; clear r10 s10 x10 k10; refine Hid.out ?_)
                apply hidden
                clear cS S9 XG9 RG9
                have cI := St_Image w1 w10 X10 a d9 S10.out HF9.out.last
                rw [HF9.out.page, HF9.out.pages] at cI
                go_wp2_with (go_at_call 24; refine cI.mono ?_; rintro e w11 ⟨gi, X11, rfl, r11, s11, x11, k11⟩; have S11 := hidden s11; have RI := hidden r11; have RA := hidden ((k11 ga XA.out).2.trans RA10.out); have RG := hidden ((k11 gb XG10.out).2.trans RG10.out); clear r11 s11 x11 k11; refine Hid.out ?_)
                apply hidden
                clear cI S10 RA10 XA RG10 XG10
                obtain ⟨hL9, hM9⟩ := fin_may HF9.out HSL.out
                have hW9 := S11.out.wfs
                obtain ⟨sA, hsA⟩ : ∃ s, d9.safe = s := ⟨_, rfl⟩
                rw [hsA] at RA RI hL9 hM9 hW9
                obtain ⟨SS, hSS⟩ : ∃ SS, strOfNums sA = SS := ⟨_, rfl⟩
                have k1 : (convert 35 9 (.slice (some ⟨gi, 0, none⟩) 4096 4096)).run Try.prog w11 = .ok (.string SS) w11 := by rw [← hSS]; exact conv_sl (row_sl RI.out hL9 hW9 (by omega))
                have k2 : (convert 35 9 (.slice (some ⟨ga, 0, none⟩) 4096 4096)).run Try.prog w11 = .ok (.string SS) w11 := by rw [← hSS]; exact conv_sl (row_sl RA.out hL9 hW9 (by omega))
                have eS : (SS.toList == SS.toList) = true := by simp
                have cUp : Calls Try.prog 12 #[.pointer (some ⟨a, 0, none⟩)] w11 fun e w' => e = .returned (.bool false) ∧ w' = w11 := by
                  obtain ⟨FF, hDD⟩ := S11.out.dv
                  have := up_any w11 FF a _ hDD
                  rw [HF9.out.down] at this
                  exact this
                have cLo : Calls Try.prog 19 #[.pointer (some ⟨a, 0, none⟩)] w11 fun e w' => e = .returned (.int .i64 0) ∧ w' = w11 := by
                  obtain ⟨FF, hDD⟩ := S11.out.dv
                  have := lse_any w11 FF a _ hDD
                  rw [HF9.out.loose] at this
                  exact this
                have HB11 := hidden (BW.out w11 S11.out.be)
                have HM9 := hidden hM9
                have HL9 := hidden hL9
                have HCA : Hid (∀ k, k < 4096 → w11.cell? ⟨ga, k, none⟩ = some (.int .u8 (sA.getD k 0)) ∧ w11.cell? ⟨gb, k, none⟩ = some (.int .u8 (safe0.getD k 0))) := hidden fun k hk => ⟨(cell_of_row RA.out).trans (getD_By _ _ (by omega)), (cell_of_row RG.out).trans (getD_By _ _ (by rw [HSL.out]; exact hk))⟩
                clear hsA hSS hL9 hM9 hW9 RA RI RG S11 HF9
                go_wp2_with (first | (go_at_call 12; refine same_call cUp ?_) | (go_at_call 19; refine same_call cLo ?_))
                clear cUp cLo k1 k2 eS
                go_loopw [17] (fun t wr => ∃ kk : Nat, kk ≤ 4096 ∧ t = .int .i64 kk ∧ ∃ q, wr = w11.drewN q) (fun t _ => 4096 - (intOf t).toNat)
                case atStart => exact ⟨0, by omega, rfl, 0, rfl⟩
                case round =>
                  obtain ⟨kk, hkk, rfl, q, rfl⟩ := hrel
                  by_cases hlt : kk < 4096
                  · have hlt' : (kk : Int) < 4096 := by omega
                    obtain ⟨ca, cb⟩ := HCA.out kk hlt
                    obtain ⟨x, hx⟩ : ∃ x, sA.getD kk 0 = x := ⟨_, rfl⟩
                    obtain ⟨y, hy⟩ : ∃ y, safe0.getD kk 0 = y := ⟨_, rfl⟩
                    rw [hx] at ca
                    rw [hy] at cb
                    obtain ⟨M0, hM0⟩ : ∃ M0, mayB sA safe0 l1 kk 0 = M0 := ⟨_, rfl⟩
                    have e0 : (x == y) = M0 := by rw [← hM0, ← hx, ← hy]; rfl
                    have HX := hidden hx
                    have HM0 := hidden hM0
                    clear hx hy hM0
                    go_wp2_with fail
                    go_quiet (fail)
                    go_wp2_with fail
                    go_loopw [18, 19] (fun t i wr => ∃ ii q : Nat, ii ≤ j ∧ t = .bool (mayB sA safe0 l1 kk ii) ∧ i = .int .i64 ii ∧ wr = w11.drewN q) (fun _ i _ => j - (intOf i).toNat)
                    case atStart => exact ⟨0, _, by omega, by rw [HM0.out], rfl, drewN_two _ _ _⟩
                    case round =>
                      obtain ⟨ii, q2, hii, rfl, rfl, rfl⟩ := hrel
                      by_cases hlt2 : ii < j
                      · have hlt2' : (ii : Int) < (j : Int) := by omega
                        have hltn : ii < n1 := by omega
                        have hltn' : (ii : Int) < (n1 : Int) := by omega
                        obtain ⟨b, off, ha1, hbl, hcs, _⟩ := HS1.out.hat.resolve_left (by omega)
                        subst ha1
                        obtain ⟨g2, g3⟩ := hcs ii hltn
                        obtain ⟨N, V, hNV⟩ : ∃ N V, l1.getD ii (0, 0) = (N, V) := ⟨_, _, rfl⟩
                        rw [hNV] at g2 g3
                        have x2 : w11.cell? ⟨b, off + ii * 8 + 2, none⟩ = some (.int .i64 N) := (HB11.out.cell (p := ⟨b, off + ii * 8 + 2, none⟩) hbl).trans g2
                        have x3 : w11.cell? ⟨b, off + ii * 8 + 3, none⟩ = some (.int .u8 V) := (HB11.out.cell (p := ⟨b, off + ii * 8 + 3, none⟩) hbl).trans g3
                        obtain ⟨P, hP⟩ : ∃ P, pgn N = P := ⟨_, rfl⟩
                        obtain ⟨hp1, hp2⟩ := pgn_ok N
                        rw [hP] at hp1
                        have HST : Hid (mayB sA safe0 l1 kk (ii + 1) = (mayB sA safe0 l1 kk ii || (decide (P = kk / 512) && decide (x = V)))) := hidden (by
                          show (mayB sA safe0 l1 kk ii || (decide (pgn (l1.getD ii (0, 0)).1 = kk / 512) && decide (sA.getD kk 0 = (l1.getD ii (0, 0)).2))) = _
                          rw [hNV, hP, HX.out])
                        clear g2 g3 hcs hNV hP hp2
                        cases hm : mayB sA safe0 l1 kk ii
                        · by_cases hpk : P = kk / 512
                          · have eP : ((P : Int) == (kk : Int) / 512) = true := by simp only [beq_iff_eq]; omega
                            by_cases hxv : x = V
                            · have eV : (x == V) = true := by simp [hxv]
                              have HR : Hid (mayB sA safe0 l1 kk (ii + 1) = true) := hidden (by rw [HST.out, hm, decide_eq_true hpk, decide_eq_true hxv]; rfl)
                              clear HST hm hpk hxv
                              go_wp2_with fail
                              go_quiet (fail)
                              go_wp2
                              go_roundw
                              case rel => exact ⟨ii + 1, _, by omega, by rw [HR.out], by go_num, rfl⟩
                              case measure => simp [intOf]; omega
                            · have eV : (x == V) = false := by simpa using hxv
                              have HR : Hid (mayB sA safe0 l1 kk (ii + 1) = false) := hidden (by rw [HST.out, hm, decide_eq_false hxv]; simp)
                              clear HST hm hpk hxv
                              go_wp2_with fail
                              go_quiet (fail)
                              go_wp2
                              go_roundw
                              case rel => exact ⟨ii + 1, _, by omega, by rw [HR.out], by go_num, rfl⟩
                              case measure => simp [intOf]; omega
                          · have eP : ((P : Int) == (kk : Int) / 512) = false := by simp only [beq_eq_false_iff_ne, ne_eq]; omega
                            have HR : Hid (mayB sA safe0 l1 kk (ii + 1) = false) := hidden (by rw [HST.out, hm, decide_eq_false hpk]; rfl)
                            clear HST hm hpk
                            go_wp2_with fail
                            go_quiet (fail)
                            go_wp2
                            go_roundw
                            case rel => exact ⟨ii + 1, _, by omega, by rw [HR.out], by go_num, rfl⟩
                            case measure => simp [intOf]; omega
                        · have HR : Hid (mayB sA safe0 l1 kk (ii + 1) = true) := hidden (by rw [HST.out, hm]; rfl)
                          clear HST hm
                          go_wp2_with fail
                          go_quiet (fail)
                          go_wp2
                          go_roundw
                          case rel => exact ⟨ii + 1, _, by omega, by rw [HR.out], by go_num, rfl⟩
                          case measure => simp [intOf]; omega
                      · have hge2 : ¬ ((ii : Int) < (j : Int)) := by omega
                        obtain rfl : ii = j := by omega
                        rw [HM9.out kk]
                        go_wp2
                        go_roundw
                        case rel => exact ⟨kk + 1, by omega, by go_num, _, rfl⟩
                        case measure => simp [intOf]; omega
                  · have hge : ¬ ((kk : Int) < 4096) := by omega
                    go_wp2
                    go_ret
                    exact ⟨rfl, below_draws HB11.out q⟩
end Go.Proofs.Ytedhoeedidmcnaa
