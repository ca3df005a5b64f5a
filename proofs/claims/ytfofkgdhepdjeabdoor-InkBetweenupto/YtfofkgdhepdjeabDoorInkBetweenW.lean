/- The walk of the law InkBetween. -/
import Derived.Test.YtfofkgdhepdjeabDoorBetweenMath
namespace Go.Proofs.YtfofkgdhepdjeabDoor
open Go.RowKit

set_option maxRecDepth 100000 in
set_option maxHeartbeats 4000000 in
theorem walk_InkBetween (a0 : Option Addr) (n0 c0 : Nat) (la : List Int) (a1 : Option Addr) (n1 c1 : Nat) (lb : List Int) (a2 : Option Addr) (n2 c2 : Nat) (lm : List Int) (w : World) (ht : Tab w) (h0 : 0 < w.heap.size)
    (hs0 : Sl w a0 n0 c0 la) (_hn0 : n0 ≤ 140737488351232) (hs1 : Sl w a1 n1 c1 lb) (_hn1 : n1 ≤ 140737488351232) (hs2 : Sl w a2 n2 c2 lm) (_hn2 : n2 ≤ 140737488351232) (hall : n0 + n1 + n2 ≤ 1048576) :
    Calls Tryd.prog 4 #[.slice a0 n0 c0, .slice a1 n1 c1, .slice a2 n2 c2] w fun e w' => e = .returned (.bool true) ∧ Below w.heap.size w w' := by
  have HL := hidden (live_any w ht h0)
  have HS0 := hidden hs0
  have HS1 := hidden hs1
  have HS2 := hidden hs2
  have hla := hs0.hlen
  have hlb := hs1.hlen
  have hlm := hs2.hlen
  have HWA := hidden hs0.wf
  have HWB := hidden hs1.wf
  have hcap1 := hs1.hcap
  have hcap0 := hs0.hcap
  have hoc := ord_cases la lb
  have hbf := between_facts la lb
  have hle := lcp_le la lb
  have hst := strip la n0 (by omega)
  clear ht hs0 hs1 hs2 _hn0 _hn1 _hn2
  have HST := hidden hst
  clear hst
  rcases hoc with ⟨hlt, hor, ho⟩ | ⟨hor, ho⟩
  · obtain ⟨f1, f2, f3⟩ := hbf hlt hor
    clear hbf
    rw [hlb] at hlt
    rw [hla] at hor
    have HOR := hidden hor
    have HO := hidden ho
    have HF1 := hidden f1
    have f2' : ¬ (0 < ordL (lb.take (lcp la lb + 1)) lb) := by omega
    have hcl : (lb.take (lcp la lb + 1)).length = lcp la lb + 1 := by simp; omega
    clear hor ho f1 f2
    go_enter Tryd.func4, Tryd.ntmps4
    go_wp2_with fail
    refine HL.out.mono ?_
    rintro e w1 ⟨rfl, hb⟩
    have HB1 := hidden hb
    clear hb HL
    go_wp2_with fail
    refine quiet_call' (order_any _ _ _ _ _ _ la lb _ (HS0.out.go HB1.out) (HS1.out.go HB1.out)) ?_
    rw [HO.out]
    intro q1
    have HB2 := hidden (below_drewN HB1.out q1)
    clear HB1 HO
    generalize w1.drewN q1 = w2 at *
    go_wp2_with fail
    refine (between_ok _ _ _ _ _ _ la lb _ (HS0.out.go HB2.out) (HS1.out.go HB2.out) hlt HOR.out).mono ?_
    rintro e w3 ⟨vc, rfl, hoc, hb3⟩
    obtain ⟨ac, cc, rfl, hsc, -⟩ := hoc.sl (HWB.out.take _) (by omega)
    rw [hcl] at hsc ⊢
    have HSC := hidden hsc
    have hcc := hsc.hcap
    have HB3 := hidden (HB2.out.trans (hb3.mono HB2.out.size))
    clear hoc hsc hb3 HB2
    go_wp2_with fail
    refine quiet_call' (order_any _ _ _ _ _ _ la _ _ (HS0.out.go HB3.out) HSC.out) ?_
    rw [HF1.out]
    intro q2
    go_wp2_with fail
    refine quiet_call' (order_any _ _ _ _ _ _ _ lb _ (HSC.out.drewN q2) ((HS1.out.go HB3.out).drewN q2)) ?_
    intro q3
    generalize ordL (lb.take (lcp la lb + 1)) lb = oq at *
    generalize hk : lcp la lb = k at *
    clear hk
    have HB4 := hidden (fun q => below_drewN HB3.out q)
    have HSC4 := hidden (fun q => HSC.out.drewN q)
    have k1 : ∀ q, (convert 23 9 (.slice ac (k + 1) cc)).run Tryd.prog (w3.drewN q) = .ok (.string (strOfNums (lb.take (k + 1)))) (w3.drewN q) := fun q => conv_sl (HSC4.out q)
    have k2 : ∀ q, (convert 23 9 (.slice a1 (k + 1) c1)).run Tryd.prog (w3.drewN q) = .ok (.string (strOfNums (lb.take (k + 1)))) (w3.drewN q) := fun q => conv_sl (((HS1.out.go HB3.out).take (k + 1) (by omega)).drewN q)
    have e1 : decide (0 < oq) = false := by simp; omega
    have e2 : decide ((k : Int) + 1 < 1) = false := by simp; omega
    have e3 : decide ((n1 : Int) < (k : Int) + 1) = false := by simp; omega
    have hne : ((strOfNums (lb.take (k + 1))).toList != (strOfNums (lb.take (k + 1))).toList) = false := by simp
    go_wp2_with fail
    go_quiet (fail)
    go_wp2_with fail
    have hst2 : Sl w3 ac k cc (lb.take k) := by
      have h := HSC.out.take k (by omega)
      rwa [List.take_take, Nat.min_eq_left (by omega)] at h
    refine quiet_call' (order_any _ _ _ _ _ _ la (lb.take k) _ ((HS0.out.go HB3.out).drewN _) (hst2.drewN _)) ?_
    clear hst2
    generalize ordL la (lb.take k) = orr at *
    intro q4
    have HBq := hidden (fun q => HB4.out q)
    clear HB4 HSC4 k1 k2 hne
    have e4 : decide (orr < 0) = false := by simp; omega
    go_wp2_with fail
    rcases HST.out with hall255 | ⟨kk, hk0, hkn, hkne, hkall⟩
    · have HALL := hidden hall255
      clear hall255
      refine same_call (behind_none _ _ _ la _ (HS0.out.go (HBq.out _)) HALL.out) ?_
      go_wp2_with fail
      refine (both_any _ _ _ _ _ _ la lm _ (HS0.out.go (HBq.out _)) (HS2.out.go (HBq.out _)) (by omega)).mono ?_
      rintro e w6 ⟨vw, rfl, how, hb6⟩
      have HB6 := hidden ((HBq.out _).trans (hb6.mono (HBq.out _).size))
      have HS06 := hidden (HS0.out.go HB6.out)
      clear how hb6 HBq
      go_wp2_with fail
      go_loop [17] (fun i => ∃ j : Nat, j ≤ n0 ∧ i = .int .i64 j) (fun i => n0 - (intOf i).toNat)
      case atStart => exact ⟨0, by omega, rfl⟩
      case round =>
        obtain ⟨j, hj, rfl⟩ := hrel
        by_cases hjn : j < n0
        · rcases HS06.out.hat with h | ⟨b, off, rfl, hbb, hc⟩
          · omega
          have hck := hc j hjn
          rw [HALL.out j hjn] at hck
          clear hc
          go_wp2
          go_round
          case rel => exact ⟨j + 1, by omega, by go_num⟩
          case measure => simp [intOf]; omega
        · go_wp2
          go_ret
          exact ⟨rfl, HB6.out⟩
    · have hbf2 := behind_facts la lm kk hk0 (by omega)
      have hzw := behind_wf la kk HWA.out hkne
      have HALL := hidden hkall
      have hv := HWA.out.getD (kk - 1)
      refine (behind_some _ _ _ kk la _ (HS0.out.go (HBq.out _)) hk0 hkn hkne hkall).mono ?_
      clear hkall
      obtain ⟨Z, hZ⟩ : ∃ Z, Z = (la.take kk).set (kk - 1) (la.getD (kk - 1) 0 + 1) := ⟨_, rfl⟩
      rw [← hZ] at hbf2 hzw ⊢
      have hzl : Z.length = kk := by rw [hZ]; simp; omega
      obtain ⟨g1, g2, g3⟩ := hbf2
      have hvne : la.getD (kk - 1) 0 ≠ 255 := hkne
      clear hZ hkne
      generalize la.getD (kk - 1) 0 = v at *
      have hv254 : v ≤ 254 := by omega
      clear hvne
      have HG1 := hidden g1
      have HG2 := hidden g2
      have HG3 := hidden g3
      have HZW := hidden hzw
      clear g1 g2 g3 hzw
      rintro e w6 ⟨vz, rfl, hoz, hb6⟩
      have hoz' := hoz
      obtain ⟨az, cz, rfl, hsz, -⟩ := hoz.sl HZW.out (by omega)
      rw [hzl] at hoz' hsz ⊢
      obtain ⟨gz, rfl⟩ : ∃ g, az = some ⟨g, 0, none⟩ := by
        rcases hoz'.2 with ⟨h, _⟩ | ⟨g, cap, cur, h, _⟩
        · simp only [Value.slice.injEq] at h; omega
        · simp only [Value.slice.injEq] at h; exact ⟨g, h.1⟩
      have HB6 := hidden ((HBq.out _).trans (hb6.mono (HBq.out _).size))
      have HSZ := hidden hsz
      have HOZ := hidden hoz'
      clear hoz hoz' hsz hb6 HBq
      go_wp2_with fail
      refine (both_any _ _ _ _ _ _ la lm _ (HS0.out.go HB6.out) (HS2.out.go HB6.out) (by omega)).mono ?_
      rintro e w7 ⟨vw, rfl, how, hb7⟩
      obtain ⟨aw, cw, rfl, hsw, -⟩ := how.sl (HWA.out.append HS2.out.wf) (by simp; omega)
      rw [List.length_append, hla, hlm] at hsw ⊢
      have HSW := hidden hsw
      have HB7 := hidden (HB6.out.trans (hb7.mono HB6.out.size))
      have HSZ7 := hidden (HSZ.out.go hb7)
      have HOZ7 := hidden (HOZ.out.on (Nat.le_refl _) hb7)
      clear how hsw hb7 HB6 HSZ HOZ
      go_wp2_with fail
      refine quiet_call' (order_any _ _ _ _ _ _ (la ++ lm) Z _ HSW.out HSZ7.out) ?_
      rw [HG1.out]
      intro q7
      have HB8 := hidden (below_drewN HB7.out q7)
      have HSZ8 := hidden (HSZ7.out.drewN q7)
      have hcz : (w7.drewN q7).cell? ⟨gz, kk - 1, none⟩ = some (.int .u8 (v + 1)) := by
        have h := own_cell HOZ7.out hzl (show kk - 1 < kk by omega)
        rw [HG3.out] at h
        simpa using h
      clear HB7 HSZ7 HOZ7 HSW
      generalize w7.drewN q7 = w8 at *
      have z1 : decide ((kk : Int) < 1) = false := by simp; omega
      have z2 : decide ((n0 : Int) < (kk : Int)) = false := by simp; omega
      have z3 : (v + 1 == 0) = false := by simp; omega
      obtain ⟨jj, rfl⟩ : ∃ jj, kk = jj + 1 := ⟨kk - 1, by omega⟩
      simp only [Nat.add_sub_cancel] at hcz HG2 HG3
      go_wp2_with fail
      refine (both_any _ none (jj + 1) 0 _ 0 Z [] _ HSZ8.out ⟨rfl, Nat.le_refl _, by omega, Wf.nil, fun _ => rfl, .inl rfl⟩ (by omega)).mono ?_
      rintro e w9 ⟨vl, rfl, hol, hb9⟩
      rw [List.append_nil] at hol
      have hol' := hol
      obtain ⟨al, cl, rfl, hsl, -⟩ := hol.sl HZW.out (by omega)
      rw [hzl] at hol' hsl ⊢
      obtain ⟨gl, rfl⟩ : ∃ g, al = some ⟨g, 0, none⟩ := by
        rcases hol'.2 with ⟨h, _⟩ | ⟨g, cap, cur, h, _⟩
        · simp at h
        · simp only [Value.slice.injEq] at h; exact ⟨g, h.1⟩
      have hce := own_cell hol' hzl (show jj < jj + 1 by omega)
      rw [HG3.out] at hce
      have hfr := own_free hol' hzl jj
      have ho2 := own_set (x := v) hol' hzl (show jj < jj + 1 by omega)
      rw [HG2.out] at ho2
      have hgl := (World.ownsRow.lt hol' gl rfl).1
      have HB9 := hidden ((HB8.out.trans (hb9.mono HB8.out.size)).setCell (p := ⟨gl, jj, none⟩) (Nat.le_trans HB8.out.size hgl) (.int .u8 v))
      have hsl2 := ho2.sl (HWA.out.take _) (by simp; omega)
      obtain ⟨al2, cl2, hev, hsl3, -⟩ := hsl2
      have hl2 : (la.take (jj + 1)).length = jj + 1 := by simp; omega
      rw [hl2] at hev hsl3
      cases hev
      have k3 : ∀ q, (convert 23 9 (.slice (some ⟨gl, 0, none⟩) (jj + 1) cl)).run Tryd.prog ((w9.setCell ⟨gl, jj, none⟩ (.int .u8 v)).drewN q) = .ok (.string (strOfNums (la.take (jj + 1)))) ((w9.setCell ⟨gl, jj, none⟩ (.int .u8 v)).drewN q) := fun q => conv_sl (hsl3.drewN q)
      have k4 : ∀ q, (convert 23 9 (.slice a0 (jj + 1) c0)).run Tryd.prog ((w9.setCell ⟨gl, jj, none⟩ (.int .u8 v)).drewN q) = .ok (.string (strOfNums (la.take (jj + 1)))) ((w9.setCell ⟨gl, jj, none⟩ (.int .u8 v)).drewN q) := fun q => conv_sl (((HS0.out.go HB9.out).take (jj + 1) hkn).drewN q)
      have HS09 := hidden (HS0.out.go HB9.out)
      clear hol hol' hsl hsl3 ho2 hb9 HB8 HSZ8 hcz hgl
      have z4 : decide (jj + 1 ≤ n0) = true := by simp; omega
      have z5 : decide ((jj : Int) + 1 ≤ (n0 : Int)) = true := by simp; omega
      go_wp2_with fail
      go_quiet (fail)
      clear k3 k4 hce hfr
      go_wp2_with fail
      go_loop [20, 21] (fun t i => ∃ j : Nat, jj + 1 ≤ j ∧ j ≤ n0 ∧ t = .bool true ∧ i = .int .i64 j) (fun _ i => n0 - (intOf i).toNat)
      case atStart => exact ⟨jj + 1, Nat.le_refl _, hkn, rfl, by go_num⟩
      case round =>
        obtain ⟨j, hj1, hj2, rfl, rfl⟩ := hrel
        by_cases hjn : j < n0
        · rcases HS09.out.hat with h | ⟨b, off, rfl, hbb, hc⟩
          · omega
          have hck := hc j hjn
          rw [HALL.out j hj1 hjn] at hck
          clear hc
          go_wp2
          go_round
          case rel => exact ⟨j + 1, by omega, by omega, rfl, by go_num⟩
          case measure => simp [intOf]; omega
        · go_wp2
          go_ret
          exact ⟨rfl, below_drewN HB9.out _⟩
  · clear hbf
    rw [hla, hlb] at hor
    have HOR := hidden hor
    generalize hoo : ordL la lb = oo at *
    have HOO := hidden hoo
    have e4 : decide (0 ≤ oo) = true := by simp; omega
    clear hor hoo
    go_enter Tryd.func4, Tryd.ntmps4
    go_wp2_with fail
    refine HL.out.mono ?_
    rintro e w1 ⟨rfl, hb⟩
    have HB1 := hidden hb
    clear hb HL
    go_wp2_with fail
    refine quiet_call' (order_any _ _ _ _ _ _ la lb _ (HS0.out.go HB1.out) (HS1.out.go HB1.out)) ?_
    rw [HOO.out]
    intro q1
    go_wp2_with fail
    refine quiet_call' (between_arg _ _ _ _ _ _ la lb _ ((HS0.out.go HB1.out).drewN q1) ((HS1.out.go HB1.out).drewN q1) HOR.out) ?_
    intro q2
    have HBq := hidden (fun q => below_drewN HB1.out q)
    clear HB1 HOO HOR
    go_wp2_with fail
    rcases HST.out with hall255 | ⟨kk, hk0, hkn, hkne, hkall⟩
    · have HALL := hidden hall255
      clear hall255
      refine same_call (behind_none _ _ _ la _ (HS0.out.go (HBq.out _)) HALL.out) ?_
      go_wp2_with fail
      refine (both_any _ _ _ _ _ _ la lm _ (HS0.out.go (HBq.out _)) (HS2.out.go (HBq.out _)) (by omega)).mono ?_
      rintro e w6 ⟨vw, rfl, how, hb6⟩
      have HB6 := hidden ((HBq.out _).trans (hb6.mono (HBq.out _).size))
      have HS06 := hidden (HS0.out.go HB6.out)
      clear how hb6 HBq
      go_wp2_with fail
      go_loop [17] (fun i => ∃ j : Nat, j ≤ n0 ∧ i = .int .i64 j) (fun i => n0 - (intOf i).toNat)
      case atStart => exact ⟨0, by omega, rfl⟩
      case round =>
        obtain ⟨j, hj, rfl⟩ := hrel
        by_cases hjn : j < n0
        · rcases HS06.out.hat with h | ⟨b, off, rfl, hbb, hc⟩
          · omega
          have hck := hc j hjn
          rw [HALL.out j hjn] at hck
          clear hc
          go_wp2
          go_round
          case rel => exact ⟨j + 1, by omega, by go_num⟩
          case measure => simp [intOf]; omega
        · go_wp2
          go_ret
          exact ⟨rfl, HB6.out⟩
    · have hbf2 := behind_facts la lm kk hk0 (by omega)
      have hzw := behind_wf la kk HWA.out hkne
      have HALL := hidden hkall
      have hv := HWA.out.getD (kk - 1)
      refine (behind_some _ _ _ kk la _ (HS0.out.go (HBq.out _)) hk0 hkn hkne hkall).mono ?_
      clear hkall
      obtain ⟨Z, hZ⟩ : ∃ Z, Z = (la.take kk).set (kk - 1) (la.getD (kk - 1) 0 + 1) := ⟨_, rfl⟩
      rw [← hZ] at hbf2 hzw ⊢
      have hzl : Z.length = kk := by rw [hZ]; simp; omega
      obtain ⟨g1, g2, g3⟩ := hbf2
      have hvne : la.getD (kk - 1) 0 ≠ 255 := hkne
      clear hZ hkne
      generalize la.getD (kk - 1) 0 = v at *
      have hv254 : v ≤ 254 := by omega
      clear hvne
      have HG1 := hidden g1
      have HG2 := hidden g2
      have HG3 := hidden g3
      have HZW := hidden hzw
      clear g1 g2 g3 hzw
      rintro e w6 ⟨vz, rfl, hoz, hb6⟩
      have hoz' := hoz
      obtain ⟨az, cz, rfl, hsz, -⟩ := hoz.sl HZW.out (by omega)
      rw [hzl] at hoz' hsz ⊢
      obtain ⟨gz, rfl⟩ : ∃ g, az = some ⟨g, 0, none⟩ := by
        rcases hoz'.2 with ⟨h, _⟩ | ⟨g, cap, cur, h, _⟩
        · simp only [Value.slice.injEq] at h; omega
        · simp only [Value.slice.injEq] at h; exact ⟨g, h.1⟩
      have HB6 := hidden ((HBq.out _).trans (hb6.mono (HBq.out _).size))
      have HSZ := hidden hsz
      have HOZ := hidden hoz'
      clear hoz hoz' hsz hb6 HBq
      go_wp2_with fail
      refine (both_any _ _ _ _ _ _ la lm _ (HS0.out.go HB6.out) (HS2.out.go HB6.out) (by omega)).mono ?_
      rintro e w7 ⟨vw, rfl, how, hb7⟩
      obtain ⟨aw, cw, rfl, hsw, -⟩ := how.sl (HWA.out.append HS2.out.wf) (by simp; omega)
      rw [List.length_append, hla, hlm] at hsw ⊢
      have HSW := hidden hsw
      have HB7 := hidden (HB6.out.trans (hb7.mono HB6.out.size))
      have HSZ7 := hidden (HSZ.out.go hb7)
      have HOZ7 := hidden (HOZ.out.on (Nat.le_refl _) hb7)
      clear how hsw hb7 HB6 HSZ HOZ
      go_wp2_with fail
      refine quiet_call' (order_any _ _ _ _ _ _ (la ++ lm) Z _ HSW.out HSZ7.out) ?_
      rw [HG1.out]
      intro q7
      have HB8 := hidden (below_drewN HB7.out q7)
      have HSZ8 := hidden (HSZ7.out.drewN q7)
      have hcz : (w7.drewN q7).cell? ⟨gz, kk - 1, none⟩ = some (.int .u8 (v + 1)) := by
        have h := own_cell HOZ7.out hzl (show kk - 1 < kk by omega)
        rw [HG3.out] at h
        simpa using h
      clear HB7 HSZ7 HOZ7 HSW
      generalize w7.drewN q7 = w8 at *
      have z1 : decide ((kk : Int) < 1) = false := by simp; omega
      have z2 : decide ((n0 : Int) < (kk : Int)) = false := by simp; omega
      have z3 : (v + 1 == 0) = false := by simp; omega
      obtain ⟨jj, rfl⟩ : ∃ jj, kk = jj + 1 := ⟨kk - 1, by omega⟩
      simp only [Nat.add_sub_cancel] at hcz HG2 HG3
      go_wp2_with fail
      refine (both_any _ none (jj + 1) 0 _ 0 Z [] _ HSZ8.out ⟨rfl, Nat.le_refl _, by omega, Wf.nil, fun _ => rfl, .inl rfl⟩ (by omega)).mono ?_
      rintro e w9 ⟨vl, rfl, hol, hb9⟩
      rw [List.append_nil] at hol
      have hol' := hol
      obtain ⟨al, cl, rfl, hsl, -⟩ := hol.sl HZW.out (by omega)
      rw [hzl] at hol' hsl ⊢
      obtain ⟨gl, rfl⟩ : ∃ g, al = some ⟨g, 0, none⟩ := by
        rcases hol'.2 with ⟨h, _⟩ | ⟨g, cap, cur, h, _⟩
        · simp at h
        · simp only [Value.slice.injEq] at h; exact ⟨g, h.1⟩
      have hce := own_cell hol' hzl (show jj < jj + 1 by omega)
      rw [HG3.out] at hce
      have hfr := own_free hol' hzl jj
      have ho2 := own_set (x := v) hol' hzl (show jj < jj + 1 by omega)
      rw [HG2.out] at ho2
      have hgl := (World.ownsRow.lt hol' gl rfl).1
      have HB9 := hidden ((HB8.out.trans (hb9.mono HB8.out.size)).setCell (p := ⟨gl, jj, none⟩) (Nat.le_trans HB8.out.size hgl) (.int .u8 v))
      have hsl2 := ho2.sl (HWA.out.take _) (by simp; omega)
      obtain ⟨al2, cl2, hev, hsl3, -⟩ := hsl2
      have hl2 : (la.take (jj + 1)).length = jj + 1 := by simp; omega
      rw [hl2] at hev hsl3
      cases hev
      have k3 : ∀ q, (convert 23 9 (.slice (some ⟨gl, 0, none⟩) (jj + 1) cl)).run Tryd.prog ((w9.setCell ⟨gl, jj, none⟩ (.int .u8 v)).drewN q) = .ok (.string (strOfNums (la.take (jj + 1)))) ((w9.setCell ⟨gl, jj, none⟩ (.int .u8 v)).drewN q) := fun q => conv_sl (hsl3.drewN q)
      have k4 : ∀ q, (convert 23 9 (.slice a0 (jj + 1) c0)).run Tryd.prog ((w9.setCell ⟨gl, jj, none⟩ (.int .u8 v)).drewN q) = .ok (.string (strOfNums (la.take (jj + 1)))) ((w9.setCell ⟨gl, jj, none⟩ (.int .u8 v)).drewN q) := fun q => conv_sl (((HS0.out.go HB9.out).take (jj + 1) hkn).drewN q)
      have HS09 := hidden (HS0.out.go HB9.out)
      clear hol hol' hsl hsl3 ho2 hb9 HB8 HSZ8 hcz hgl
      have z4 : decide (jj + 1 ≤ n0) = true := by simp; omega
      have z5 : decide ((jj : Int) + 1 ≤ (n0 : Int)) = true := by simp; omega
      go_wp2_with fail
      go_quiet (fail)
      clear k3 k4 hce hfr
      go_wp2_with fail
      go_loop [20, 21] (fun t i => ∃ j : Nat, jj + 1 ≤ j ∧ j ≤ n0 ∧ t = .bool true ∧ i = .int .i64 j) (fun _ i => n0 - (intOf i).toNat)
      case atStart => exact ⟨jj + 1, Nat.le_refl _, hkn, rfl, by go_num⟩
      case round =>
        obtain ⟨j, hj1, hj2, rfl, rfl⟩ := hrel
        by_cases hjn : j < n0
        · rcases HS09.out.hat with h | ⟨b, off, rfl, hbb, hc⟩
          · omega
          have hck := hc j hjn
          rw [HALL.out j hj1 hjn] at hck
          clear hc
          go_wp2
          go_round
          case rel => exact ⟨j + 1, by omega, by omega, rfl, by go_num⟩
          case measure => simp [intOf]; omega
        · go_wp2
          go_ret
          exact ⟨rfl, below_drewN HB9.out _⟩
end Go.Proofs.YtfofkgdhepdjeabDoor
