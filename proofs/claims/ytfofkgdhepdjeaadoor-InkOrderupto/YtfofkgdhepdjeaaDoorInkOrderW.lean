/- The walk of the law InkOrder. -/
import Derived.Test.YtfofkgdhepdjeaaDoorLive
import Derived.Test.YtfofkgdhepdjeaaDoorOrder
namespace Go.Proofs.YtfofkgdhepdjeaaDoor
open Go.RowKit

theorem oB_cons (x : Int) (a : List Int) : oB (x :: a) = oC x ++ oB a := by simp [oB, oM]
theorem ord_o : ∀ (a b c d : List Int), Wf a → Wf b → a ≠ b → ordL (oB a ++ c) (oB b ++ d) = ordL a b
  | [], [], _, _, _, _, h => (h rfl).elim
  | [], y :: b, c, d, _, hb, _ => by
    have hy := hb y (by simp)
    rw [oB_cons]
    unfold oC
    split
    · simp [oB, oM, ordL]
    · simp [oB, oM, ordL]; omega
  | x :: a, [], c, d, ha, _, _ => by
    have hx := ha x (by simp)
    rw [oB_cons]
    unfold oC
    split
    · simp [oB, oM, ordL]
    · have h1 : ¬ x < 0 := by omega
      have h2 : 0 < x := by omega
      simp [oB, oM, ordL, h1, h2]
  | x :: a, y :: b, c, d, ha, hb, h => by
    have hx := ha x (by simp)
    have hy := hb y (by simp)
    by_cases e : x = y
    · subst e
      rw [oB_cons, oB_cons, List.append_assoc, List.append_assoc, ordL_pre, ord_o a b c d (fun z hz => ha z (by simp [hz])) (fun z hz => hb z (by simp [hz])) (fun e => h (by rw [e]))]
      simp [ordL]
    · rw [oB_cons, oB_cons]
      rcases Int.lt_or_gt_of_ne e with hlt | hgt
      · have hy0 : ¬ y = 0 := by omega
        unfold oC
        rw [if_neg hy0]
        split
        · rename_i h0
          subst h0
          simp [ordL, hlt]
        · simp [ordL, hlt]
      · have hx0 : ¬ x = 0 := by omega
        have hn : ¬ x < y := by omega
        unfold oC
        rw [if_neg hx0]
        split
        · rename_i h0
          subst h0
          simp [ordL, hgt, hn]
        · simp [ordL, hgt, hn]
theorem ord_o1 (a b : List Int) (ha : Wf a) (hb : Wf b) : ordL (oB a) (oB b) = ordL a b := by
  by_cases h : a = b
  · subst h; rw [ordL_self, ordL_self]
  · have := ord_o a b [] [] ha hb h
    simpa using this
theorem oB_begins (a b : List Int) (ha : Wf a) (hb : Wf b) (h : a ≠ b) : (oB b).take (oB a).length ≠ oB a := by
  intro e
  have h1 : oB b = oB a ++ (oB b).drop (oB a).length := by
    conv => lhs; rw [← List.take_append_drop (oB a).length (oB b), e]
  have h2 := ord_o a b ((oB b).drop (oB a).length) [] ha hb h
  rw [← h1, List.append_nil, ordL_self] at h2
  exact h (ordL_eq a b h2.symm)

set_option maxHeartbeats 2000000 in
theorem walk_InkOrder (a : Option Addr) (n c : Nat) (la : List Int) (a1 : Option Addr) (n1 c1 : Nat) (lb : List Int) (a2 : Option Addr) (n2 c2 : Nat) (lc : List Int) (a3 : Option Addr) (n3 c3 : Nat) (ld : List Int) (w : World) (ht : Tab w) (h0 : 0 < w.heap.size)
    (hs : Sl w a n c la) (_hn : n ≤ 140737488351232) (hs1 : Sl w a1 n1 c1 lb) (_hn1 : n1 ≤ 140737488351232) (hs2 : Sl w a2 n2 c2 lc) (_hn2 : n2 ≤ 140737488351232) (hs3 : Sl w a3 n3 c3 ld) (_hn3 : n3 ≤ 140737488351232) (hall : n + n1 + n2 + n3 ≤ 1048576) :
    Calls Tryd.prog 8 #[.slice a n c, .slice a1 n1 c1, .slice a2 n2 c2, .slice a3 n3 c3] w fun e w' => e = .returned (.bool true) ∧ Below w.heap.size w w' := by
  have HL := hidden (live_any w ht h0)
  have HS := hidden hs
  have HS1 := hidden hs1
  have HS2 := hidden hs2
  have HS3 := hidden hs3
  have hwa := hs.wf
  have hwb := hs1.wf
  have hla := hs.hlen
  have hlb := hs1.hlen
  clear ht hs hs1 hs2 hs3 _hn _hn1 _hn2 _hn3
  have hX := oB_length la
  have hY := oB_length lb
  have HO1 := hidden (ord_o1 la lb hwa hwb)
  have HO2 := hidden (fun h => ord_o la lb lc ld hwa hwb h)
  have HP := hidden (fun h => oB_begins la lb hwa hwb h)
  have HP' := hidden (fun h => oB_begins lb la hwb hwa h)
  have HWX := hidden (oB_wf la hwa)
  have HWY := hidden (oB_wf lb hwb)
  clear hwa hwb
  generalize hXe : oB la = X at *
  generalize hYe : oB lb = Y at *
  have HXe := hidden hXe
  have HYe := hidden hYe
  clear hXe hYe
  go_enter Tryd.func8, Tryd.ntmps8
  go_wp2_with fail
  refine HL.out.mono ?_
  rintro e w1 ⟨rfl, hb⟩
  have HB := hidden hb
  clear hb
  go_wp2_with fail
  refine (ordered_any _ _ _ la _ (HS.out.go HB.out) (by omega)).mono ?_
  rintro e w2 ⟨vx, rfl, hox, hb2⟩
  rw [HXe.out] at hox
  obtain ⟨ax, cx, rfl, hsx, -⟩ := hox.sl HWX.out (by omega)
  have HB2 := hidden (HB.out.trans (hb2.mono HB.out.size))
  have HSX := hidden hsx
  clear hox hb2 hsx HB HL
  go_wp2_with fail
  refine (ordered_any _ _ _ lb _ (HS1.out.go HB2.out) (by omega)).mono ?_
  rintro e w3 ⟨vy, rfl, hoy, hb3⟩
  rw [HYe.out] at hoy
  obtain ⟨ay, cy, rfl, hsy, -⟩ := hoy.sl HWY.out (by omega)
  have HB3 := hidden (HB2.out.trans (hb3.mono HB2.out.size))
  have HSX3 := hidden (HSX.out.go hb3)
  have HSY := hidden hsy
  clear hoy hb3 hsy HB2 HSX
  go_wp2_with fail
  refine quiet_call (order_any _ _ _ _ _ _ la lb _ (HS.out.go HB3.out) (HS1.out.go HB3.out)) ?_
  intro q1
  go_wp2_with fail
  refine quiet_call (order_any _ _ _ _ _ _ X Y _ (HSX3.out.drewN q1) (HSY.out.drewN q1)) ?_
  rw [HO1.out]
  intro q2
  go_wp2_with fail
  have HB4 := hidden (below_drewN HB3.out (q1 + q2))
  have HSX4 := hidden (HSX3.out.drewN (q1 + q2))
  have HSY4 := hidden (HSY.out.drewN (q1 + q2))
  clear HB3 HSX3 HSY
  generalize w3.drewN (q1 + q2) = w4 at *
  refine (both_any _ _ _ _ _ _ X lc _ HSX4.out (HS2.out.go HB4.out) (by omega)).mono ?_
  rintro e w5 ⟨vw, rfl, how, hb5⟩
  obtain ⟨aw, cw, rfl, hsw, -⟩ := how.sl (HWX.out.append HS2.out.wf) (by have := HS2.out.hlen; simp; omega)
  have HB5 := hidden (HB4.out.trans (hb5.mono HB4.out.size))
  have HSX5 := hidden (HSX4.out.go hb5)
  have HSY5 := hidden (HSY4.out.go hb5)
  have HSW : Hid (Sl w5 aw (X.length + lc.length) cw (X ++ lc)) := by rw [← List.length_append]; exact hsw
  clear how hb5 hsw HB4 HSX4 HSY4
  go_wp2_with fail
  refine (both_any _ _ _ _ _ _ Y ld _ HSY5.out (HS3.out.go HB5.out) (by omega)).mono ?_
  rintro e w6 ⟨vf, rfl, hof, hb6⟩
  obtain ⟨af, cf, rfl, hsf, -⟩ := hof.sl (HWY.out.append HS3.out.wf) (by have := HS3.out.hlen; simp; omega)
  have HB6 := hidden (HB5.out.trans (hb6.mono HB5.out.size))
  have HSX6 := hidden (HSX5.out.go hb6)
  have HSY6 := hidden (HSY5.out.go hb6)
  have HSW6 := hidden (HSW.out.go hb6)
  have HSF : Hid (Sl w6 af (Y.length + ld.length) cf (Y ++ ld)) := by rw [← List.length_append]; exact hsf
  clear hof hb6 hsf HB5 HSX5 HSY5 HSW
  go_wp2_with fail
  refine quiet_call (order_any _ _ _ _ _ _ (X ++ lc) (Y ++ ld) _ HSW6.out HSF.out) ?_
  intro q3
  have HB7 := hidden (below_drewN HB6.out q3)
  have HSX7 := hidden (fun q => (HSX6.out.drewN q3).drewN q)
  have HSY7 := hidden (fun q => (HSY6.out.drewN q3).drewN q)
  clear HB6 HSX6 HSY6 HSW6 HSF HS HS1 HS2 HS3
  generalize w6.drewN q3 = w7 at *
  by_cases hab : la = lb
  · subst hab
    obtain rfl : X = Y := HXe.out.symm.trans HYe.out
    have ho : ordL la la = 0 := ordL_self la
    have k1 : ∀ q, (convert 24 9 (.slice ax X.length cx)).run Tryd.prog (w7.drewN q) = .ok (.string (strOfNums X)) (w7.drewN q) := fun q => conv_sl (HSX7.out q)
    have k2 : ∀ q, (convert 24 9 (.slice ay X.length cy)).run Tryd.prog (w7.drewN q) = .ok (.string (strOfNums X)) (w7.drewN q) := fun q => conv_sl (HSY7.out q)
    have hcy := (HSY7.out 0).hcap
    clear HO1 HO2 HP HP' HXe HYe
    go_wp2_with fail
    go_quiet (fail)
    go_wp2
    go_ret
    exact ⟨rfl, below_drewN HB7.out _⟩
  · have ho : ordL la lb ≠ 0 := fun e => hab (ordL_eq la lb e)
    have hob : (ordL la lb == 0) = false := by simp [ho]
    have hq := HO2.out hab
    have k1 : ∀ q, (convert 24 9 (.slice ax X.length cx)).run Tryd.prog (w7.drewN q) = .ok (.string (strOfNums X)) (w7.drewN q) := fun q => conv_sl (HSX7.out q)
    have k2 : ∀ q, (convert 24 9 (.slice ay Y.length cy)).run Tryd.prog (w7.drewN q) = .ok (.string (strOfNums Y)) (w7.drewN q) := fun q => conv_sl (HSY7.out q)
    have hcx := (HSX7.out 0).hcap
    have hcy := (HSY7.out 0).hcap
    have hne1 := HP.out hab
    have hne2 := HP'.out (fun e => hab e.symm)
    rcases Nat.lt_trichotomy X.length Y.length with hlt | heq | hgt
    · have k3 : ∀ q, (convert 24 9 (.slice ay X.length cy)).run Tryd.prog (w7.drewN q) = .ok (.string (strOfNums (Y.take X.length))) (w7.drewN q) := fun q => conv_sl ((HSY7.out q).take X.length (by omega))
      have h3 := str_beq HWX.out (HWY.out.take X.length)
      rw [decide_eq_false (fun e => hne1 e.symm)] at h3
      clear hne1 hne2 HO1 HO2 HP HP' HXe HYe ho hab
      have hd1 : decide (Y.length ≤ X.length) = false := by simp; omega
      have hd2 : decide (X.length ≤ Y.length) = true := by simp; omega
      generalize ordL la lb = o at *
      go_wp2_with fail
      go_quiet (fail)
      go_wp2
      go_ret
      exact ⟨rfl, below_drewN HB7.out _⟩
    · have h3 := str_beq HWX.out HWY.out
      have hXY : X ≠ Y := fun e => hne1 (by rw [← e]; exact List.take_length)
      rw [decide_eq_false hXY] at h3
      have h4 := str_beq HWY.out HWX.out
      rw [decide_eq_false (fun e => hXY e.symm)] at h4
      clear hne1 hne2 HO1 HO2 HP HP' HXe HYe ho hab hXY
      rw [heq] at k1 hcx
      generalize ordL la lb = o at *
      go_wp2_with fail
      go_quiet (fail)
      go_wp2
      go_ret
      exact ⟨rfl, below_drewN HB7.out _⟩
    · have k3 : ∀ q, (convert 24 9 (.slice ax Y.length cx)).run Tryd.prog (w7.drewN q) = .ok (.string (strOfNums (X.take Y.length))) (w7.drewN q) := fun q => conv_sl ((HSX7.out q).take Y.length (by omega))
      have h3 := str_beq HWY.out (HWX.out.take Y.length)
      rw [decide_eq_false (fun e => hne2 e.symm)] at h3
      clear hne1 hne2 HO1 HO2 HP HP' HXe HYe ho hab
      have hd1 : decide (X.length ≤ Y.length) = false := by simp; omega
      have hd2 : decide (Y.length ≤ X.length) = true := by simp; omega
      generalize ordL la lb = o at *
      go_wp2_with fail
      go_quiet (fail)
      go_wp2
      go_ret
      exact ⟨rfl, below_drewN HB7.out _⟩
end Go.Proofs.YtfofkgdhepdjeaaDoor
