/- The walk of the law PlainTotal. -/
import Derived.Test.YtddjepdgigeelaaDoorJh
import Derived.Laws.Cover1
namespace Go.Proofs.YtddjepdgigeelaaDoor
open Go.RowKit

set_option maxRecDepth 100000 in
set_option maxHeartbeats 4000000 in
theorem walk_PlainTotal (ao : Option Addr) (n ca : Nat) (l : List Int) (qo : Option Addr) (m cq : Nat) (q : List Int) (w : World) (ht : Tab w) (h0 : 0 < w.heap.size) (ha : Sl w ao n ca l) (hn : n ≤ 140737488351232) (hb : Sl w qo m cq q) :
    Calls Tryd.prog 7 #[.slice ao n ca, .slice qo m cq] w fun e w' => e = .returned (.bool true) ∧ Below w.heap.size w w' := by
  have HA := hidden ha
  have HQ := hidden hb
  have HT := hidden ht
  have HLEN := hidden ha.hlen
  have HAW := hidden (awake_any w ht h0)
  have hnI : (n : Int) ≤ 140737488351232 := by omega
  clear ha hb ht
  go_enter Tryd.func7, Tryd.ntmps7
  go_wp2_with (first | (go_at_call 8; refine HAW.out.mono ?_; rintro e w1 ⟨rfl, hb1⟩; have HB1 := hidden hb1; clear hb1; refine Hid.out ?_))
  apply hidden
  have h1 : 0 < w1.heap.size := Nat.lt_of_lt_of_le h0 HB1.out.size
  have HD := hidden (decode_any ao n ca l w1 (HA.out.on (Nat.le_refl _) HB1.out) (HT.out.on HB1.out h0) h1)
  clear HAW
  go_wp2_with (first | (go_at_call 19; refine HD.out.mono ?_; rintro e w2 ⟨k, co, cn, cc, c, rfl, HB2, HDQ⟩; refine Hid.out ?_))
  apply hidden
  have HB12 : Hid (Below w.heap.size w w2) := hidden (bl_go HB1.out (Nat.le_refl _) HB2.out)
  have HO := hidden (open_any ao n ca l w2 (HA.out.on (Nat.le_refl _) HB12.out) (HT.out.on HB12.out h0) (Nat.lt_of_lt_of_le h0 HB12.out.size))
  clear HD
  go_wp2_with (first | (go_at_call 20; refine HO.out.mono ?_; rintro e w3 ⟨po, ec, rfl, HB3, HOQ⟩; refine Hid.out ?_))
  apply hidden
  have HB13 : Hid (Below w.heap.size w w3) := hidden (bl_go HB12.out (Nat.le_refl _) HB3.out)
  clear HO
  by_cases his : ∃ cs, Is (l.getD 0 0) l.length cs l
  · obtain ⟨cs, his⟩ := his
    obtain ⟨g, rfl, rfl, rfl, rfl, rfl, hwf, hg, hrow, hdat⟩ : ∃ g, c = 0 ∧ k = l.getD 0 0 ∧ co = some ⟨g, 0, none⟩ ∧ cn = cs.length ∧ cc = cs.length ∧ (∀ d ∈ cs, d.Wf) ∧ w1.heap.size ≤ g ∧ RowC w2 g cs.length ∧ ∀ i d, cs[i]? = some d → DAt w2 w1.heap.size g (i * 5) d := by
      rcases HDQ.out with ⟨_, _, _, _, _, h⟩ | ⟨ds, g, a1, a2, a3, a4, a5, a6, a7⟩
      · exact absurd ⟨cs, his⟩ h
      · obtain rfl : ds = cs := (a6.one his).2.2
        exact ⟨g, a1, a2, a3, a4, a5, a7⟩
    obtain ⟨a, bo, bn, bc, so, sn, sc, rfl, rfl, hpg⟩ : ∃ a bo bn bc so sn sc, po = some ⟨a, 0, none⟩ ∧ ec = 0 ∧ PgAt w3 a (l.getD 0 0) l.length bo bn bc so sn sc cs := by
      rcases HOQ.out with ⟨_, _, h⟩ | ⟨a, bo, bn, bc, so, sn, sc, ds, a1, a2, _, a4, _, a6⟩
      · exact absurd ⟨cs, his⟩ h
      · obtain rfl : ds = cs := (a4.one his).2.2
        exact ⟨a, bo, bn, bc, so, sn, sc, a1, a2, a6⟩
    have HSC : Hid (SlC w3 (some ⟨g, 0, none⟩) cs.length cs.length cs) := hidden ((dec_slc hrow hdat hwf his.fits his.few.1).on HB3.out)
    have HIS := hidden his
    have HPG := hidden hpg
    have HFEW := hidden his.few
    obtain ⟨K, hK⟩ : ∃ K, l.getD 0 0 = K := ⟨_, rfl⟩
    rw [hK] at HPG HIS ⊢
    have HENC := hidden (encode_plain K (n : Int) (some ⟨g, 0, none⟩) cs.length cs.length cs w3 HSC.out (by have := HFEW.out; omega) (HT.out.on HB13.out h0) (Nat.lt_of_lt_of_le h0 HB13.out.size))
    obtain ⟨N, hN⟩ : ∃ N, cs.length = N := ⟨_, rfl⟩
    rw [hN] at HSC HENC ⊢
    have HN := hidden hN
    have hNb : N ≤ 65536 := by rw [← hN]; exact his.few.1
    have hNI : (N : Int) ≤ 65536 := by omega
    clear HDQ HOQ hrow hdat hwf his hpg hK hN hg
    go_wp2_with (first | (go_at_call 13; refine HENC.out.mono ?_; rintro e w4 ⟨eo, em, ecp, ece, rfl, HB4, HEQ⟩; refine Hid.out ?_))
    apply hidden
    obtain ⟨rfl, g2, rfl, rfl, rfl, hbk⟩ : ece = 0 ∧ ∃ g2, eo = some ⟨g2, 0, none⟩ ∧ em = n ∧ ecp = n ∧ Bk w4 g2 l := by
      obtain ⟨e1, e2⟩ := HEQ.out
      have e0 : encE K (n : Int) cs = 0 := by have := HIS.out.enc; rwa [HLEN.out] at this
      rw [e0] at e1
      rcases e2 with ⟨h, _⟩ | ⟨_, g2, a1, a2, a3, _, a5⟩
      · exact absurd e1 h
      · rw [Int.toNat_natCast] at a2 a3 a5
        refine ⟨e1, g2, a1, a2, a3, ?_⟩
        have := HIS.out.eq
        rw [HLEN.out] at this
        rw [this] at a5
        exact a5
    have HB14 : Hid (Below w.heap.size w w4) := hidden (bl_go HB13.out (Nat.le_refl _) HB4.out)
    have k1 := conv_sl (hbk.sl HLEN.out HA.out.wf (by omega))
    have k2 := conv_sl (HA.out.on (Nat.le_refl _) HB14.out)
    have hne : ((strOfNums l).toList != (strOfNums l).toList) = false := by simp
    have HSC4 : Hid (SlC w4 (some ⟨g, 0, none⟩) N N cs) := hidden (HSC.out.on HB4.out)
    have HPG4 := hidden (HPG.out.on HB4.out)
    have HQ4 := hidden (HQ.out.on (Nat.le_refl _) HB14.out)
    clear hbk HEQ HENC
    obtain ⟨r, hr⟩ := fnd_ex HIS.out.rise q
    have HR := hidden hr
    have hrN : r ≤ N := by have := hr.le; have := HN.out; omega
    clear hr
    go_wp2_with fail
    go_loopw [13, 14] (fun v i wr => ∃ j p : Nat, j ≤ N ∧ p ≤ N ∧ i = .int .i64 j ∧ v = .int .i64 p ∧ Hid (p = min j r) ∧ Hid (Below w4.heap.size w4 wr)) (fun _ i _ => N - (intOf i).toNat)
    case atStart => exact ⟨0, 0, by omega, by omega, rfl, rfl, hidden (by simp), hidden (Below.refl _ _)⟩
    case round =>
      obtain ⟨j, p, hj, hp, rfl, rfl, HP, HB⟩ := hrel
      have bj : (j : Int) ≤ 65536 := by omega
      have bp : (p : Int) ≤ 65536 := by omega
      have HBW : Hid (Below w.heap.size w wr) := hidden (bl_go HB14.out (Nat.le_refl _) HB.out)
      have HFA : Hid (∀ u qo qn qc q, Below w4.heap.size w4 u → Sl u qo qn qc q → Calls Tryd.prog 29 #[.pointer (some ⟨a, 0, none⟩), .slice qo qn qc] u fun e w' => FindTo cs q u e w') := hidden fun u qo qn qc q hu hq =>
        find_any u a K l.length bo bn bc so sn sc cs (HPG4.out.on hu) HIS.out.ok (by have := pw_nat HIS.out.sz; omega) HIS.out.fit qo qn qc q hq
      by_cases hlt : j < N
      · have hltI : (j : Int) < (N : Int) := by omega
        obtain ⟨b, off, c, ka, kc, va, vc, hbo, hb, hci, c0, c1, c2, c3, c4, hk, hv⟩ := (HSC4.out.on HB.out).item j hlt
        injection hbo with hbo
        injection hbo with hb1 hb2
        subst hb1 hb2
        have HKS := hidden hk
        have HCI := hidden hci
        have k4 : ∀ z, (convert 27 9 (.slice ka c.key.length kc)).run Tryd.prog (wr.drewN z) = .ok (.string (strOfNums c.key)) (wr.drewN z) := fun z => conv_sl (hk.drewN z)
        have k4' := conv_sl hk
        have HGL := hidden hb
        clear hk hv hci c1 c2 c3 c4 hb
        rw [Nat.zero_add] at c0
        have HFJ : Hid (∀ u, Below wr.heap.size wr u → Calls Tryd.prog 29 #[.pointer (some ⟨a, 0, none⟩), .slice ka c.key.length kc] u fun e w' => e = .returned (.tuple #[.int .i64 (j : Int), .bool true]) ∧ Hid (Below u.heap.size u w')) := hidden fun u hu => by
          refine (HFA.out u ka c.key.length kc c.key (bl_go HB.out (Nat.le_refl _) hu) (HKS.out.on (Nat.le_refl _) hu)).mono ?_
          rintro e w' ⟨r', is, rfl, hb', hq'⟩
          obtain ⟨f1, f2⟩ := hq'.out
          have e1 : r' = j := f1.one (fnd_self HIS.out.rise j c HCI.out)
          subst e1
          obtain rfl : is = true := f2.2 ⟨c, HCI.out, rfl⟩
          exact ⟨rfl, hb'⟩
        have HLS : Hid (Op.bytesLess (strOfNums c.key).toList (strOfNums q).toList = decide (j < r)) := hidden (by
          rw [str_less HKS.out.wf HQ.out.wf]
          exact decide_eq_decide.2 (HR.out.iff j c HCI.out))
        go_wp2_with fail
        by_cases hj0 : j = 0
        · subst hj0
          go_quiet (fail)
          have HBQ : Hid (Below wr.heap.size wr (wr.drewN nq)) := hidden (bl_dr (Below.refl _ _) _)
          go_wp2_with (first | (go_at_call 29; refine (HFJ.out _ HBQ.out).mono ?_; rintro e w5 ⟨rfl, HB5⟩; refine Hid.out ?_))
          apply hidden
          have HWR5 : Hid (Below wr.heap.size wr w5) := hidden (bl_go HBQ.out (Nat.le_refl _) HB5.out)
          have HB45 : Hid (Below w4.heap.size w4 w5) := hidden (bl_go HB.out (Nat.le_refl _) HWR5.out)
          have c5 := (HWR5.out.cell (p := ⟨g, 0 * 5, none⟩) HGL.out).trans c0
          have k5 : ∀ z, (convert 27 9 (.slice ka c.key.length kc)).run Tryd.prog (w5.drewN z) = .ok (.string (strOfNums c.key)) (w5.drewN z) := fun z => conv_sl ((HKS.out.on (Nat.le_refl _) HWR5.out).drewN z)
          have k6 : ∀ z, (convert 27 9 (.slice qo m cq)).run Tryd.prog (w5.drewN z) = .ok (.string (strOfNums q)) (w5.drewN z) := fun z => conv_sl ((HQ4.out.on (Nat.le_refl _) HB45.out).drewN z)
          clear c0 k4 k4'
          by_cases hjr : 0 < r
          · have hls2 : Op.bytesLess (strOfNums c.key).toList (strOfNums q).toList = true := by rw [HLS.out]; simpa using hjr
            go_wp2_with fail
            go_quiet (fail)
            go_wp2
            go_roundw
            case rel => exact ⟨0 + 1, p + 1, by omega, by have := HP.out; omega, by go_num, by go_num, hidden (by have := HP.out; omega), hidden (bl_dr HB45.out _)⟩
            case measure => simp [intOf]; omega
          · have hls2 : Op.bytesLess (strOfNums c.key).toList (strOfNums q).toList = false := by rw [HLS.out]; simpa using hjr
            go_wp2_with fail
            go_quiet (fail)
            go_wp2
            go_roundw
            case rel => exact ⟨0 + 1, p, by omega, by omega, by go_num, by go_num, hidden (by have := HP.out; omega), hidden (bl_dr HB45.out _)⟩
            case measure => simp [intOf]; omega
        · obtain ⟨i, hij⟩ : ∃ i, j = i + 1 := ⟨j - 1, by omega⟩
          obtain ⟨b', off', c', ka', kc', va', vc', hbo', hb', hci', e0, e1, e2, e3, e4, hk', hv'⟩ := (HSC4.out.on HB.out).item i (by omega)
          injection hbo' with hbo'
          injection hbo' with hb1' hb2'
          subst hb1' hb2'
          have k3 : ∀ z, (convert 27 9 (.slice ka' c'.key.length kc')).run Tryd.prog (wr.drewN z) = .ok (.string (strOfNums c'.key)) (wr.drewN z) := fun z => conv_sl (hk'.drewN z)
          have hls : Op.bytesLess (strOfNums c'.key).toList (strOfNums c.key).toList = true := by
            rw [str_less hk'.wf HKS.out.wf]
            exact decide_eq_true (HIS.out.rise i j c' c (by omega) hci' HCI.out)
          have i1 : (i : Int) < (N : Int) := by omega
          have i2 : i < N := by omega
          have i3 : (i : Int) ≤ 65536 := by omega
          have i4 : IntKind.i64.wrap ((j : Int) - 1) = (i : Int) := by rw [IntKind.wrap_i64]; omega
          have i5 : 0 < (j : Int) := by omega
          have i6 : 0 < j := by omega
          clear hk' hv' hci' e1 e2 e3 e4 hb' hij hj0
          rw [Nat.zero_add] at e0
          go_quiet (fail)
          have HBQ : Hid (Below wr.heap.size wr (wr.drewN nq)) := hidden (bl_dr (Below.refl _ _) _)
          go_wp2_with (first | (go_at_call 29; refine (HFJ.out _ HBQ.out).mono ?_; rintro e w5 ⟨rfl, HB5⟩; refine Hid.out ?_))
          apply hidden
          have HWR5 : Hid (Below wr.heap.size wr w5) := hidden (bl_go HBQ.out (Nat.le_refl _) HB5.out)
          have HB45 : Hid (Below w4.heap.size w4 w5) := hidden (bl_go HB.out (Nat.le_refl _) HWR5.out)
          have c5 := (HWR5.out.cell (p := ⟨g, j * 5, none⟩) HGL.out).trans c0
          have k5 : ∀ z, (convert 27 9 (.slice ka c.key.length kc)).run Tryd.prog (w5.drewN z) = .ok (.string (strOfNums c.key)) (w5.drewN z) := fun z => conv_sl ((HKS.out.on (Nat.le_refl _) HWR5.out).drewN z)
          have k6 : ∀ z, (convert 27 9 (.slice qo m cq)).run Tryd.prog (w5.drewN z) = .ok (.string (strOfNums q)) (w5.drewN z) := fun z => conv_sl ((HQ4.out.on (Nat.le_refl _) HB45.out).drewN z)
          clear c0 k4 k4'
          by_cases hjr : j < r
          · have hls2 : Op.bytesLess (strOfNums c.key).toList (strOfNums q).toList = true := by rw [HLS.out]; simpa using hjr
            go_wp2_with fail
            go_quiet (fail)
            go_wp2
            go_roundw
            case rel => exact ⟨j + 1, p + 1, by omega, by have := HP.out; omega, by go_num, by go_num, hidden (by have := HP.out; omega), hidden (bl_dr HB45.out _)⟩
            case measure => simp [intOf]; omega
          · have hls2 : Op.bytesLess (strOfNums c.key).toList (strOfNums q).toList = false := by rw [HLS.out]; simpa using hjr
            go_wp2_with fail
            go_quiet (fail)
            go_wp2
            go_roundw
            case rel => exact ⟨j + 1, p, by omega, by omega, by go_num, by go_num, hidden (by have := HP.out; omega), hidden (bl_dr HB45.out _)⟩
            case measure => simp [intOf]; omega
      · obtain rfl : j = N := by omega
        have hlI : ¬ (j : Int) < (j : Int) := by omega
        obtain rfl : p = r := by have := HP.out; omega
        go_wp2_with (first | (go_at_call 29; refine (HFA.out _ qo m cq q HB.out (HQ4.out.on (Nat.le_refl _) HB.out)).mono ?_; rintro e w5 ⟨r', is, rfl, HB5, HQQ⟩; refine Hid.out ?_))
        apply hidden
        obtain ⟨f1, f2⟩ := HQQ.out
        obtain rfl : r' = p := f1.one HR.out
        have HB45 : Hid (Below w4.heap.size w4 w5) := hidden (bl_go HB.out (Nat.le_refl _) HB5.out)
        have HW5 : Hid (Below w.heap.size w w5) := hidden (bl_go HB14.out (Nat.le_refl _) HB45.out)
        have k6 := conv_sl (HQ4.out.on (Nat.le_refl _) HB45.out)
        have k7 : ∀ z, (convert 27 9 (.slice qo m cq)).run Tryd.prog (w5.drewN z) = .ok (.string (strOfNums q)) (w5.drewN z) := fun z => conv_sl ((HQ4.out.on (Nat.le_refl _) HB45.out).drewN z)
        by_cases hrj : r' < j
        · have hrI : (r' : Int) < (j : Int) := by omega
          obtain ⟨b, off, c, ka, kc, va, vc, hbo, hb, hci, c0, c1, c2, c3, c4, hk, hv⟩ := (HSC4.out.on HB45.out).item r' hrj
          injection hbo with hbo
          injection hbo with hb1 hb2
          subst hb1 hb2
          rw [Nat.zero_add] at c0
          have k4 : ∀ z, (convert 27 9 (.slice ka c.key.length kc)).run Tryd.prog (w5.drewN z) = .ok (.string (strOfNums c.key)) (w5.drewN z) := fun z => conv_sl (hk.drewN z)
          have k4' := conv_sl hk
          have hse := str_beq hk.wf HQ.out.wf
          have his : is = decide (c.key = q) := by
            cases is with
            | true =>
              obtain ⟨d, hd, e⟩ := f2.1 rfl
              rw [hci] at hd
              injection hd with hd
              subst hd
              simp [e]
            | false =>
              symm
              rw [decide_eq_false_iff_not]
              intro e
              have := f2.2 ⟨c, hci, e⟩
              cases this
          clear hk hv hci c1 c2 c3 c4 hb f1 f2 HQQ
          subst his
          generalize decide (c.key = q) = bb at *
          go_wp2_with fail
          go_quiet (fail)
          go_wp2
          go_ret
          exact ⟨rfl, bl_dr HW5.out _⟩
        · have hrI : ¬ (r' : Int) < (j : Int) := by omega
          obtain rfl : is = false := by
            cases is with
            | false => rfl
            | true =>
              obtain ⟨d, hd, _⟩ := f2.1 rfl
              have := (List.getElem?_eq_some_iff.1 hd).1
              have := HN.out
              omega
          clear f1 f2 HQQ
          go_wp2_with fail
          go_quiet (fail)
          go_wp2
          go_ret
          exact ⟨rfl, bl_dr HW5.out _⟩
  · have HNO := hidden his
    obtain ⟨rfl, rfl, rfl, rfl, rfl⟩ : c = 60 ∧ k = 0 ∧ co = none ∧ cn = 0 ∧ cc = 0 := by
      rcases HDQ.out with ⟨a1, a2, a3, a4, a5, _⟩ | ⟨ds, g, a1, a2, a3, a4, a5, a6, a7⟩
      · exact ⟨a1, a2, a3, a4, a5⟩
      · exact absurd ⟨ds, a6⟩ his
    obtain ⟨rfl, rfl⟩ : po = none ∧ ec = 60 := by
      rcases HOQ.out with ⟨a1, a2, _⟩ | ⟨a, bo, bn, bc, so, sn, sc, ds, a1, a2, _, a4, _, a6⟩
      · exact ⟨a1, a2⟩
      · exact absurd ⟨ds, a4⟩ his
    clear his HDQ HOQ HNO
    go_wp2
    go_ret
    exact ⟨rfl, HB13.out⟩
end Go.Proofs.YtddjepdgigeelaaDoor
