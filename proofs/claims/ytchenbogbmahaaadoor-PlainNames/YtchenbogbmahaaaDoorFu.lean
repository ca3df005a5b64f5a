/- plain.Decode. -/
import Derived.Test.YtchenbogbmahaaaDoorFt
namespace Go.Proofs.YtchenbogbmahaaaDoor
open Go.RowKit

/-- What Decode comes to. -/
def DecTo (l : List Int) (w : World) (e : Ending) (w' : World) : Prop :=
  ∃ k ao n cap c, e = .returned (.tuple #[.int .i64 k, .slice ao n cap, .int .i64 c]) ∧ Hid (Below w.heap.size w w') ∧
    Hid ((c = 60 ∧ k = 0 ∧ ao = none ∧ n = 0 ∧ cap = 0 ∧ ¬ ∃ cs, Is (l.getD 0 0) l.length cs l) ∨
      ∃ cs g, c = 0 ∧ k = l.getD 0 0 ∧ ao = some ⟨g, 0, none⟩ ∧ n = cs.length ∧ cap = cs.length ∧ Is (l.getD 0 0) l.length cs l ∧ (∀ d ∈ cs, d.Wf) ∧ w.heap.size ≤ g ∧ RowC w' g cs.length ∧ ∀ i d, cs[i]? = some d → DAt w' w.heap.size g (i * 5) d)

set_option maxRecDepth 100000 in
set_option maxHeartbeats 1000000 in
theorem decode_any (ao : Option Addr) (n cap : Nat) (l : List Int) (w : World) (hs : Sl w ao n cap l) (ht : Tab w) (h0 : 0 < w.heap.size) :
    Calls Tryd.prog 19 #[.slice ao n cap] w fun e w' => DecTo l w e w' := by
  obtain ⟨ic, hic, hz0, hz1, hz2⟩ := info_parts infoC
  have HO := hidden (open_any ao n cap l w hs ht h0)
  have HLEN := hidden hs.hlen
  clear hs ht
  go_enter Tryd.func19, Tryd.ntmps19
  go_wp2_with (first | (go_at_call 20; refine HO.out.mono ?_; rintro e w1 ⟨po, ec, rfl, HB1, HQ⟩; refine Hid.out ?_))
  apply hidden
  clear HO
  rcases HQ.out with ⟨rfl, rfl, hno⟩ | ⟨a, bo, bn, bc, so, sn, sc, cs, rfl, rfl, hal, his, hwf, hpg⟩
  · have HNO := hidden hno
    clear HQ hno
    go_wp2
    go_ret3
    exact ⟨0, none, 0, 0, 60, rfl, HB1, hidden (.inl ⟨rfl, rfl, rfl, rfl, rfl, HNO.out⟩)⟩
  · have HPG := hidden hpg
    have HIS := hidden his
    have HWF := hidden hwf
    have HFIT : Hid (∀ c ∈ cs, c.fit) := hidden fun c hc => (chk_may his.ok c hc).fit (by have := pw_nat his.sz; omega)
    obtain ⟨hsn, hbn⟩ := hpg.sn_eq
    have hz := szN_eq cs
    have hfit := his.fit
    have hpn := pw_nat his.sz
    have hs1 : sn ≤ 65536 := by omega
    have hb1 : bn ≤ 65536 := by omega
    have HSN := hidden hsn
    clear hpg his hwf HQ hsn hbn hz hfit hpn
    obtain ⟨c0, c1, c2, c3⟩ := HPG.out.cells
    have HL := hidden (len_any w1 a _ _ bo bn bc so sn sc cs HPG.out)
    go_wp2_with (first
      | (go_at_call 27; refine same_call HL.out ?_)
      | (at_make; refine wpList_make_full _ rfl _ _ 25 rfl w.heap.size 32 ic _ 5 Tryd.underlying25 hic hz0 hz1 .i64 .i64 sn sn sn rfl rfl rfl rfl (by rw [hz2]; omega) (by unfold maxLen; omega) HB1.out.size ?_; refine Hid.out ?_))
    apply hidden
    intro w2 ho2 hg2
    have hb2 : Below w1.heap.size w1 w2 := (Below.refl _ _).grown hg2 (Nat.le_refl _) (fun k hk => by cases hk)
    obtain ⟨g, hg⟩ : ∃ g, w1.heap.size = g := ⟨_, rfl⟩
    have HRW : Hid (RowC w2 g sn) := by
      rcases ho2.2 with ⟨h, _⟩ | ⟨q, c, cur, h, _, hh, _, _, hss, _⟩
      · cases h
      · cases h
        rw [← hg]
        exact hidden ⟨cur, hh, by rw [hss]; omega⟩
    have HWG : Hid (w.heap.size ≤ g) := hidden (by rw [← hg]; exact HB1.out.size)
    have HB2 := hidden hb2
    have hgs : Below g w1 w2 := by rw [← hg]; exact hb2
    have HGS := hidden hgs
    have HGW := hidden hg
    rw [hg]
    clear ho2 hg2 hb2 HL c0 c1 c2 c3 hgs
    go_wp2_with fail
    go_loopw [22] (fun i wr => ∃ j : Nat, j ≤ sn ∧ i = .int .i64 j ∧ Hid (RowC wr g sn) ∧ Hid (Below g w1 wr) ∧ Hid (∀ i d, i < j → cs[i]? = some d → DAt wr w.heap.size g (i * 5) d)) (fun i _ => sn - (intOf i).toNat)
    case atStart => exact ⟨0, by omega, rfl, HRW, HGS, hidden fun i d hi => by omega⟩
    case round =>
      obtain ⟨j, hj, rfl, HR, HG, HD⟩ := hrel
      have HBE : Hid (Below w1.heap.size w1 wr) := hidden (by rw [HGW.out]; exact HG.out)
      have HPR := hidden (HPG.out.on HBE.out)
      have bj : (j : Int) ≤ 65536 := by omega
      clear HRW HGS
      by_cases hlt : j < sn
      · have hltI : (j : Int) < (sn : Int) := by omega
        have hjc : j < cs.length := by rw [← HSN.out]; exact hlt
        obtain ⟨d, hd⟩ : ∃ d, cs[j]? = some d := ⟨_, List.getElem?_eq_getElem hjc⟩
        have HDJ := hidden hd
        have HV := hidden (view_any wr a _ _ bo bn bc so sn sc cs HPR.out HFIT.out j hjc d hd hb1)
        clear hd hjc
        go_wp2_with (first | (go_at_call 46; refine HV.out.mono ?_; rintro e u1 ⟨ko, kn, kc, vo, vn, vc, rfl, HK, HVV, HB3⟩; refine Hid.out ?_))
        apply hidden
        have hkl := HK.out.hlen
        have hvl := HVV.out.hlen
        have HKL := hidden hkl
        have HVL := hidden hvl
        clear hkl hvl HV
        have HC := hidden (copied_any ko kn kc d.kd vo vn vc d.pg d.ct d.key d.val u1 HK.out HVV.out)
        go_wp2_with (first | (go_at_call 45; refine HC.out.mono ?_; rintro e u2 ⟨g1, g2, rfl, HGG, HB4⟩; refine Hid.out ?_))
        apply hidden
        have HBU : Hid (Below wr.heap.size wr u2) := hidden (bl_go HB3.out (Nat.le_refl _) HB4.out)
        have HR2 : Hid (RowC u2 g sn) := hidden (HR.out.on HBU.out)
        have HG2 : Hid (Below g w1 u2) := hidden (HG.out.trans (HBU.out.mono (Nat.le_of_lt HR.out.lt)))
        have hwg : w.heap.size ≤ u1.heap.size := Nat.le_trans HB1.out.size (Nat.le_trans HBE.out.size HB3.out.size)
        clear HC HK HVV
        go_wp2_with (refine put_cell (by rfl) _ _ (by rfl) g (j * 5) sn (some ⟨g1, 0, none⟩) (some ⟨g2, 0, none⟩) kn kn vn vn d.kd d.pg d.ct HR2.out (by rfl) (by rfl) (by omega) ?_; intro u3 HU3; refine Hid.out ?_)
        apply hidden
        have HR3 : Hid (RowC u3 g sn) := hidden (by rw [HU3.out]; exact RowC.sets _ _ _ HR2.out)
        have HG3 : Hid (Below g w1 u3) := hidden (by
          rw [HU3.out]
          simp only [World.setCells]
          refine ((((HG2.out.setCell ?_ _).setCell ?_ _).setCell ?_ _).setCell ?_ _).setCell ?_ _ <;> simp)
        have HD3 : Hid (∀ i d, i < j + 1 → cs[i]? = some d → DAt u3 w.heap.size g (i * 5) d) := by
          refine hidden fun i d' hi hd' => ?_
          rw [HU3.out]
          by_cases e : i = j
          · subst e
            rw [HDJ.out] at hd'
            injection hd' with hd'
            subst hd'
            have := DAt.new (B := w.heap.size) (c := d) (j := i) HR2.out (by omega) HGG.out.1 HGG.out.2.1 (Nat.le_trans hwg HGG.out.2.2.1) (Nat.le_trans hwg HGG.out.2.2.2.1)
            rw [HKL.out, HVL.out] at this
            exact this
          · exact ((HD.out i d' (by omega) hd').on HR.out.lt HBU.out).put HR2.out (by omega)
        clear HU3 HR2 HG2 HR HG HD HGG HB3 HB4 HBU HPR
        go_wp2
        go_roundw
        case rel => exact ⟨j + 1, by omega, by go_num, HR3, HG3, HD3⟩
        case measure => simp [intOf]; omega
      · obtain rfl : j = sn := by omega
        have hlI : ¬ (j : Int) < (j : Int) := by omega
        obtain ⟨c0, c1, c2, c3⟩ := HPR.out.cells
        go_wp2
        go_ret3
        refine ⟨l.getD 0 0, some ⟨g, 0, none⟩, j, j, 0, rfl, hidden (bl_go HB1.out (Nat.le_refl _) HBE.out), hidden (.inr ⟨cs, g, rfl, rfl, rfl, HSN.out, HSN.out, HIS.out, HWF.out, HWG.out, ?_, fun i d hd => HD.out i d ?_ hd⟩)⟩
        · rw [← HSN.out]; exact HR.out
        · have := (List.getElem?_eq_some_iff.1 hd).1
          rw [HSN.out]
          exact this
end Go.Proofs.YtchenbogbmahaaaDoor
