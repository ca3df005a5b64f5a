/- packed.Decode: its cells in memory of their own. -/
import Derived.Test.YtobfkcepjnjfpaaGreatDoorJ23
import Derived.Test.YtobfkcepjnjfpaaGreatDoorJ00
import Derived.Test.YtobfkcepjnjfpaaGreatDoorJ08
namespace Go.Proofs.YtobfkcepjnjfpaaGreatDoor
open Go.RowKit

/-- A cell of one's own in a row, its bytes in blocks from lo up to hi. -/
def KXt (w : World) (lo hi b off : Nat) (c : Cl) : Prop :=
  ∃ a1 c1 g2, w.cell? ⟨b, off, none⟩ = some (.slice a1 c.key.length c1) ∧ w.cell? ⟨b, off + 1, none⟩ = some (.int .i64 c.kd) ∧ w.cell? ⟨b, off + 2, none⟩ = some (.slice (some ⟨g2, 0, none⟩) c.val.length c.val.length) ∧ w.cell? ⟨b, off + 3, none⟩ = some (.int .i64 c.pg) ∧ w.cell? ⟨b, off + 4, none⟩ = some (.int .i64 c.ct) ∧ OwnB w lo (.slice a1 c.key.length c1) c.key ∧ Bk w g2 c.val ∧ (∀ z, (Value.slice a1 c.key.length c1).ownBlock = some z → z < hi) ∧ lo ≤ g2 ∧ g2 < hi ∧ (Value.slice a1 c.key.length c1).ownBlock ≠ some g2
set_option maxRecDepth 100000 in
theorem KXt.on {w w' : World} {lo hi b off : Nat} {c : Cl} (h : KXt w lo hi b off c) (hb : b < w.heap.size) (hB : Below w.heap.size w w') : KXt w' lo hi b off c := by
  obtain ⟨a1, c1, g2, h0, h1, h2, h3, h4, h5, h6, h7⟩ := h
  exact ⟨a1, c1, g2, (hB.cell (p := ⟨b, off, none⟩) hb).trans h0, (hB.cell (p := ⟨b, off + 1, none⟩) hb).trans h1, (hB.cell (p := ⟨b, off + 2, none⟩) hb).trans h2, (hB.cell (p := ⟨b, off + 3, none⟩) hb).trans h3, (hB.cell (p := ⟨b, off + 4, none⟩) hb).trans h4, h5.on (Nat.le_refl _) hB, h6.on hB, h7⟩
set_option maxRecDepth 100000 in
theorem KXt.put {w : World} {lo hi b N i j : Nat} {c : Cl} {vs : List Value} (h : KXt w lo hi b (i * 5) c) (hr : RowC w b N) (hij : i < j) : KXt (w.setCells b (j * 5) vs) lo hi b (i * 5) c := by
  obtain ⟨a1, c1, g2, h0, h1, h2, h3, h4, h5, h6, h7⟩ := h
  have ho : ∀ d, d < 5 → (w.setCells b (j * 5) vs).cell? ⟨b, i * 5 + d, none⟩ = w.cell? ⟨b, i * 5 + d, none⟩ := fun d hd => World.cell?_setCells_out b _ _ w _ (fun _ _ => .inl (by simp only; omega))
  exact ⟨a1, c1, g2, (ho 0 (by omega)).trans h0, (ho 1 (by omega)).trans h1, (ho 2 (by omega)).trans h2, (ho 3 (by omega)).trans h3, (ho 4 (by omega)).trans h4, h5.sets hr, h6.sets (hr.ne h6), h7⟩
set_option maxRecDepth 100000 in
theorem KXt.new {w : World} {lo hi b N j : Nat} {c : Cl} {a1 : Option Addr} {c1 g2 : Nat} (hr : RowC w b N) (hj : j * 5 + 5 ≤ 5 * N) (h1 : OwnB w lo (.slice a1 c.key.length c1) c.key) (hz : ∀ z, (Value.slice a1 c.key.length c1).ownBlock = some z → z < hi) (h2 : Bk w g2 c.val) (h3 : lo ≤ g2) (h5 : g2 < hi) (h4 : (Value.slice a1 c.key.length c1).ownBlock ≠ some g2) :
    KXt (w.setCells b (j * 5) [.slice a1 c.key.length c1, .int .i64 c.kd, .slice (some ⟨g2, 0, none⟩) c.val.length c.val.length, .int .i64 c.pg, .int .i64 c.ct]) lo hi b (j * 5) c := by
  have h := World.rangeAt_setCells_same w b (j * 5) [.slice a1 c.key.length c1, .int .i64 c.kd, .slice (some ⟨g2, 0, none⟩) c.val.length c.val.length, .int .i64 c.pg, .int .i64 c.ct] (hr.there hj)
  exact ⟨a1, c1, g2, h 0 _ rfl, h 1 _ rfl, h 2 _ rfl, h 3 _ rfl, h 4 _ rfl, h1.sets hr, h2.sets (hr.ne h2), hz, h3, h5, h4⟩
set_option maxRecDepth 100000 in
theorem sets_size7 : ∀ (vs : List Value) (w : World) (b j : Nat), (w.setCells b j vs).heap.size = w.heap.size
  | [], _, _, _ => rfl
  | v :: r, w, b, j => (sets_size7 r (w.setCell ⟨b, j, none⟩ v) b (j + 1)).trans (by simp)
/-- What Decode comes to. -/
def DecQo (l : List Int) (w : World) (e : Ending) (w' : World) : Prop :=
  ∃ k ao n cap c, e = .returned (.tuple #[.int .i64 k, .slice ao n cap, .int .i64 c]) ∧ Hid (Below w.heap.size w w') ∧
    Hid ((c = 60 ∧ k = 0 ∧ ao = none ∧ n = 0 ∧ cap = 0 ∧ ¬ ∃ cs, IsQ (l.getD 0 0) l.length cs l) ∨
      ∃ (cs : List Cl) (g : Nat) (P : Nat → Nat), c = 0 ∧ k = l.getD 0 0 ∧ ao = some ⟨g, 0, none⟩ ∧ n = cs.length ∧ cap = cs.length ∧ IsQ (l.getD 0 0) l.length cs l ∧ (∀ d ∈ cs, d.Wf) ∧ w.heap.size ≤ g ∧ RowC w' g cs.length ∧ (w.heap.size ≤ P 0 ∧ (∀ i, i < cs.length → P i ≤ P (i + 1)) ∧ P cs.length ≤ w'.heap.size) ∧ ∀ i d, cs[i]? = some d → KXt w' (P i) (P (i + 1)) g (i * 5) d)
set_option maxRecDepth 100000 in
set_option maxHeartbeats 2000000 in
theorem decodeQ_own (ao : Option Addr) (n cap : Nat) (l : List Int) (w : World) (hs : Sl w ao n cap l) (ht : Tab w) (h0 : 0 < w.heap.size) :
    Calls Tryz.prog 6 #[.slice ao n cap] w fun e w' => DecQo l w e w' := by
  obtain ⟨ic, hic, hz0, hz1, hz2⟩ := info_parts infoC
  have HO := hidden (openQ_any ao n cap l w hs ht h0)
  have HLEN := hidden hs.hlen
  clear hs ht
  go_enter Tryz.func6, Tryz.ntmps6
  go_wp2_with (first | (go_at_call 9; refine HO.out.mono ?_; rintro e w1 ⟨po, ec, rfl, HB1, HQ⟩; refine Hid.out ?_))
  apply hidden
  clear HO
  rcases HQ.out with ⟨rfl, rfl, hno⟩ | ⟨a, qo, qn, qc, vb, vs, cs, rfl, rfl, his, hwf, hpo⟩
  · have HNO := hidden hno
    clear HQ hno
    go_wp2
    go_ret3
    exact ⟨0, none, 0, 0, 60, rfl, HB1, hidden (.inl ⟨rfl, rfl, rfl, rfl, rfl, HNO.out⟩)⟩
  · have HIS := hidden his
    have HWF := hidden hwf
    have hf := chk_fit his.ok his.sz
    have HFIT := hidden hf
    have hz := szQ_eq (l.getD 0 0) (shP (l.getD 0 0) cs).length cs
    have hfit := his.fit
    have hpn := pw_nat his.sz
    obtain ⟨bo, bc, so, sc, rfl, rfl, hpg⟩ := hpo.pg (qbd_wf _ _ _ fun c hc => ⟨hwf c hc, hf c hc⟩) (by omega) (by rw [qst_length]; omega)
    have HLAY := hidden (layQ_of (shP_beg (l.getD 0 0) cs) hf)
    obtain ⟨sn, hsn⟩ : ∃ sn, (qst (shP (l.getD 0 0) cs).length (whl (l.getD 0 0)) 0 cs).length = sn := ⟨_, rfl⟩
    rw [hsn] at hpg
    have HPG := hidden hpg
    have HSN : Hid (sn = cs.length) := hidden (by rw [← hsn, qst_length])
    have hs1 : sn ≤ 65536 := by rw [HSN.out]; omega
    have HL := hidden (qlen_any w1 a _ _ qo qn qc bo _ bc so sn sc 0 _ _ _ hpg)
    obtain ⟨c0, c1, c2, c3, c4, c5⟩ := hpg.cells
    clear hpg hpo his hwf HQ hsn hz hfit hpn hf
    go_wp2_with (first
      | (go_at_call 14; refine same_call HL.out ?_)
      | (at_make; refine wpList_make_full _ rfl _ _ 25 rfl w.heap.size 37 ic _ 5 Tryz.underlying25 hic hz0 hz1 .i64 .i64 sn sn sn rfl rfl rfl rfl (by rw [hz2]; omega) (by unfold maxLen; omega) HB1.out.size ?_; refine Hid.out ?_))
    apply hidden
    intro w2 ho2 hg2
    have hb2 : Below w1.heap.size w1 w2 := (Below.refl _ _).grown hg2 (Nat.le_refl _) (fun k hk => by cases hk)
    obtain ⟨g, hg⟩ : ∃ g, w1.heap.size = g := ⟨_, rfl⟩
    have HRW : Hid (RowC w2 g sn) := by
      rcases ho2.2 with ⟨h, _⟩ | ⟨q, c, cur, h, _, hh, _, _, hss, _⟩
      · cases h
      · cases h
        rw [← hg]
        exact hidden ⟨cur, hh, by rw [hss]; omega⟩
    have HB2 := hidden hb2
    have HWG : Hid (w.heap.size ≤ g) := hidden (by rw [← hg]; exact HB1.out.size)
    have hgs : Below g w1 w2 := by rw [← hg]; exact hb2
    have HGS := hidden hgs
    have HGW := hidden hg
    rw [hg]
    clear ho2 hg2 hb2 HL c0 c1 c2 c3 c4 c5 hgs
    go_wp2_with fail
    go_loopw [22] (fun i wr => ∃ (j : Nat) (P : Nat → Nat), j ≤ sn ∧ i = .int .i64 j ∧ Hid (RowC wr g sn) ∧ Hid (Below g w1 wr) ∧ Hid (∀ i d, i < j → cs[i]? = some d → KXt wr (P i) (P (i + 1)) g (i * 5) d) ∧ Hid (w.heap.size ≤ P 0 ∧ (∀ i, i < j → P i ≤ P (i + 1)) ∧ P j ≤ wr.heap.size)) (fun i _ => sn - (intOf i).toNat)
    case atStart => exact ⟨0, fun _ => w.heap.size, by omega, rfl, HRW, HGS, hidden fun i d hi => by omega, hidden ⟨Nat.le_refl _, fun i hi => by omega, Nat.le_trans HB1.out.size HB2.out.size⟩⟩
    case round =>
      obtain ⟨j, P, hj, rfl, HR, HG, HD, HP⟩ := hrel
      have HBE : Hid (Below w1.heap.size w1 wr) := hidden (by rw [HGW.out]; exact HG.out)
      have HPR := hidden (HPG.out.on HBE.out)
      have bj : (j : Int) ≤ 65536 := by omega
      clear HRW HGS
      by_cases hlt : j < sn
      · have hltI : (j : Int) < (sn : Int) := by omega
        have hjc : j < cs.length := by rw [← HSN.out]; exact hlt
        obtain ⟨d, hd⟩ : ∃ d, cs[j]? = some d := ⟨_, List.getElem?_eq_getElem hjc⟩
        have HDJ := hidden hd
        have HV := hidden (pentry_any wr a _ _ qo qn qc bo _ bc so sn sc 0 _ _ _ cs HPR.out HLAY.out j d hd wr.heap.size HPR.out.pre.lo HPR.out.body.lo)
        have hdf := HFIT.out d (List.mem_of_getElem? hd)
        have hdk := hdf.key
        have hdv := hdf.val
        clear hd hjc hdf
        go_wp2_with (first | (go_at_call 21; refine HV.out.mono ?_; rintro e u1 ⟨ho, hn, hc, ko, kn, kc, vo, vn, vc, h, key, rfl, HQ, HB3⟩; refine Hid.out ?_))
        apply hidden
        obtain ⟨q1, q2, q3, q4, _⟩ := HQ.out
        have hkl : hn + kn = d.key.length := by rw [← q4, List.length_append, q1.hlen, q2.hlen]
        have hvl : vn = d.val.length := q3.hlen.symm
        have HVL := hidden hvl
        have HC := hidden (ecopied_any ho hn hc ko kn kc d.kd vo vn vc d.pg d.ct h key d.val d.key.length u1 q1 q2 q3 hkl (by omega))
        rw [q4] at HC
        clear q1 q2 q3 q4 hkl hvl HV HQ
        go_wp2_with (first | (go_at_call 22; refine HC.out.mono ?_; rintro e u2 ⟨a1, k1, g2, rfl, HGG, HB4⟩; refine Hid.out ?_))
        apply hidden
        have HBU : Hid (Below wr.heap.size wr u2) := hidden (bl_go HB3.out (Nat.le_refl _) HB4.out)
        have HR2 : Hid (RowC u2 g sn) := hidden (HR.out.on HBU.out)
        have HG2 : Hid (Below g w1 u2) := hidden (HG.out.trans (HBU.out.mono (Nat.le_of_lt HR.out.lt)))
        have hwg : wr.heap.size ≤ u1.heap.size := HB3.out.size
        have HU2S : Hid (wr.heap.size ≤ u2.heap.size) := hidden HBU.out.size
        clear HC
        go_wp2_with (refine put_cell (by rfl) _ _ (by rfl) g (j * 5) sn a1 (some ⟨g2, 0, none⟩) d.key.length k1 vn vn d.kd d.pg d.ct HR2.out (by rfl) (by rfl) (by omega) ?_; intro u3 HU3; refine Hid.out ?_)
        apply hidden
        have HR3 : Hid (RowC u3 g sn) := hidden (by rw [HU3.out]; exact RowC.sets _ _ _ HR2.out)
        have HG3 : Hid (Below g w1 u3) := hidden (by
          rw [HU3.out]
          simp only [World.setCells]
          refine ((((HG2.out.setCell ?_ _).setCell ?_ _).setCell ?_ _).setCell ?_ _).setCell ?_ _ <;> simp)
        obtain ⟨P3, hP3⟩ : ∃ P3 : Nat → Nat, P3 = fun i => if i ≤ j then P i else u2.heap.size := ⟨_, rfl⟩
        have HP3 : Hid (w.heap.size ≤ P3 0 ∧ (∀ i, i < j + 1 → P3 i ≤ P3 (i + 1)) ∧ P3 (j + 1) ≤ u3.heap.size) := hidden (by
          obtain ⟨q1, q2, q3⟩ := HP.out
          have q4 := HU2S.out
          rw [hP3]
          refine ⟨by simpa using q1, fun i hi => ?_, ?_⟩
          · by_cases e : i = j
            · simp only [e, Nat.le_refl, if_true, show ¬ j + 1 ≤ j by omega, if_false]
              omega
            · simp only [show i ≤ j by omega, show i + 1 ≤ j by omega, if_true]
              exact q2 i (by omega)
          · simp only [show ¬ j + 1 ≤ j by omega, if_false]
            rw [HU3.out, sets_size7]
            exact Nat.le_refl _)
        have HD3 : Hid (∀ i d, i < j + 1 → cs[i]? = some d → KXt u3 (P3 i) (P3 (i + 1)) g (i * 5) d) := by
          refine hidden fun i d' hi hd' => ?_
          rw [HU3.out, hP3]
          by_cases e : i = j
          · subst e
            rw [HDJ.out] at hd'
            injection hd' with hd'
            subst hd'
            simp only [Nat.le_refl, if_true, show ¬ i + 1 ≤ i by omega, if_false]
            have hp := HP.out.2.2
            have := KXt.new (lo := P i) (hi := u2.heap.size) (c := d) (j := i) HR2.out (by omega) (HGG.out.1.low (by omega)) (fun z hz => (World.ownsRow.lt HGG.out.1 z hz).2) HGG.out.2.1 (by have := HGG.out.2.2.1; omega) (lt_some HGG.out.2.1) HGG.out.2.2.2
            rw [← HVL.out] at this
            exact this
          · simp only [show i ≤ j by omega, show i + 1 ≤ j by omega, if_true]
            exact ((HD.out i d' (by omega) hd').on HR.out.lt HBU.out).put HR2.out (by omega)
        clear hP3
        clear HU3 HR2 HG2 HR HG HD HGG HB3 HB4 HBU HPR HP HU2S
        go_wp2
        go_roundw
        case rel => exact ⟨j + 1, P3, by omega, by go_num, HR3, HG3, HD3, HP3⟩
        case measure => simp [intOf]; omega
      · obtain rfl : j = sn := by omega
        have hlI : ¬ (j : Int) < (j : Int) := by omega
        obtain ⟨c0, c1, c2, c3, c4, c5⟩ := HPR.out.cells
        go_wp2
        go_ret3
        refine ⟨l.getD 0 0, some ⟨g, 0, none⟩, j, j, 0, rfl, hidden (bl_go HB1.out (Nat.le_refl _) HBE.out), hidden (.inr ⟨cs, g, P, rfl, rfl, rfl, HSN.out, HSN.out, HIS.out, HWF.out, HWG.out, ?_, ?_, ?_⟩)⟩
        · rw [← HSN.out]; exact HR.out
        · rw [← HSN.out]; exact HP.out
        · intro i d hd
          refine HD.out i d ?_ hd
          have := (List.getElem?_eq_some_iff.1 hd).1
          rw [HSN.out]
          exact this
end Go.Proofs.YtobfkcepjnjfpaaGreatDoor

/- The document's Fixed and Uint come to the same bytes. -/

namespace Go.Proofs.YtobfkcepjnjfpaaGreatDoor
open Go.RowKit

set_option maxRecDepth 100000 in
set_option maxHeartbeats 400000 in
theorem refUint_any (n : Int) (w : World) (h0 : 0 ≤ n) (hn : n < 18446744073709551616) :
    Calls Tryz.prog 92 #[.int .u64 n] w fun e w' => ∃ v, e = .returned v ∧ OwnB w' w.heap.size v (uB n) ∧ Below w.heap.size w w' := by
  go_enter Tryz.func92, Tryz.ntmps92
  go_wp2_with fail
  go_loopw [0, 3] (fun x v wr => ∃ (m : Int) (acc : List Int), 0 ≤ m ∧ m < 18446744073709551616 ∧ x = .int .u64 m ∧ acc ++ uB m = uB n ∧ OwnB wr w.heap.size v acc ∧ Below w.heap.size w wr) (fun x _ _ => (intOf x).toNat)
  case atStart => exact ⟨n, [], h0, hn, rfl, rfl, OwnB.nil _ _, Below.refl _ _⟩
  case round =>
    obtain ⟨m, acc, hm0, hm, rfl, hac, hown, hb⟩ := hrel
    have HA : Hid (acc ++ uB m = uB n) := hac
    clear hac
    have hsz := hb.size
    have hlen : acc.length + 1 ≤ 10 := by
      have h1 := congrArg List.length HA.out
      have h2 := uB_length m
      have h3 := uB_length n
      simp only [List.length_append] at h1
      omega
    by_cases hlt : m < 128
    · go_wp2_with (at_builtin; refine app_bytes _ rfl _ _ rfl w.heap.size acc _ rfl (hown.alloc _) _ 1 1 [m] rfl rfl (one_cell _ _) (by omega) (by simp; omega) ?_)
      intro v' w2 hown2 hb2
      rw [← uB_small hlt, HA.out] at hown2
      have R : Below w.heap.size w w2 := (hb.alloc hsz _).trans hb2
      clear hb2
      go_wp2
      go_ret
      exact ⟨_, rfl, hown2, R⟩
    · have hgt : 127 < m := by omega
      go_wp2_with (at_builtin; refine app_bytes _ rfl _ _ rfl w.heap.size acc _ rfl (hown.alloc _) _ 1 1 [128 + m % 128] rfl rfl (one_cell _ _) (by omega) (by simp; omega) ?_)
      intro v' w2 hown2 hb2
      have R : Below w.heap.size w w2 := (hb.alloc hsz _).trans hb2
      rw [Int.add_comm 128 (m % 128)] at hown2
      clear hb2
      go_wp2
      go_roundw
      case rel => exact ⟨m / 128, acc ++ [m % 128 + 128], by omega, by omega, rfl, by rw [← HA.out, uB_step (by omega) hm]; simp, hown2, R⟩
      case measure => simp [intOf]; omega
set_option maxRecDepth 100000 in
set_option maxHeartbeats 1000000 in
theorem refFixed_yes (n x : Int) (w : World) (h0 : 0 ≤ n) (hn : n < 18446744073709551616) (h1 : 1 ≤ x) (h2 : x ≤ 8) :
    Calls Tryz.prog 57 #[.int .u64 n, .int .i64 x] w fun e w' => ∃ v, e = .returned v ∧ OwnB w' w.heap.size v (fB x.toNat n) ∧ Below w.heap.size w w' := by
  obtain ⟨width, rfl⟩ := Int.eq_ofNat_of_zero_le (show 0 ≤ x by omega)
  rw [Int.toNat_natCast]
  go_enter Tryz.func57, Tryz.ntmps57
  go_wp2_with fail
  go_loopw [5, 6] (fun v i wr => ∃ (k : Nat) (acc : List Int), k ≤ width ∧ i = .int .i64 ((k : Int) - 1) ∧ acc ++ fB k n = fB width n ∧ OwnB wr w.heap.size v acc ∧ Below w.heap.size w wr) (fun _ i _ => (intOf i + 1).toNat)
  case atStart => exact ⟨width, [], Nat.le_refl _, rfl, rfl, OwnB.nil _ _, Below.refl _ _⟩
  case round =>
    obtain ⟨k, acc, hk, rfl, hac, hown, hb⟩ := hrel
    have HA := hidden hac
    clear hac
    have hsz := hb.size
    have hlen : acc.length ≤ 8 := by
      have h1 := congrArg List.length HA.out
      simp only [List.length_append, fB_length] at h1
      omega
    by_cases hk0 : k = 0
    · subst hk0
      have e : acc = fB width n := by have := HA.out; simpa [fB] using this
      rw [e] at hown
      clear e HA
      go_wp2
      go_ret
      exact ⟨_, rfl, hown, hb⟩
    · obtain ⟨j, rfl⟩ : ∃ j, k = j + 1 := ⟨k - 1, by omega⟩
      go_wp2_with fail
      go_loopw [7, 8] (fun x i w' => ∃ t : Nat, t ≤ j ∧ i = .int .i64 t ∧ x = .int .u64 (n / 256 ^ t) ∧ w' = wr) (fun _ i _ => j - (intOf i).toNat)
      case atStart => exact ⟨0, by omega, rfl, by simp, rfl⟩
      case round =>
        obtain ⟨t, ht, rfl, rfl, rfl⟩ := hrel
        have hpos : 0 ≤ n / 256 ^ t := Int.ediv_nonneg h0 (Int.le_of_lt (Int.pow_pos (by omega)))
        have hle : n / 256 ^ t ≤ n := Int.ediv_le_self _ h0
        have HP := hidden (pow256 n t)
        by_cases hlt : t < j
        · generalize n / 256 ^ t = y at *
          go_wp2
          go_roundw
          case rel => exact ⟨t + 1, by omega, by go_num, by rw [← HP.out], trivial⟩
          case measure => simp [intOf]; omega
        · obtain rfl : t = j := by omega
          generalize hy : n / 256 ^ t = y at *
          have HY := hidden hy
          clear hy
          go_wp2_with (at_builtin; refine app_bytes _ rfl _ _ rfl w.heap.size acc _ rfl (hown.alloc _) _ 1 1 [y % 256] rfl rfl (one_cell _ _) (by omega) (by simp; omega) ?_)
          intro v2 w2 hown2 hb2
          have R2 : Below w.heap.size w w2 := (hb.alloc hsz _).trans hb2
          clear hb2 hown
          go_wp2
          go_roundw
          case rel => exact ⟨t, acc ++ [y % 256], by omega, by go_num, by rw [← HA.out, fB, HY.out]; simp, hown2, R2⟩
          case measure => simp [intOf]
end Go.Proofs.YtobfkcepjnjfpaaGreatDoor

/- The document's add and rest (layer 7). -/

namespace Go.Proofs.YtobfkcepjnjfpaaGreatDoor
open Go.RowKit

set_option maxRecDepth 100000 in
/-- Bytes that were made later lie elsewhere. -/
theorem own_far {w w' : World} {B C : Nat} {v : Value} {l m : List Int} {ao : Option Addr} {n c : Nat} (h : OwnB w B v l) (k : OwnB w' C (.slice ao n c) m) (hz : w.heap.size ≤ C) : Far ao n v := by
  right
  intro p hp e
  have h1 : p.block < w.heap.size := (World.ownsRow.lt h p.block e).2
  rcases k.2 with ⟨e2, _⟩ | ⟨g, cap, cur, e2, hg, _⟩
  · injection e2 with e3
    rw [e3] at hp
    cases hp
  · injection e2 with e3
    rw [e3] at hp
    injection hp with hp
    subst hp
    simp only at h1
    omega
set_option maxRecDepth 100000 in
/-- Bytes that lay there ahead lie elsewhere. -/
theorem sl_far {w w' : World} {B : Nat} {v : Value} {l m : List Int} {ao : Option Addr} {n c : Nat} (hs : Sl w ao n c m) (h : OwnB w' B v l) (hz : w.heap.size ≤ B) : Far ao n v := by
  rcases hs.hat with h0 | ⟨b, off, rfl, hlt, _⟩
  · exact .inl h0
  · exact h.far fun p hp => by injection hp with hp; subst hp; exact Nat.lt_of_lt_of_le hlt hz
set_option maxRecDepth 100000 in
set_option maxHeartbeats 1000000 in
theorem radd_any (v : Value) (B : Nat) (l r : List Int) (ao : Option Addr) (n c : Nat) (w : World) (ho : OwnB w B v l) (hs : Sl w ao n c r) (hf : Far ao n v) (hl : l.length + n ≤ 140737488355328) (hB : B ≤ w.heap.size) :
    Calls Tryz.prog 52 #[v, .slice ao n c] w fun e w' => ∃ v', e = .returned v' ∧ Hid (OwnB w' B v' (l ++ r)) ∧ Hid (Gr w v w' v') := by
  have HS := hidden hs
  have HF := hidden hf
  have HO := hidden ho
  have hlen := hs.hlen
  have hn := hs.hroom
  clear hs hf ho
  go_enter Tryz.func52, Tryz.ntmps52
  go_wp2_with fail
  go_loopw [0, 5] (fun b i wr => ∃ k : Nat, k ≤ n ∧ i = .int .i64 k ∧ Hid (OwnB wr B b (l ++ r.take k)) ∧ Hid (Gr w v wr b)) (fun _ i _ => n - (intOf i).toNat)
  case atStart => exact ⟨0, by omega, rfl, by simpa using HO, hidden (Gr.refl _ _)⟩
  case round =>
    obtain ⟨k, hk, rfl, HOK, HG⟩ := hrel
    clear HO
    have hki : (k : Int) ≤ 140737488355328 := by omega
    by_cases hlt : k < n
    · have hltI : (k : Int) < (n : Int) := by omega
      have HSK := hidden (HS.out.gr HG.out HF.out)
      have hwf := HSK.out.wf.getD k
      rcases HSK.out.hat with h | ⟨b', off', rfl, hbb', hc'⟩
      · omega
      have hcj := hc' k hlt
      have hts := take_snoc r k (by omega)
      obtain ⟨y, hy⟩ : ∃ y, r.getD k 0 = y := ⟨_, rfl⟩
      rw [hy] at hcj hts hwf
      have HT := hidden hts
      have hBr : B ≤ wr.heap.size := Nat.le_trans hB HG.out.grow.size
      have hll : (l ++ r.take k).length + 1 ≤ 140737488355328 := by simp only [List.length_append, List.length_take]; omega
      have HLL := hidden hll
      clear hc' hts hy hll
      go_wp2_with (at_builtin; refine app_sl _ rfl _ _ rfl B (l ++ r.take k) [y] _ (some ⟨wr.heap.size, 0, none⟩) 1 1 rfl rfl (HOK.out.alloc _) (sl_one wr y hwf) HLL.out (by simp; omega) ?_; refine Hid.out ?_)
      apply hidden
      intro v2 w2 ho2 g2
      have HO2 : Hid (OwnB w2 B v2 (l ++ r.take (k + 1))) := hidden (by rw [HT.out]; simpa [List.append_assoc] using ho2)
      have HG2 := hidden ((HG.out.trans (Gr.alloc _ _ _)).trans g2)
      clear ho2 g2 HOK HG hcj HSK HT HLL
      go_wp2
      go_roundw
      case rel => exact ⟨k + 1, by omega, by go_num, HO2, HG2⟩
      case measure => simp [intOf]; omega
    · have e : r.take k = r := List.take_of_length_le (by omega)
      rw [e] at HOK
      go_wp2
      go_ret
      exact ⟨_, rfl, HOK, HG⟩
set_option maxRecDepth 100000 in
/-- The same, said of what was there ahead. -/
theorem radd_to (v : Value) (B : Nat) (l r : List Int) (ao : Option Addr) (n c : Nat) (w : World) (ho : OwnB w B v l) (hs : Sl w ao n c r) (hf : Far ao n v) (hl : l.length + n ≤ 140737488355328) (hB : B ≤ w.heap.size) :
    Calls Tryz.prog 52 #[v, .slice ao n c] w fun e w' => ∃ v', e = .returned v' ∧ Hid (OwnB w' B v' (l ++ r)) ∧ Hid (Below B w w') :=
  (radd_any v B l r ao n c w ho hs hf hl hB).mono fun e w' h => by
    obtain ⟨v', h1, h2, h3⟩ := h
    exact ⟨v', h1, h2, hidden (h3.out.below ho hB)⟩
set_option maxRecDepth 100000 in
theorem rrest_whole (k i : Int) (ao : Option Addr) (n c m : Nat) (w : World) (h : k = 3 ∧ i = 0) :
    Calls Tryz.prog 91 #[.int .i64 k, .int .i64 i, .slice ao n c, .int .i64 (m : Int)] w fun e w' => e = .returned (.slice ao n c) ∧ w' = w := by
  obtain ⟨rfl, rfl⟩ := h
  go_enter Tryz.func91, Tryz.ntmps91
  go_wp2
  go_ret
  exact ⟨rfl, rfl⟩
set_option maxRecDepth 100000 in
theorem rrest_cut (k i : Int) (ao : Option Addr) (n c m : Nat) (l : List Int) (w : World) (h : ¬ (k = 3 ∧ i = 0)) (hs : Sl w ao n c l) (hm : m ≤ n) :
    Calls Tryz.prog 91 #[.int .i64 k, .int .i64 i, .slice ao n c, .int .i64 (m : Int)] w fun e w' => (∃ a' c', e = .returned (.slice a' (n - m) c') ∧ Hid (Sl w a' (n - m) c' (l.drop m))) ∧ w' = w := by
  have hf := sl_from hs m hm
  have hc := hs.hcap
  have hr := hs.hroom
  have hll := hs.hlen
  have hmI : (m : Int) ≤ (n : Int) := by omega
  have hlc : m ≤ c := by omega
  have hlcI : (m : Int) ≤ (c : Int) := by omega
  have hlt : ¬ (n : Int) < (m : Int) := by omega
  have i1 : (m : Int) ≤ 140737488355328 := by omega
  clear hs
  by_cases h3 : k = 3
  · have hi : ¬ i = 0 := fun e => h ⟨h3, e⟩
    have hib : (i == 0) = false := by simpa using hi
    subst h3
    clear h hi
    rcases hf with ⟨rfl, rfl, rfl⟩ | ⟨a, rfl, ⟨e, hS⟩ | ⟨e, hS⟩⟩
    · obtain rfl : m = 0 := by omega
      have HE : Hid (Sl w none 0 0 (l.drop 0)) := hidden (by rw [show l.drop 0 = [] from List.eq_nil_of_length_eq_zero (by simpa using hll)]; exact Sl.nil_any _ _ _ (fun _ => rfl))
      go_enter Tryz.func91, Tryz.ntmps91
      go_wp2
      go_ret
      exact ⟨⟨_, _, rfl, HE⟩, rfl⟩
    · have HS := hidden hS
      subst e
      obtain rfl : n = c := by omega
      clear hS
      go_enter Tryz.func91, Tryz.ntmps91
      go_wp2
      go_ret
      exact ⟨⟨_, _, rfl, by simpa using HS⟩, rfl⟩
    · have HS := hidden hS
      have hcn2 : c - m ≠ 0 := by omega
      have hcn3 : m < c := by omega
      have hcn4 : (m : Int) < (c : Int) := by omega
      clear hS
      go_enter Tryz.func91, Tryz.ntmps91
      go_wp2
      go_ret
      exact ⟨⟨_, _, rfl, by simpa using HS⟩, rfl⟩
  · have hkb : (k == 3) = false := by simpa using h3
    clear h h3
    rcases hf with ⟨rfl, rfl, rfl⟩ | ⟨a, rfl, ⟨e, hS⟩ | ⟨e, hS⟩⟩
    · obtain rfl : m = 0 := by omega
      have HE : Hid (Sl w none 0 0 (l.drop 0)) := hidden (by rw [show l.drop 0 = [] from List.eq_nil_of_length_eq_zero (by simpa using hll)]; exact Sl.nil_any _ _ _ (fun _ => rfl))
      go_enter Tryz.func91, Tryz.ntmps91
      go_wp2
      go_ret
      exact ⟨⟨_, _, rfl, HE⟩, rfl⟩
    · have HS := hidden hS
      subst e
      obtain rfl : n = c := by omega
      clear hS
      go_enter Tryz.func91, Tryz.ntmps91
      go_wp2
      go_ret
      exact ⟨⟨_, _, rfl, by simpa using HS⟩, rfl⟩
    · have HS := hidden hS
      have hcn2 : c - m ≠ 0 := by omega
      have hcn3 : m < c := by omega
      have hcn4 : (m : Int) < (c : Int) := by omega
      clear hS
      go_enter Tryz.func91, Tryz.ntmps91
      go_wp2
      go_ret
      exact ⟨⟨_, _, rfl, by simpa using HS⟩, rfl⟩
end Go.Proofs.YtobfkcepjnjfpaaGreatDoor
