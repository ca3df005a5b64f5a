/- packed.Decode. -/
import Derived.Test.YtbefpojdopfeeaaGreatDoorJ28
import Derived.Test.YtbefpojdopfeeaaGreatDoorJ45
namespace Go.Proofs.YtbefpojdopfeeaaGreatDoor
open Go.RowKit

/-- A cell of one's own in a row. -/
def KAt (w : World) (B b off : Nat) (c : Cl) : Prop :=
  ∃ a1 c1 g2, w.cell? ⟨b, off, none⟩ = some (.slice a1 c.key.length c1) ∧ w.cell? ⟨b, off + 1, none⟩ = some (.int .i64 c.kd) ∧ w.cell? ⟨b, off + 2, none⟩ = some (.slice (some ⟨g2, 0, none⟩) c.val.length c.val.length) ∧ w.cell? ⟨b, off + 3, none⟩ = some (.int .i64 c.pg) ∧ w.cell? ⟨b, off + 4, none⟩ = some (.int .i64 c.ct) ∧ OwnB w B (.slice a1 c.key.length c1) c.key ∧ Bk w g2 c.val ∧ B ≤ g2 ∧ (Value.slice a1 c.key.length c1).ownBlock ≠ some g2
set_option maxRecDepth 100000 in
theorem KAt.on {w w' : World} {B b off : Nat} {c : Cl} (h : KAt w B b off c) (hb : b < w.heap.size) (hB : Below w.heap.size w w') : KAt w' B b off c := by
  obtain ⟨a1, c1, g2, h0, h1, h2, h3, h4, h5, h6, h7⟩ := h
  exact ⟨a1, c1, g2, (hB.cell (p := ⟨b, off, none⟩) hb).trans h0, (hB.cell (p := ⟨b, off + 1, none⟩) hb).trans h1, (hB.cell (p := ⟨b, off + 2, none⟩) hb).trans h2, (hB.cell (p := ⟨b, off + 3, none⟩) hb).trans h3, (hB.cell (p := ⟨b, off + 4, none⟩) hb).trans h4, h5.on (Nat.le_refl _) hB, h6.on hB, h7⟩
set_option maxRecDepth 100000 in
theorem OwnB.sets {w : World} {B : Nat} {v : Value} {l : List Int} {b N j : Nat} {vs : List Value} (h : OwnB w B v l) (hr : RowC w b N) : OwnB (w.setCells b j vs) B v l := by
  refine h.same fun i e => ?_
  obtain ⟨cur, h1, _⟩ := hr
  have hne := h.apart h1 (by decide)
  have hlt : i < w.heap.size := by unfold OwnB at h; exact (h.lt i e).2
  exact World.heap_setCells_other _ _ _ _ hlt (fun h2 => hne (by rw [e, h2]))
set_option maxRecDepth 100000 in
theorem KAt.put {w : World} {B b N i j : Nat} {c : Cl} {vs : List Value} (h : KAt w B b (i * 5) c) (hr : RowC w b N) (hij : i < j) : KAt (w.setCells b (j * 5) vs) B b (i * 5) c := by
  obtain ⟨a1, c1, g2, h0, h1, h2, h3, h4, h5, h6, h7⟩ := h
  have ho : ∀ d, d < 5 → (w.setCells b (j * 5) vs).cell? ⟨b, i * 5 + d, none⟩ = w.cell? ⟨b, i * 5 + d, none⟩ := fun d hd => World.cell?_setCells_out b _ _ w _ (fun _ _ => .inl (by simp only; omega))
  exact ⟨a1, c1, g2, (ho 0 (by omega)).trans h0, (ho 1 (by omega)).trans h1, (ho 2 (by omega)).trans h2, (ho 3 (by omega)).trans h3, (ho 4 (by omega)).trans h4, h5.sets hr, h6.sets (hr.ne h6), h7⟩
set_option maxRecDepth 100000 in
theorem KAt.new {w : World} {B b N j : Nat} {c : Cl} {a1 : Option Addr} {c1 g2 : Nat} (hr : RowC w b N) (hj : j * 5 + 5 ≤ 5 * N) (h1 : OwnB w B (.slice a1 c.key.length c1) c.key) (h2 : Bk w g2 c.val) (h3 : B ≤ g2) (h4 : (Value.slice a1 c.key.length c1).ownBlock ≠ some g2) :
    KAt (w.setCells b (j * 5) [.slice a1 c.key.length c1, .int .i64 c.kd, .slice (some ⟨g2, 0, none⟩) c.val.length c.val.length, .int .i64 c.pg, .int .i64 c.ct]) B b (j * 5) c := by
  have h := World.rangeAt_setCells_same w b (j * 5) [.slice a1 c.key.length c1, .int .i64 c.kd, .slice (some ⟨g2, 0, none⟩) c.val.length c.val.length, .int .i64 c.pg, .int .i64 c.ct] (hr.there hj)
  exact ⟨a1, c1, g2, h 0 _ rfl, h 1 _ rfl, h 2 _ rfl, h 3 _ rfl, h 4 _ rfl, h1.sets hr, h2.sets (hr.ne h2), h3, h4⟩
set_option maxRecDepth 100000 in
theorem KAt.cat {w : World} {B b off : Nat} {c : Cl} (h : KAt w B b off c) (hw : c.Wf) (h1 : c.key.length ≤ 140737488355328) (h2 : c.val.length ≤ 140737488355328) : CAt w b off c := by
  obtain ⟨a1, c1, g2, e0, e1, e2, e3, e4, e5, e6, _⟩ := h
  obtain ⟨x1, x2, x3, x4, _⟩ := e5.sl hw.1 h1
  injection x3 with i1 i2 i3
  subst i1 i3
  exact ⟨_, _, _, _, e0, e1, e2, e3, e4, x4, e6.sl rfl hw.2 h2⟩
/-- What Decode comes to. -/
def DecQ (l : List Int) (w : World) (e : Ending) (w' : World) : Prop :=
  ∃ k ao n cap c, e = .returned (.tuple #[.int .i64 k, .slice ao n cap, .int .i64 c]) ∧ Hid (Below w.heap.size w w') ∧
    Hid ((c = 60 ∧ k = 0 ∧ ao = none ∧ n = 0 ∧ cap = 0 ∧ ¬ ∃ cs, IsQ (l.getD 0 0) l.length cs l) ∨
      ∃ cs g, c = 0 ∧ k = l.getD 0 0 ∧ ao = some ⟨g, 0, none⟩ ∧ n = cs.length ∧ cap = cs.length ∧ IsQ (l.getD 0 0) l.length cs l ∧ (∀ d ∈ cs, d.Wf) ∧ w.heap.size ≤ g ∧ RowC w' g cs.length ∧ ∀ i d, cs[i]? = some d → KAt w' w.heap.size g (i * 5) d)
set_option maxRecDepth 100000 in
set_option maxHeartbeats 2000000 in
theorem decodeQ_any (ao : Option Addr) (n cap : Nat) (l : List Int) (w : World) (hs : Sl w ao n cap l) (ht : Tab w) (h0 : 0 < w.heap.size) :
    Calls Tryz.prog 22 #[.slice ao n cap] w fun e w' => DecQ l w e w' := by
  obtain ⟨ic, hic, hz0, hz1, hz2⟩ := info_parts infoC
  have HO := hidden (openQ_any ao n cap l w hs ht h0)
  have HLEN := hidden hs.hlen
  clear hs ht
  go_enter Tryz.func22, Tryz.ntmps22
  go_wp2_with (first | (go_at_call 19; refine HO.out.mono ?_; rintro e w1 ⟨po, ec, rfl, HB1, HQ⟩; refine Hid.out ?_))
  apply hidden
  clear HO
  rcases HQ.out with ⟨rfl, rfl, hno⟩ | ⟨a, qo, qn, qc, vb, vs, cs, rfl, rfl, his, hwf, hpo⟩
  · have HNO := hidden hno
    clear HQ hno
    go_wp2
    go_ret3
    exact ⟨0, none, 0, 0, 60, rfl, HB1, hidden (.inl ⟨rfl, rfl, rfl, rfl, rfl, HNO.out⟩)⟩
  · have HIS := hidden his
    have HWF := hidden hwf
    have hf := chk_fit his.ok his.sz
    have HFIT := hidden hf
    have hz := szQ_eq (l.getD 0 0) (shP (l.getD 0 0) cs).length cs
    have hfit := his.fit
    have hpn := pw_nat his.sz
    obtain ⟨bo, bc, so, sc, rfl, rfl, hpg⟩ := hpo.pg (qbd_wf _ _ _ fun c hc => ⟨hwf c hc, hf c hc⟩) (by omega) (by rw [qst_length]; omega)
    have HLAY := hidden (layQ_of (shP_beg (l.getD 0 0) cs) hf)
    obtain ⟨sn, hsn⟩ : ∃ sn, (qst (shP (l.getD 0 0) cs).length (whl (l.getD 0 0)) 0 cs).length = sn := ⟨_, rfl⟩
    rw [hsn] at hpg
    have HPG := hidden hpg
    have HSN : Hid (sn = cs.length) := hidden (by rw [← hsn, qst_length])
    have hs1 : sn ≤ 65536 := by rw [HSN.out]; omega
    have HL := hidden (qlen_any w1 a _ _ qo qn qc bo _ bc so sn sc 0 _ _ _ hpg)
    obtain ⟨c0, c1, c2, c3, c4, c5⟩ := hpg.cells
    clear hpg hpo his hwf HQ hsn hz hfit hpn hf
    go_wp2_with (first
      | (go_at_call 26; refine same_call HL.out ?_)
      | (at_make; refine wpList_make_full _ rfl _ _ 43 rfl w.heap.size 39 ic _ 5 Tryz.underlying43 hic hz0 hz1 .i64 .i64 sn sn sn rfl rfl rfl rfl (by rw [hz2]; omega) (by unfold maxLen; omega) HB1.out.size ?_; refine Hid.out ?_))
    apply hidden
    intro w2 ho2 hg2
    have hb2 : Below w1.heap.size w1 w2 := (Below.refl _ _).grown hg2 (Nat.le_refl _) (fun k hk => by cases hk)
    obtain ⟨g, hg⟩ : ∃ g, w1.heap.size = g := ⟨_, rfl⟩
    have HRW : Hid (RowC w2 g sn) := by
      rcases ho2.2 with ⟨h, _⟩ | ⟨q, c, cur, h, _, hh, _, _, hss, _⟩
      · cases h
      · cases h
        rw [← hg]
        exact hidden ⟨cur, hh, by rw [hss]; omega⟩
    have HWG : Hid (w.heap.size ≤ g) := hidden (by rw [← hg]; exact HB1.out.size)
    have hgs : Below g w1 w2 := by rw [← hg]; exact hb2
    have HGS := hidden hgs
    have HGW := hidden hg
    rw [hg]
    clear ho2 hg2 hb2 HL c0 c1 c2 c3 c4 c5 hgs
    go_wp2_with fail
    go_loopw [22] (fun i wr => ∃ j : Nat, j ≤ sn ∧ i = .int .i64 j ∧ Hid (RowC wr g sn) ∧ Hid (Below g w1 wr) ∧ Hid (∀ i d, i < j → cs[i]? = some d → KAt wr w.heap.size g (i * 5) d)) (fun i _ => sn - (intOf i).toNat)
    case atStart => exact ⟨0, by omega, rfl, HRW, HGS, hidden fun i d hi => by omega⟩
    case round =>
      obtain ⟨j, hj, rfl, HR, HG, HD⟩ := hrel
      have HBE : Hid (Below w1.heap.size w1 wr) := hidden (by rw [HGW.out]; exact HG.out)
      have HPR := hidden (HPG.out.on HBE.out)
      have bj : (j : Int) ≤ 65536 := by omega
      clear HRW HGS
      by_cases hlt : j < sn
      · have hltI : (j : Int) < (sn : Int) := by omega
        have hjc : j < cs.length := by rw [← HSN.out]; exact hlt
        obtain ⟨d, hd⟩ : ∃ d, cs[j]? = some d := ⟨_, List.getElem?_eq_getElem hjc⟩
        have HDJ := hidden hd
        have HV := hidden (pentry_any wr a _ _ qo qn qc bo _ bc so sn sc 0 _ _ _ cs HPR.out HLAY.out j d hd wr.heap.size HPR.out.pre.lo HPR.out.body.lo)
        have hdf := HFIT.out d (List.mem_of_getElem? hd)
        have hdk := hdf.key
        have hdv := hdf.val
        clear hd hjc hdf
        go_wp2_with (first | (go_at_call 61; refine HV.out.mono ?_; rintro e u1 ⟨ho, hn, hc, ko, kn, kc, vo, vn, vc, h, key, rfl, HQ, HB3⟩; refine Hid.out ?_))
        apply hidden
        obtain ⟨q1, q2, q3, q4, _⟩ := HQ.out
        have hkl : hn + kn = d.key.length := by rw [← q4, List.length_append, q1.hlen, q2.hlen]
        have hvl : vn = d.val.length := q3.hlen.symm
        have HVL := hidden hvl
        have HC := hidden (ecopied_any ho hn hc ko kn kc d.kd vo vn vc d.pg d.ct h key d.val d.key.length u1 q1 q2 q3 hkl (by omega))
        rw [q4] at HC
        clear q1 q2 q3 q4 hkl hvl HV HQ
        go_wp2_with (first | (go_at_call 62; refine HC.out.mono ?_; rintro e u2 ⟨a1, k1, g2, rfl, HGG, HB4⟩; refine Hid.out ?_))
        apply hidden
        have HBU : Hid (Below wr.heap.size wr u2) := hidden (bl_go HB3.out (Nat.le_refl _) HB4.out)
        have HR2 : Hid (RowC u2 g sn) := hidden (HR.out.on HBU.out)
        have HG2 : Hid (Below g w1 u2) := hidden (HG.out.trans (HBU.out.mono (Nat.le_of_lt HR.out.lt)))
        have hwg : w.heap.size ≤ u1.heap.size := Nat.le_trans HB1.out.size (Nat.le_trans HBE.out.size HB3.out.size)
        clear HC
        go_wp2_with (refine put_cell (by rfl) _ _ (by rfl) g (j * 5) sn a1 (some ⟨g2, 0, none⟩) d.key.length k1 vn vn d.kd d.pg d.ct HR2.out (by rfl) (by rfl) (by omega) ?_; intro u3 HU3; refine Hid.out ?_)
        apply hidden
        have HR3 : Hid (RowC u3 g sn) := hidden (by rw [HU3.out]; exact RowC.sets _ _ _ HR2.out)
        have HG3 : Hid (Below g w1 u3) := hidden (by
          rw [HU3.out]
          simp only [World.setCells]
          refine ((((HG2.out.setCell ?_ _).setCell ?_ _).setCell ?_ _).setCell ?_ _).setCell ?_ _ <;> simp)
        have HD3 : Hid (∀ i d, i < j + 1 → cs[i]? = some d → KAt u3 w.heap.size g (i * 5) d) := by
          refine hidden fun i d' hi hd' => ?_
          rw [HU3.out]
          by_cases e : i = j
          · subst e
            rw [HDJ.out] at hd'
            injection hd' with hd'
            subst hd'
            have := KAt.new (B := w.heap.size) (c := d) (j := i) HR2.out (by omega) (HGG.out.1.low hwg) HGG.out.2.1 (Nat.le_trans hwg HGG.out.2.2.1) HGG.out.2.2.2
            rw [← HVL.out] at this
            exact this
          · exact ((HD.out i d' (by omega) hd').on HR.out.lt HBU.out).put HR2.out (by omega)
        clear HU3 HR2 HG2 HR HG HD HGG HB3 HB4 HBU HPR
        go_wp2
        go_roundw
        case rel => exact ⟨j + 1, by omega, by go_num, HR3, HG3, HD3⟩
        case measure => simp [intOf]; omega
      · obtain rfl : j = sn := by omega
        have hlI : ¬ (j : Int) < (j : Int) := by omega
        obtain ⟨c0, c1, c2, c3, c4, c5⟩ := HPR.out.cells
        go_wp2
        go_ret3
        refine ⟨l.getD 0 0, some ⟨g, 0, none⟩, j, j, 0, rfl, hidden (bl_go HB1.out (Nat.le_refl _) HBE.out), hidden (.inr ⟨cs, g, rfl, rfl, rfl, HSN.out, HSN.out, HIS.out, HWF.out, HWG.out, ?_, fun i d hd => HD.out i d ?_ hd⟩)⟩
        · rw [← HSN.out]; exact HR.out
        · have := (List.getElem?_eq_some_iff.1 hd).1
          rw [HSN.out]
          exact this
set_option maxRecDepth 100000 in
/-- Decoded cells as a slice of cells. -/
theorem decQ_slc {w' : World} {B g : Nat} {cs : List Cl} (hr : RowC w' g cs.length) (hd : ∀ i d, cs[i]? = some d → KAt w' B g (i * 5) d) (hwf : ∀ d ∈ cs, d.Wf) (hfit : ∀ d ∈ cs, d.fit) (hl : cs.length ≤ 65536) : SlC w' (some ⟨g, 0, none⟩) cs.length cs.length cs := by
  refine ⟨rfl, Nat.le_refl _, by omega, (by intro h; cases h), .inr ⟨g, 0, rfl, hr.lt, fun i c hc => ?_⟩⟩
  have hm : c ∈ cs := List.mem_of_getElem? hc
  have h1 := (hfit c hm).key
  have h2 := (hfit c hm).val
  rw [Nat.zero_add]
  exact (hd i c hc).cat (hwf c hm) (by omega) (by omega)
end Go.Proofs.YtbefpojdopfeeaaGreatDoor

/- The law's Great; the document's Same and SameAll. -/

namespace Go.Proofs.YtbefpojdopfeeaaGreatDoor
open Go.RowKit

set_option maxRecDepth 100000 in
theorem same_self (c : Cl) (ka ka' va va' : Option Addr) (kc kc' vc vc' : Nat) (w : World) (h1 : Sl w ka c.key.length kc c.key) (h2 : Sl w ka' c.key.length kc' c.key) (h3 : Sl w va c.val.length vc c.val) (h4 : Sl w va' c.val.length vc' c.val) :
    Calls Tryz.prog 59 #[.agg #[.slice ka c.key.length kc, .int .i64 c.kd, .slice va c.val.length vc, .int .i64 c.pg, .int .i64 c.ct], .agg #[.slice ka' c.key.length kc', .int .i64 c.kd, .slice va' c.val.length vc', .int .i64 c.pg, .int .i64 c.ct]] w fun e w' => e = .returned (.bool true) ∧ Below w.heap.size w w' := by
  obtain ⟨x, hx⟩ : ∃ x, ((w.alloc (.cells #[.slice ka c.key.length kc, .int .i64 c.kd, .slice va c.val.length vc, .int .i64 c.pg, .int .i64 c.ct] 39)).alloc (.cells #[.slice ka' c.key.length kc', .int .i64 c.kd, .slice va' c.val.length vc', .int .i64 c.pg, .int .i64 c.ct] 39)) = x := ⟨_, rfl⟩
  have hb : Below w.heap.size w x := by rw [← hx]; exact bl_al (bl_al (Below.refl _ _) (Nat.le_refl _) _) (Nat.le_refl _) _
  have k1 : ∀ q, (convert 37 9 (.slice ka c.key.length kc)).run Tryz.prog (x.drewN q) = .ok (.string (strOfNums c.key)) (x.drewN q) := fun q => conv_sl ((h1.on (Nat.le_refl _) hb).drewN q)
  have k2 : ∀ q, (convert 37 9 (.slice ka' c.key.length kc')).run Tryz.prog (x.drewN q) = .ok (.string (strOfNums c.key)) (x.drewN q) := fun q => conv_sl ((h2.on (Nat.le_refl _) hb).drewN q)
  have k3 : ∀ q, (convert 37 9 (.slice va c.val.length vc)).run Tryz.prog (x.drewN q) = .ok (.string (strOfNums c.val)) (x.drewN q) := fun q => conv_sl ((h3.on (Nat.le_refl _) hb).drewN q)
  have k4 : ∀ q, (convert 37 9 (.slice va' c.val.length vc')).run Tryz.prog (x.drewN q) = .ok (.string (strOfNums c.val)) (x.drewN q) := fun q => conv_sl ((h4.on (Nat.le_refl _) hb).drewN q)
  have j1 := conv_sl (h1.on (Nat.le_refl _) hb)
  have j2 := conv_sl (h2.on (Nat.le_refl _) hb)
  have j3 := conv_sl (h3.on (Nat.le_refl _) hb)
  have j4 := conv_sl (h4.on (Nat.le_refl _) hb)
  have hz1 : (w.alloc (.cells #[.slice ka c.key.length kc, .int .i64 c.kd, .slice va c.val.length vc, .int .i64 c.pg, .int .i64 c.ct] 39)).heap.size = w.heap.size + 1 := by simp
  have b1 : C5 x w.heap.size (.slice ka c.key.length kc) (.int .i64 c.kd) (.slice va c.val.length vc) (.int .i64 c.pg) (.int .i64 c.ct) := by
    rw [← hx]
    exact box_on (C5.box w _ _ _ _ _) (bl_al (Below.refl _ _) (Nat.le_refl _) _)
  have b2 : C5 x (w.heap.size + 1) (.slice ka' c.key.length kc') (.int .i64 c.kd) (.slice va' c.val.length vc') (.int .i64 c.pg) (.int .i64 c.ct) := by
    rw [← hx, ← hz1]
    exact C5.box _ _ _ _ _ _
  obtain ⟨c0, c1, c2, c3, c4⟩ := b1.cells
  obtain ⟨d0, d1, d2, d3, d4⟩ := b2.cells
  have HB := hidden hb
  clear h1 h2 h3 h4 hb b1 b2 hz1
  go_enter Tryz.func59, Tryz.ntmps59
  go_wp2
  go_ret
  exact ⟨rfl, HB.out⟩
set_option maxRecDepth 100000 in
set_option maxHeartbeats 1000000 in
theorem sameAll_self (ao bo : Option Addr) (n c d : Nat) (cs : List Cl) (w : World) (ha : SlC w ao n c cs) (hb : SlC w bo n d cs) :
    Calls Tryz.prog 23 #[.slice ao n c, .slice bo n d] w fun e w' => e = .returned (.bool true) ∧ Hid (Below w.heap.size w w') := by
  have HA := hidden ha
  have HC := hidden hb
  have hn := ha.hroom
  clear ha hb
  go_enter Tryz.func23, Tryz.ntmps23
  go_wp2_with fail
  go_loopw [5] (fun i wr => ∃ j : Nat, j ≤ n ∧ i = .int .i64 j ∧ Hid (Below w.heap.size w wr)) (fun i _ => n - (intOf i).toNat)
  case atStart => exact ⟨0, by omega, rfl, hidden (Below.refl _ _)⟩
  case round =>
    obtain ⟨j, hj, rfl, HB⟩ := hrel
    have bj : (j : Int) ≤ 140737488355328 := by omega
    by_cases hlt : j < n
    · have hltI : (j : Int) < (n : Int) := by omega
      obtain ⟨b, off, x, ka, kc, va, vc, rfl, hb, hci, c0, c1, c2, c3, c4, hk, hv⟩ := (HA.out.on HB.out).item j hlt
      obtain ⟨b', off', x', ka', kc', va', vc', rfl, hb', hci', d0, d1, d2, d3, d4, hk', hv'⟩ := (HC.out.on HB.out).item j hlt
      rw [hci] at hci'
      injection hci' with hxx
      subst hxx
      have HS : Hid (∀ u, Below wr.heap.size wr u → Calls Tryz.prog 59 #[.agg #[.slice ka x.key.length kc, .int .i64 x.kd, .slice va x.val.length vc, .int .i64 x.pg, .int .i64 x.ct], .agg #[.slice ka' x.key.length kc', .int .i64 x.kd, .slice va' x.val.length vc', .int .i64 x.pg, .int .i64 x.ct]] u fun e w' => e = .returned (.bool true) ∧ Below wr.heap.size wr w') :=
        hidden fun u hu => (same_self x ka ka' va va' kc kc' vc vc' u (hk.on (Nat.le_refl _) hu) (hk'.on (Nat.le_refl _) hu) (hv.on (Nat.le_refl _) hu) (hv'.on (Nat.le_refl _) hu)).mono fun e w' h => ⟨h.1, bl_go hu (Nat.le_refl _) h.2⟩
      clear hk hk' hv hv' hci
      go_wp2_with fail
      go_region_with (first | (go_at_call 59; refine (HS.out _ ?_).mono ?_; (repeat (first | exact Below.refl _ _ | apply Below.drew | apply below_drewN)); rintro e w1 ⟨rfl, hb1⟩))
      all_goals
        go_wp2
        go_roundw
        case rel => exact ⟨j + 1, by omega, by go_num, hidden (bl_go HB.out (Nat.le_refl _) hb1)⟩
        case measure => simp [intOf]; omega
    · obtain rfl : j = n := by omega
      have hlI : ¬ (j : Int) < (j : Int) := by omega
      go_wp2
      go_ret
      exact ⟨rfl, HB⟩
end Go.Proofs.YtbefpojdopfeeaaGreatDoor
