/- plain.Decode: what comes out is one's own, each piece in a block of its own. -/
import Derived.Test.YtdmpbdppdcaabaaDoorJb
import Derived.Test.YtdmpbdppdcaabaaDoorJg
import Derived.Test.YtdmpbdppdcaabaaDoorJh
namespace Go.Proofs.YtdmpbdppdcaabaaDoor
open Go.RowKit

/-- A cell in a row, its bytes in blocks of their own from lo up to hi. -/
def DXt (w : World) (lo hi b off : Nat) (c : Cl) : Prop :=
  ∃ g1 g2, w.cell? ⟨b, off, none⟩ = some (.slice (some ⟨g1, 0, none⟩) c.key.length c.key.length) ∧ w.cell? ⟨b, off + 1, none⟩ = some (.int .i64 c.kd) ∧ w.cell? ⟨b, off + 2, none⟩ = some (.slice (some ⟨g2, 0, none⟩) c.val.length c.val.length) ∧ w.cell? ⟨b, off + 3, none⟩ = some (.int .i64 c.pg) ∧ w.cell? ⟨b, off + 4, none⟩ = some (.int .i64 c.ct) ∧ Bk w g1 c.key ∧ Bk w g2 c.val ∧ lo ≤ g1 ∧ lo ≤ g2 ∧ g1 < hi ∧ g2 < hi ∧ g1 ≠ g2
set_option maxRecDepth 100000 in
theorem DXt.on {w w' : World} {lo hi b off : Nat} {c : Cl} (h : DXt w lo hi b off c) (hb : b < w.heap.size) (hB : Below w.heap.size w w') : DXt w' lo hi b off c := by
  obtain ⟨g1, g2, h0, h1, h2, h3, h4, h5, h6, h7⟩ := h
  exact ⟨g1, g2, (hB.cell (p := ⟨b, off, none⟩) hb).trans h0, (hB.cell (p := ⟨b, off + 1, none⟩) hb).trans h1, (hB.cell (p := ⟨b, off + 2, none⟩) hb).trans h2, (hB.cell (p := ⟨b, off + 3, none⟩) hb).trans h3, (hB.cell (p := ⟨b, off + 4, none⟩) hb).trans h4, h5.on hB, h6.on hB, h7⟩
set_option maxRecDepth 100000 in
theorem DXt.put {w : World} {lo hi b N i j : Nat} {c : Cl} {vs : List Value} (h : DXt w lo hi b (i * 5) c) (hr : RowC w b N) (hij : i < j) : DXt (w.setCells b (j * 5) vs) lo hi b (i * 5) c := by
  obtain ⟨g1, g2, h0, h1, h2, h3, h4, h5, h6, h7⟩ := h
  have ho : ∀ d, d < 5 → (w.setCells b (j * 5) vs).cell? ⟨b, i * 5 + d, none⟩ = w.cell? ⟨b, i * 5 + d, none⟩ := fun d hd => World.cell?_setCells_out b _ _ w _ (fun _ _ => .inl (by simp only; omega))
  exact ⟨g1, g2, (ho 0 (by omega)).trans h0, (ho 1 (by omega)).trans h1, (ho 2 (by omega)).trans h2, (ho 3 (by omega)).trans h3, (ho 4 (by omega)).trans h4, h5.sets (hr.ne h5), h6.sets (hr.ne h6), h7⟩
set_option maxRecDepth 100000 in
theorem DXt.new {w : World} {lo hi b N j : Nat} {c : Cl} {g1 g2 : Nat} (hr : RowC w b N) (hj : j * 5 + 5 ≤ 5 * N) (h1 : Bk w g1 c.key) (h2 : Bk w g2 c.val) (h3 : lo ≤ g1) (h4 : lo ≤ g2) (hh : w.heap.size ≤ hi) (h5 : g1 ≠ g2) :
    DXt (w.setCells b (j * 5) [.slice (some ⟨g1, 0, none⟩) c.key.length c.key.length, .int .i64 c.kd, .slice (some ⟨g2, 0, none⟩) c.val.length c.val.length, .int .i64 c.pg, .int .i64 c.ct]) lo hi b (j * 5) c := by
  have h := World.rangeAt_setCells_same w b (j * 5) [.slice (some ⟨g1, 0, none⟩) c.key.length c.key.length, .int .i64 c.kd, .slice (some ⟨g2, 0, none⟩) c.val.length c.val.length, .int .i64 c.pg, .int .i64 c.ct] (hr.there hj)
  exact ⟨g1, g2, h 0 _ rfl, h 1 _ rfl, h 2 _ rfl, h 3 _ rfl, h 4 _ rfl, h1.sets (hr.ne h1), h2.sets (hr.ne h2), h3, h4, Nat.lt_of_lt_of_le (lt_some h1) hh, Nat.lt_of_lt_of_le (lt_some h2) hh, h5⟩
set_option maxRecDepth 100000 in
theorem sets_size : ∀ (vs : List Value) (w : World) (b j : Nat), (w.setCells b j vs).heap.size = w.heap.size
  | [], _, _, _ => rfl
  | v :: r, w, b, j => (sets_size r (w.setCell ⟨b, j, none⟩ v) b (j + 1)).trans (by simp)
/-- CELLS OF ONE'S OWN, in the row g: their bytes in blocks that rise. -/
structure OwnC (w : World) (B g : Nat) (cs : List Cl) (P : Nat → Nat) : Prop where
  row : RowC w g cs.length
  hg : B ≤ g
  p0 : B ≤ P 0
  up : ∀ i, i < cs.length → P i ≤ P (i + 1)
  top : P cs.length ≤ w.heap.size
  at_ : ∀ i d, cs[i]? = some d → DXt w (P i) (P (i + 1)) g (i * 5) d
set_option maxRecDepth 100000 in
theorem OwnC.on {w w' : World} {B g : Nat} {cs : List Cl} {P : Nat → Nat} (h : OwnC w B g cs P) (hb : Below w.heap.size w w') : OwnC w' B g cs P :=
  ⟨h.row.on hb, h.hg, h.p0, h.up, Nat.le_trans h.top hb.size, fun i d hd => (h.at_ i d hd).on h.row.lt hb⟩
set_option maxRecDepth 100000 in
theorem OwnC.slc {w : World} {B g : Nat} {cs : List Cl} {P : Nat → Nat} (h : OwnC w B g cs P) (hw : ∀ c ∈ cs, c.Wf) (hl : ∀ c ∈ cs, c.key.length ≤ 140737488355328 ∧ c.val.length ≤ 140737488355328) (hn : cs.length ≤ 140737488355328) : SlC w (some ⟨g, 0, none⟩) cs.length cs.length cs := by
  refine ⟨rfl, Nat.le_refl _, hn, (by intro h; cases h), .inr ⟨g, 0, rfl, h.row.lt, fun i c hi => ?_⟩⟩
  obtain ⟨g1, g2, e0, e1, e2, e3, e4, e5, e6, _⟩ := h.at_ i c hi
  have hm := List.mem_of_getElem? hi
  rw [Nat.zero_add]
  exact ⟨_, _, _, _, e0, e1, e2, e3, e4, e5.sl rfl (hw c hm).1 (hl c hm).1, e6.sl rfl (hw c hm).2 (hl c hm).2⟩
/-- What Decode comes to. -/
def DecOw (l : List Int) (w : World) (e : Ending) (w' : World) : Prop :=
  ∃ k ao n cap c, e = .returned (.tuple #[.int .i64 k, .slice ao n cap, .int .i64 c]) ∧ Hid (Below w.heap.size w w') ∧
    Hid ((c = 60 ∧ k = 0 ∧ ao = none ∧ n = 0 ∧ cap = 0 ∧ ¬ ∃ cs, Is (l.getD 0 0) l.length cs l) ∨
      ∃ cs g P, c = 0 ∧ k = l.getD 0 0 ∧ ao = some ⟨g, 0, none⟩ ∧ n = cs.length ∧ cap = cs.length ∧ Is (l.getD 0 0) l.length cs l ∧ (∀ d ∈ cs, d.Wf) ∧ OwnC w' w.heap.size g cs P)

set_option maxRecDepth 100000 in
set_option maxHeartbeats 1000000 in
theorem decode_own (ao : Option Addr) (n cap : Nat) (l : List Int) (w : World) (hs : Sl w ao n cap l) (ht : Tab w) (h0 : 0 < w.heap.size) :
    Calls Tryd.prog 6 #[.slice ao n cap] w fun e w' => DecOw l w e w' := by
  obtain ⟨ic, hic, hz0, hz1, hz2⟩ := info_parts infoC
  have HO := hidden (open_any ao n cap l w hs ht h0)
  have HLEN := hidden hs.hlen
  clear hs ht
  go_enter Tryd.func6, Tryd.ntmps6
  go_wp2_with (first | (go_at_call 7; refine HO.out.mono ?_; rintro e w1 ⟨po, ec, rfl, HB1, HQ⟩; refine Hid.out ?_))
  apply hidden
  clear HO
  rcases HQ.out with ⟨rfl, rfl, hno⟩ | ⟨a, bo, bn, bc, so, sn, sc, cs, rfl, rfl, hal, his, hwf, hpg⟩
  · have HNO := hidden hno
    clear HQ hno
    go_wp2
    go_ret3
    exact ⟨0, none, 0, 0, 60, rfl, HB1, hidden (.inl ⟨rfl, rfl, rfl, rfl, rfl, HNO.out⟩)⟩
  · have HPG := hidden hpg
    have HIS := hidden his
    have HWF := hidden hwf
    have HFIT : Hid (∀ c ∈ cs, c.fit) := hidden fun c hc => (chk_may his.ok c hc).fit (by have := pw_nat his.sz; omega)
    obtain ⟨hsn, hbn⟩ := hpg.sn_eq
    have hz := szN_eq cs
    have hfit := his.fit
    have hpn := pw_nat his.sz
    have hs1 : sn ≤ 65536 := by omega
    have hb1 : bn ≤ 65536 := by omega
    have HSN := hidden hsn
    clear hpg his hwf HQ hsn hbn hz hfit hpn
    obtain ⟨c0, c1, c2, c3⟩ := HPG.out.cells
    have HL := hidden (len_any w1 a _ _ bo bn bc so sn sc cs HPG.out)
    go_wp2_with (first
      | (go_at_call 18; refine same_call HL.out ?_)
      | (at_make; refine wpList_make_full _ rfl _ _ 25 rfl w.heap.size 44 ic _ 5 Tryd.underlying25 hic hz0 hz1 .i64 .i64 sn sn sn rfl rfl rfl rfl (by rw [hz2]; omega) (by unfold maxLen; omega) HB1.out.size ?_; refine Hid.out ?_))
    apply hidden
    intro w2 ho2 hg2
    have hb2 : Below w1.heap.size w1 w2 := (Below.refl _ _).grown hg2 (Nat.le_refl _) (fun k hk => by cases hk)
    obtain ⟨g, hg⟩ : ∃ g, w1.heap.size = g := ⟨_, rfl⟩
    have HRW : Hid (RowC w2 g sn) := by
      rcases ho2.2 with ⟨h, _⟩ | ⟨q, c, cur, h, _, hh, _, _, hss, _⟩
      · cases h
      · cases h
        rw [← hg]
        exact hidden ⟨cur, hh, by rw [hss]; omega⟩
    have HWG : Hid (w.heap.size ≤ g) := hidden (by rw [← hg]; exact HB1.out.size)
    have HB2 := hidden hb2
    have hgs : Below g w1 w2 := by rw [← hg]; exact hb2
    have HGS := hidden hgs
    have HGW := hidden hg
    rw [hg]
    clear ho2 hg2 hb2 HL c0 c1 c2 c3 hgs
    go_wp2_with fail
    go_loopw [22] (fun i wr => ∃ (j : Nat) (P : Nat → Nat), j ≤ sn ∧ i = .int .i64 j ∧ Hid (RowC wr g sn) ∧ Hid (Below g w1 wr) ∧ Hid (∀ i d, i < j → cs[i]? = some d → DXt wr (P i) (P (i + 1)) g (i * 5) d) ∧ Hid (w.heap.size ≤ P 0 ∧ (∀ i, i < j → P i ≤ P (i + 1)) ∧ P j ≤ wr.heap.size)) (fun i _ => sn - (intOf i).toNat)
    case atStart => exact ⟨0, fun _ => w.heap.size, by omega, rfl, HRW, HGS, hidden fun i d hi => by omega, hidden ⟨Nat.le_refl _, fun i hi => by omega, Nat.le_trans HB1.out.size HB2.out.size⟩⟩
    case round =>
      obtain ⟨j, P, hj, rfl, HR, HG, HD, HP⟩ := hrel
      have HBE : Hid (Below w1.heap.size w1 wr) := hidden (by rw [HGW.out]; exact HG.out)
      have HPR := hidden (HPG.out.on HBE.out)
      have bj : (j : Int) ≤ 65536 := by omega
      clear HRW HGS
      by_cases hlt : j < sn
      · have hltI : (j : Int) < (sn : Int) := by omega
        have hjc : j < cs.length := by rw [← HSN.out]; exact hlt
        obtain ⟨d, hd⟩ : ∃ d, cs[j]? = some d := ⟨_, List.getElem?_eq_getElem hjc⟩
        have HDJ := hidden hd
        have HV := hidden (view_any wr a _ _ bo bn bc so sn sc cs HPR.out HFIT.out j hjc d hd hb1)
        clear hd hjc
        go_wp2_with (first | (go_at_call 21; refine HV.out.mono ?_; rintro e u1 ⟨ko, kn, kc, vo, vn, vc, rfl, HK, HVV, HB3⟩; refine Hid.out ?_))
        apply hidden
        have hkl := HK.out.hlen
        have hvl := HVV.out.hlen
        have HKL := hidden hkl
        have HVL := hidden hvl
        clear hkl hvl HV
        have HC := hidden (copied_any ko kn kc d.kd vo vn vc d.pg d.ct d.key d.val u1 HK.out HVV.out)
        go_wp2_with (first | (go_at_call 20; refine HC.out.mono ?_; rintro e u2 ⟨g1, g2, rfl, HGG, HB4⟩; refine Hid.out ?_))
        apply hidden
        have HBU : Hid (Below wr.heap.size wr u2) := hidden (bl_go HB3.out (Nat.le_refl _) HB4.out)
        have HR2 : Hid (RowC u2 g sn) := hidden (HR.out.on HBU.out)
        have HG2 : Hid (Below g w1 u2) := hidden (HG.out.trans (HBU.out.mono (Nat.le_of_lt HR.out.lt)))
        have hwg : wr.heap.size ≤ u1.heap.size := HB3.out.size
        have HU2S : Hid (u2.heap.size ≤ u2.heap.size ∧ wr.heap.size ≤ u2.heap.size) := hidden ⟨Nat.le_refl _, HBU.out.size⟩
        clear HC HK HVV
        go_wp2_with (refine put_cell (by rfl) _ _ (by rfl) g (j * 5) sn (some ⟨g1, 0, none⟩) (some ⟨g2, 0, none⟩) kn kn vn vn d.kd d.pg d.ct HR2.out (by rfl) (by rfl) (by omega) ?_; intro u3 HU3; refine Hid.out ?_)
        apply hidden
        have HR3 : Hid (RowC u3 g sn) := hidden (by rw [HU3.out]; exact RowC.sets _ _ _ HR2.out)
        have HG3 : Hid (Below g w1 u3) := hidden (by
          rw [HU3.out]
          simp only [World.setCells]
          refine ((((HG2.out.setCell ?_ _).setCell ?_ _).setCell ?_ _).setCell ?_ _).setCell ?_ _ <;> simp)
        obtain ⟨P3, hP3⟩ : ∃ P3 : Nat → Nat, P3 = fun i => if i ≤ j then P i else u2.heap.size := ⟨_, rfl⟩
        have HP3 : Hid (w.heap.size ≤ P3 0 ∧ (∀ i, i < j + 1 → P3 i ≤ P3 (i + 1)) ∧ P3 (j + 1) ≤ u3.heap.size) := hidden (by
          obtain ⟨q1, q2, q3⟩ := HP.out
          have q4 := HU2S.out.2
          rw [hP3]
          refine ⟨by simpa using q1, fun i hi => ?_, ?_⟩
          · by_cases e : i = j
            · simp only [e, Nat.le_refl, if_true, show ¬ j + 1 ≤ j by omega, if_false]
              omega
            · simp only [show i ≤ j by omega, show i + 1 ≤ j by omega, if_true]
              exact q2 i (by omega)
          · simp only [show ¬ j + 1 ≤ j by omega, if_false]
            rw [HU3.out, sets_size]
            exact Nat.le_refl _)
        have HD3 : Hid (∀ i d, i < j + 1 → cs[i]? = some d → DXt u3 (P3 i) (P3 (i + 1)) g (i * 5) d) := by
          refine hidden fun i d' hi hd' => ?_
          rw [HU3.out, hP3]
          by_cases e : i = j
          · subst e
            rw [HDJ.out] at hd'
            injection hd' with hd'
            subst hd'
            simp only [Nat.le_refl, if_true, show ¬ i + 1 ≤ i by omega, if_false]
            have hp := HP.out.2.2
            have := DXt.new (lo := P i) (hi := u2.heap.size) (c := d) (j := i) HR2.out (by omega) HGG.out.1 HGG.out.2.1 (by have := HGG.out.2.2.1; omega) (by have := HGG.out.2.2.2.1; omega) (Nat.le_refl _) HGG.out.2.2.2.2
            rw [HKL.out, HVL.out] at this
            exact this
          · simp only [show i ≤ j by omega, show i + 1 ≤ j by omega, if_true]
            exact ((HD.out i d' (by omega) hd').on HR.out.lt HBU.out).put HR2.out (by omega)
        clear hP3
        clear HU3 HR2 HG2 HR HG HD HGG HB3 HB4 HBU HPR HP HU2S
        go_wp2
        go_roundw
        case rel => exact ⟨j + 1, P3, by omega, by go_num, HR3, HG3, HD3, HP3⟩
        case measure => simp [intOf]; omega
      · obtain rfl : j = sn := by omega
        have hlI : ¬ (j : Int) < (j : Int) := by omega
        obtain ⟨c0, c1, c2, c3⟩ := HPR.out.cells
        go_wp2
        go_ret3
        refine ⟨l.getD 0 0, some ⟨g, 0, none⟩, j, j, 0, rfl, hidden (bl_go HB1.out (Nat.le_refl _) HBE.out), hidden (.inr ⟨cs, g, P, rfl, rfl, rfl, HSN.out, HSN.out, HIS.out, HWF.out, ?_, HWG.out, HP.out.1, ?_, ?_, ?_⟩)⟩
        · rw [← HSN.out]; exact HR.out
        · rw [← HSN.out]; exact HP.out.2.1
        · rw [← HSN.out]; exact HP.out.2.2
        · intro i d hd
          refine HD.out i d ?_ hd
          have := (List.getElem?_eq_some_iff.1 hd).1
          rw [HSN.out]
          exact this
end Go.Proofs.YtdmpbdppdcaabaaDoor

/- espalierref06.Book's lists of cells: rows of such lists; cells with marks. -/

namespace Go.Proofs.YtdmpbdppdcaabaaDoor
open Go.RowKit
namespace Six

set_option maxRecDepth 100000 in
theorem c_neY : 44 ≠ 25 := by decide
set_option maxRecDepth 100000 in
theorem bk_neY : 41 ≠ 25 := by decide
set_option maxRecDepth 100000 in
theorem bk_neC : 41 ≠ 44 := by decide
set_option maxRecDepth 100000 in
theorem x_neY : 22 ≠ 25 := by decide
set_option maxRecDepth 100000 in
theorem infoSl5 : (Tryd.prog.info? 25).map (fun i => (i.zero, i.size, i.bytes)) = some (some (.slice none 0 0), 1, 24) := by kernel_rfl
/-- The slice value v owns the values xs. -/
def OwnY (w : World) (B : Nat) (v : Value) (xs : List Value) : Prop := w.ownsRow B 25 1 v xs.length xs
set_option maxRecDepth 100000 in
theorem OwnY.nil (w : World) (B : Nat) : OwnY w B (.slice none 0 0) [] := World.ownsRow_nil w B 25 1
set_option maxRecDepth 100000 in
/-- A row of values is not a block of another type. -/
theorem OwnY.noty {w : World} {B : Nat} {v : Value} {xs : List Value} (h : OwnY w B v xs) {g : Nat} {c : Array Value} {t : TypeId} {fz : Nat × Nat} (hg : w.heap[g]? = some (.cells c t fz)) (ht : t ≠ 25) : v.ownBlock ≠ some g := by
  intro e
  rcases h.2 with ⟨rfl, _⟩ | ⟨k, cap, cur, rfl, _, hk, _⟩
  · cases e
  · injection e with e
    have e' : k = g := e
    rw [← e', hk] at hg
    injection hg with hg
    injection hg with _ h2 _
    exact ht h2.symm
set_option maxRecDepth 100000 in
theorem OwnY.kept {w w' : World} {B : Nat} {v : Value} {xs : List Value} {row : Option Nat} (h : OwnY w B v xs) (hg : w.grownBy w' row) (hne : v.ownBlock = none ∨ v.ownBlock ≠ row) : OwnY w' B v xs := World.ownsRow.kept h hg hne
set_option maxRecDepth 100000 in
theorem OwnY.on {w w' : World} {B : Nat} {v : Value} {xs : List Value} (h : OwnY w B v xs) (hb : Below w.heap.size w w') : OwnY w' B v xs := h.kept (row := none) ⟨hb.os, hb.tape, hb.output, hb.size, fun k hk _ => hb.block k hk⟩ (by
  cases e : v.ownBlock with
  | none => exact .inl rfl
  | some k => exact .inr (by simp))
set_option maxRecDepth 100000 in
theorem OwnY.cells {w : World} {B : Nat} {v : Value} {xs : List Value} (h : OwnY w B v xs) : ∃ ao cap, v = .slice ao xs.length cap ∧ (xs.length = 0 ∨ ∃ g, ao = some ⟨g, 0, none⟩ ∧ xs.length ≤ cap ∧ ∀ (t : Nat) (u : Value), xs[t]? = some u → w.cell? ⟨g, t, none⟩ = some u) := by
  rcases h.2 with ⟨rfl, h0⟩ | ⟨g, cap, cur, rfl, hg, hh, hnc, hm, hs, ht⟩
  · exact ⟨none, 0, by rw [h0], .inl h0⟩
  · refine ⟨_, cap, rfl, .inr ⟨g, rfl, hnc, fun t u hu => ?_⟩⟩
    have hlt := (List.getElem?_eq_some_iff.1 hu).1
    have := World.ownsRow.cellAt h t (by omega)
    rw [this]
    exact hu
set_option maxRecDepth 100000 in
/-- 'append(got, b)'. -/
theorem app_y {ops : Array Oper} {rest : List Oper} {o : Oper} {a : Act} {Q : Exit → Act → World → Prop} (w : World) (hgd : o.guard = none) (s x : Operand)
    (ho : o.op = .call { callee := .builtin .append, args := #[s, x], argTypes := #[39, 39] }) (B : Nat) (xs : List Value) (v y : Value) (hs : a.eval s = v) (h1 : y.oneCell' = true)
    (hown : OwnY w B v xs) (b : Nat) (hx : a.eval x = .slice (some ⟨b, 0, none⟩) 1 1) (hc : w.cell? ⟨b, 0, none⟩ = some y) (hb : xs.length + 1 ≤ 100000000) (hbase : B ≤ w.heap.size)
    (h : ∀ v' w', OwnY w' B v' (xs ++ [y]) → Gr w v w' v' → wpList Tryd.prog ops Q rest (a.put o.dst v') w') : wpList Tryd.prog ops Q (o :: rest) a w := by
  obtain ⟨i0, hi, hz0, hz1, hz2⟩ := info_parts infoSl5
  refine wpList_append_own_at w hgd s x 39 ho B 25 i0 (.slice none 0 0) 1 24 Tryd.underlying39 hi hz0 hz1 hz2 rfl (by decide) v xs.length xs hs hown ⟨b, 0, none⟩ 1 1 [y] hx rfl
    (fun j u hu => by
      have hj : j = 0 := by
        have := (List.getElem?_eq_some_iff.1 hu).1
        simpa using this
      subst hj
      simp at hu
      subst hu
      simpa [Addr.add_lit] using hc) (fun u hu => by simp at hu; subst hu; exact h1) (by unfold maxLen; omega) (by omega) hbase ?_
  intro v' w' h1 h2 _ h4
  refine h v' w' ?_ ⟨h2, h4.imp id fun e => ⟨_, e, Nat.le_refl _⟩⟩
  unfold OwnY
  rw [List.length_append]
  exact h1

/-- A cell that has a mark. -/
def mkV (j : Nat) : List Value := [.slice none 0 0, .int .i64 (1000 + (j : Int)), .slice none 0 0, .int .i64 0, .int .i64 0]
/-- The slice value u owns n cells, of which the first k have the mark j. -/
def OwnP (w : World) (B : Nat) (u : Value) (n k j : Nat) : Prop := ∃ vs, w.ownsRow B 44 5 u n vs ∧ ∀ t, t < k → vs[t * 5 + 1]? = some (.int .i64 (1000 + (j : Int)))
set_option maxRecDepth 100000 in
theorem OwnP.kept {w w' : World} {B n k j : Nat} {u : Value} {row : Option Nat} (h : OwnP w B u n k j) (hg : w.grownBy w' row) (hne : u.ownBlock = none ∨ u.ownBlock ≠ row) : OwnP w' B u n k j := by
  obtain ⟨vs, h1, h2⟩ := h
  exact ⟨vs, World.ownsRow.kept h1 hg hne, h2⟩
set_option maxRecDepth 100000 in
theorem OwnP.on {w w' : World} {B n k j : Nat} {u : Value} (h : OwnP w B u n k j) (hb : Below w.heap.size w w') : OwnP w' B u n k j := h.kept (row := none) ⟨hb.os, hb.tape, hb.output, hb.size, fun k hk _ => hb.block k hk⟩ (by
  cases e : u.ownBlock with
  | none => exact .inl rfl
  | some k => exact .inr (by simp))
set_option maxRecDepth 100000 in
theorem OwnP.lt {w : World} {B n k j z : Nat} {u : Value} (h : OwnP w B u n k j) (hz : u.ownBlock = some z) : B ≤ z ∧ z < w.heap.size := by
  obtain ⟨vs, h1, _⟩ := h
  exact h1.lt z hz
set_option maxRecDepth 100000 in
theorem OwnP.ty {w : World} {B n k j z : Nat} {u : Value} (h : OwnP w B u n k j) (hz : u.ownBlock = some z) : ∃ cs fz, w.heap[z]? = some (.cells cs 44 fz) := by
  obtain ⟨vs, h1, _⟩ := h
  rcases h1.2 with ⟨rfl, _⟩ | ⟨g', c, cur, rfl, _, hh, _⟩
  · cases hz
  · injection hz with hg
    have hg' : g' = z := hg
    rw [← hg']
    exact ⟨_, _, hh⟩
set_option maxRecDepth 100000 in
theorem OwnP.noty {w : World} {B n k j g : Nat} {u : Value} (h : OwnP w B u n k j) {c : Array Value} {t : TypeId} {fz : Nat × Nat} (hg : w.heap[g]? = some (.cells c t fz)) (ht : t ≠ 44) : u.ownBlock ≠ some g := by
  intro e
  obtain ⟨cs, f2, e2⟩ := h.ty e
  rw [e2] at hg
  injection hg with hg
  injection hg with _ h2 _
  exact ht h2.symm
set_option maxRecDepth 100000 in
theorem OwnY.noP {w : World} {B C n k j : Nat} {v u : Value} {xs : List Value} (h : OwnY w B v xs) (p : OwnP w C u n k j) : v.ownBlock = none ∨ v.ownBlock ≠ u.ownBlock := by
  cases hu : u.ownBlock with
  | none =>
    cases e : v.ownBlock with
    | none => exact .inl rfl
    | some _ => right; simp
  | some g =>
    obtain ⟨cs, fz, e⟩ := p.ty hu
    exact .inr (h.noty e c_neY)
set_option maxRecDepth 100000 in
theorem OwnP.shape {w : World} {B n k j : Nat} {u : Value} (h : OwnP w B u n k j) : ∃ ao c, u = .slice ao n c ∧ (n = 0 ∨ ∃ g, ao = some ⟨g, 0, none⟩ ∧ B ≤ g ∧ RowC w g c ∧ n ≤ c) := by
  obtain ⟨vs, h1, _⟩ := h
  rcases h1.2 with ⟨rfl, h0⟩ | ⟨g, cap, cur, rfl, hg, hh, hnc, _, hs, _⟩
  · exact ⟨none, 0, by rw [h0], .inl h0⟩
  · exact ⟨_, cap, rfl, .inr ⟨g, rfl, hg, ⟨cur, hh, by omega⟩, hnc⟩⟩
set_option maxRecDepth 100000 in
theorem OwnP.cell {w : World} {B n k j g c : Nat} (h : OwnP w B (.slice (some ⟨g, 0, none⟩) n c) n k j) {t : Nat} (ht : t < k) (hk : k ≤ n) : w.cell? ⟨g, t * 5 + 1, none⟩ = some (.int .i64 (1000 + (j : Int))) := by
  obtain ⟨vs, h1, h2⟩ := h
  rw [h1.cellAt (t * 5 + 1) (by omega)]
  exact h2 t ht
set_option maxRecDepth 100000 in
theorem grown_trans {w w1 w2 : World} {row : Option Nat} (h : w.grownBy w1 row) (k : w1.grownBy w2 row) : w.grownBy w2 row :=
  ⟨k.os.trans h.os, k.tape.trans h.tape, k.output.trans h.output, Nat.le_trans h.size k.size, fun z hz hne => (k.block z (Nat.lt_of_lt_of_le hz h.size) hne).trans (h.block z hz hne)⟩
set_option maxRecDepth 100000 in
theorem own_sets {B n c g : Nat} {e : TypeId} {s : Nat} : ∀ (us : List Value) (j : Nat) (w : World) (xs : List Value), w.ownsRow B e s (.slice (some ⟨g, 0, none⟩) n c) n xs → ∃ ys, (w.setCells g j us).ownsRow B e s (.slice (some ⟨g, 0, none⟩) n c) n ys ∧ w.grownBy (w.setCells g j us) (some g)
  | [], j, w, xs, h => ⟨xs, h, ⟨rfl, rfl, rfl, Nat.le_refl _, fun _ _ _ => rfl⟩⟩
  | v :: r, j, w, xs, h => by
    obtain ⟨h1, h2⟩ := h.stored j v
    obtain ⟨ys, h3, h4⟩ := own_sets r (j + 1) _ _ h1
    exact ⟨ys, h3, grown_trans h2 h4⟩
set_option maxRecDepth 100000 in
theorem OwnP.put {w : World} {B n k j g c : Nat} (h : OwnP w B (.slice (some ⟨g, 0, none⟩) n c) n k j) (hk : k < n) : OwnP (w.setCells g (k * 5) (mkV j)) B (.slice (some ⟨g, 0, none⟩) n c) n (k + 1) j ∧ w.grownBy (w.setCells g (k * 5) (mkV j)) (some g) := by
  have hh := h
  obtain ⟨vs, h1, h2⟩ := h
  obtain ⟨ys, h3, h4⟩ := own_sets (mkV j) (k * 5) w vs h1
  obtain ⟨ao, c', e, hs⟩ := hh.shape
  rcases hs with hs | ⟨g', e', _, hr, hnc⟩
  · omega
  injection e with e1 _ e3
  rw [e'] at e1
  injection e1 with e1
  injection e1 with e1 _ _
  subst e1
  refine ⟨⟨ys, h3, fun t ht => ?_⟩, h4⟩
  rw [← h3.cellAt (t * 5 + 1) (by omega)]
  by_cases e : t = k
  · subst e
    have := World.rangeAt_setCells_same w g (t * 5) (mkV j) (hr.there (by omega))
    exact this 1 _ rfl
  · rw [World.cell?_setCells_out g _ _ w _ (fun _ _ => .inl (by simp only; omega)), h1.cellAt (t * 5 + 1) (by omega)]
    exact h2 t (by omega)
set_option maxRecDepth 100000 in
/-- append(l, a cell with the mark j). -/
theorem app_m (w : World) (B : Nat) (ty : TypeId) (v : Value) (n j b : Nat) (hown : OwnP w B v n n j) (hc : ∀ t u, (mkV j)[t]? = some u → w.cell? ⟨b, t, none⟩ = some u) (hn : n + 1 ≤ 1000000) (hB : B ≤ w.heap.size) :
    ∃ v' w', (Builtin.append_ #[25, 25] ty #[v, .slice (some ⟨b, 0, none⟩) 1 1]).run Tryd.prog w = .ok v' w' ∧ OwnP w' B v' (n + 1) (n + 1) j ∧
      ((v'.ownBlock = v.ownBlock ∧ w.grownBy w' v.ownBlock) ∨ (Below w.heap.size w w' ∧ ∀ k, v'.ownBlock = some k → w.heap.size ≤ k)) := by
  obtain ⟨i0, hi, hz0, hz1, hz2⟩ := info_parts infoC
  obtain ⟨vs, h1, h2⟩ := hown
  have hl5 : (mkV j).length = 1 * 5 := rfl
  have hnews : ∀ t u, (mkV j)[t]? = some u → w.cell? ((⟨b, 0, none⟩ : Addr).add t) = some u := fun t u hu => by
    rw [Addr.add_lit, Nat.zero_add]
    exact hc t u hu
  have hone : ∀ u ∈ mkV j, u.oneCell' = true := by
    intro u hu
    simp only [mkV, List.mem_cons, List.not_mem_nil, or_false] at hu
    rcases hu with rfl | rfl | rfl | rfl | rfl <;> rfl
  obtain ⟨v', w', hr, g2, g3, g4⟩ := run_append_own (P := Tryd.prog) w B 25 ty 44 i0 _ 5 72 Tryd.underlying25 hi hz0 hz1 hz2 rfl (by decide) v n vs h1 ⟨b, 0, none⟩ 1 1 (mkV j) hl5 hnews hone (by unfold maxLen; omega) (by omega) hB
  refine ⟨v', w', hr, ⟨_, g2, fun t ht => ?_⟩, ?_⟩
  · have hvl := h1.1
    by_cases e : t < n
    · rw [List.getElem?_append_left (by omega)]
      exact h2 t e
    · obtain rfl : t = n := by omega
      rw [List.getElem?_append_right (by omega), hvl, show t * 5 + 1 - t * 5 = 1 by omega]
      rfl
  · rcases h1.2 with ⟨rfl, h0⟩ | ⟨g, cap, cur, rfl, hbg, hg, hnc, hcm, hcs, htake⟩
    · have hr' := run_append_nil (P := Tryd.prog) w 25 ty 44 i0 _ Tryd.underlying25 hi hz0 ⟨b, 0, none⟩ 1 1 (mkV j) (by rw [hz1]; rfl) hnews (by omega) (by omega) (by rw [hz2]; omega)
      rw [hr] at hr'
      injection hr' with e1 e2
      refine .inr ⟨by rw [e2]; exact (Below.refl _ _).drew.alloc (Nat.le_refl _) _, fun k hk => ?_⟩
      rw [e1] at hk
      injection hk with hk
      have : w.heap.size = k := hk
      omega
    · by_cases hroom : n + 1 ≤ cap
      · have hr' := run_append_room (P := Tryd.prog) w 25 ty 44 i0 Tryd.underlying25 hi g n cap cur hg ⟨b, 0, none⟩ 1 1 (mkV j) (by rw [hz1]; rfl) hnews hone hroom (by rw [hz1, hl5]; omega)
        rw [hr] at hr'
        injection hr' with e1 e2
        exact .inl ⟨by rw [e1]; rfl, g3⟩
      · have holds : ∀ t u, vs[t]? = some u → w.cell? ((⟨g, 0, none⟩ : Addr).add t) = some u := World.ownsRow.cells h1 (g := g) rfl
        have hr' := run_append_grow (P := Tryd.prog) w 25 ty 44 i0 _ Tryd.underlying25 hi hz0 ⟨g, 0, none⟩ n cap vs (by rw [hz1]; exact h1.1) holds ⟨b, 0, none⟩ 1 1 (mkV j) (by rw [hz1]; rfl) hnews (by omega) (by omega) (by rw [hz2]; exact growslice_fits (by omega) (by omega))
        rw [hr] at hr'
        injection hr' with e1 e2
        refine .inr ⟨by rw [e2]; exact (Below.refl _ _).drew.alloc (Nat.le_refl _) _, fun k hk => ?_⟩
        rw [e1] at hk
        injection hk with hk
        have : w.heap.size = k := hk
        omega
/-- A slice of cells with the mark j. -/
def SlM (w : World) (ao : Option Addr) (n j : Nat) : Prop := n = 0 ∨ ∃ g, ao = some ⟨g, 0, none⟩ ∧ (∃ cs fz, w.heap[g]? = some (.cells cs 44 fz)) ∧ ∀ t, t < n → w.cell? ⟨g, t * 5 + 1, none⟩ = some (.int .i64 (1000 + (j : Int)))
set_option maxRecDepth 100000 in
theorem SlM.keep {w w' : World} {ao : Option Addr} {n j : Nat} (h : SlM w ao n j) (hk : ∀ p cs fz, ao = some p → w.heap[p.block]? = some (.cells cs 44 fz) → w'.heap[p.block]? = w.heap[p.block]?) : SlM w' ao n j := by
  rcases h with h | ⟨g, rfl, ⟨cs, fz, h1⟩, h2⟩
  · exact .inl h
  · have e := hk _ cs fz rfl h1
    exact .inr ⟨g, rfl, ⟨cs, fz, e.trans h1⟩, fun t ht => (World.cell?_of_block (a := ⟨g, t * 5 + 1, none⟩) e).trans (h2 t ht)⟩
set_option maxRecDepth 100000 in
theorem SlM.on {w w' : World} {ao : Option Addr} {n j : Nat} (h : SlM w ao n j) (hb : Below w.heap.size w w') : SlM w' ao n j := h.keep fun _ _ _ _ h1 => hb.block _ (lt_some h1)
set_option maxRecDepth 100000 in
theorem OwnP.slm {w : World} {B n j : Nat} {ao : Option Addr} {c : Nat} (h : OwnP w B (.slice ao n c) n n j) : SlM w ao n j := by
  have hh := h
  obtain ⟨ao', c', e, hs⟩ := hh.shape
  rcases hs with hs | ⟨g, e', _, hr, hnc⟩
  · exact .inl hs
  · injection e with e1 _ _
    rw [e'] at e1
    subst e1
    exact .inr ⟨g, rfl, h.ty rfl, fun t ht => h.cell ht (Nat.le_refl _)⟩
/-- Such a slice, while x is grown. -/
def Ps5 (w : World) (x : Value) (i L : Nat) (u : Value) (n j : Nat) : Prop := (∃ ao c, u = .slice ao n c ∧ SlM w ao n j) ∧ (n = 0 ∨ u.ownBlock ≠ x.ownBlock ∨ (j = i ∧ n ≤ L))
set_option maxRecDepth 100000 in
theorem Ps5.on {w w' : World} {x : Value} {i L : Nat} {u : Value} {n j : Nat} (h : Ps5 w x i L u n j) (hb : Below w.heap.size w w') : Ps5 w' x i L u n j := by
  obtain ⟨⟨ao, c, e, h1⟩, h2⟩ := h
  exact ⟨⟨ao, c, e, h1.on hb⟩, h2⟩
set_option maxRecDepth 100000 in
theorem Ps5.grow {w w' : World} {B : Nat} {vG vG' : Value} {H : List Value} {x : Value} {i L : Nat} {u : Value} {n j : Nat} (h : Ps5 w x i L u n j) (hG : OwnY w B vG H) (hg : Gr w vG w' vG') : Ps5 w' x i L u n j := by
  obtain ⟨⟨ao, c, e, h1⟩, h2⟩ := h
  exact ⟨⟨ao, c, e, h1.keep fun p cs fz _ hp => hg.grow.block _ (lt_some hp) (fun e4 => hG.noty hp c_neY e4.symm)⟩, h2⟩
set_option maxRecDepth 100000 in
theorem Ps5.app {w w' : World} {B : Nat} {x x' : Value} {i L : Nat} {u : Value} {n j : Nat} (h : Ps5 w x i L u n j) (ho : OwnP w' B x' (L + 1) (L + 1) i)
    (hc : (x'.ownBlock = x.ownBlock ∧ w.grownBy w' x.ownBlock) ∨ (Below w.heap.size w w' ∧ ∀ k, x'.ownBlock = some k → w.heap.size ≤ k)) : Ps5 w' x' i (L + 1) u n j := by
  obtain ⟨⟨ao, c, rfl, h1⟩, h2⟩ := h
  rcases hc with ⟨e, hg⟩ | ⟨hb, hn⟩
  · by_cases hx : (Value.slice ao n c).ownBlock = x.ownBlock
    · by_cases h0 : n = 0
      · exact ⟨⟨ao, c, rfl, .inl h0⟩, .inl h0⟩
      · obtain ⟨rfl, hl⟩ : j = i ∧ n ≤ L := by
          rcases h2 with h2 | h2 | h2
          · omega
          · exact absurd hx h2
          · exact h2
        refine ⟨⟨ao, c, rfl, ?_⟩, .inr (.inr ⟨rfl, by omega⟩)⟩
        rcases h1 with h1 | ⟨g, rfl, _, _⟩
        · omega
        · have hxg : x'.ownBlock = some g := by rw [e, ← hx]; rfl
          obtain ⟨ao', c', e', hs⟩ := ho.shape
          rcases hs with hs | ⟨g', e'', _, hr, hnc⟩
          · omega
          · subst e'
            subst e''
            injection hxg with hxg
            have hxg' : g' = g := hxg
            subst hxg'
            exact .inr ⟨g', rfl, ho.ty rfl, fun t ht => ho.cell (by omega) (Nat.le_refl _)⟩
    · refine ⟨⟨ao, c, rfl, h1.keep fun p cs fz hp hh => hg.block _ (lt_some hh) (fun e4 => hx ?_)⟩, .inr (.inl (by rw [e]; exact hx))⟩
      rw [hp, ← e4]
      rfl
  · refine ⟨⟨ao, c, rfl, h1.on hb⟩, ?_⟩
    rcases h1 with h1 | ⟨g, rfl, ⟨cs, fz, h3⟩, _⟩
    · exact .inl h1
    · refine .inr (.inl fun e => ?_)
      have h4 := hn g (by rw [← e]; rfl)
      have h5 := lt_some h3
      omega
end Six
end Go.Proofs.YtdmpbdppdcaabaaDoor

/- espalierref06.Book.Owned: what stands while it runs. -/

namespace Go.Proofs.YtdmpbdppdcaabaaDoor
open Go.RowKit
namespace Six

/-- THE LISTS OF A BOOK: list t has nn t cells, the first K t of them marked. -/
structure Bl (w : World) (B bk : Nat) (bv v : Value) (V : List Value) (nn K : Nat → Nat) : Prop where
  box : w.heap[bk]? = some (.cells #[bv, v] 41 (0, 0))
  row : OwnY w B v V
  own : ∀ (t : Nat) (u : Value), V[t]? = some u → OwnP w B u (nn t) (K t) t
  ne : ∀ (t t' : Nat) (u u' : Value), V[t]? = some u → V[t']? = some u' → t ≠ t' → u.ownBlock = none ∨ u.ownBlock ≠ u'.ownBlock
set_option maxRecDepth 100000 in
theorem Bl.cong {w : World} {B bk : Nat} {bv v : Value} {V : List Value} {nn K L : Nat → Nat} (h : Bl w B bk bv v V nn K) (he : ∀ t, t < V.length → K t = L t) : Bl w B bk bv v V nn L :=
  ⟨h.box, h.row, fun t u ht => by rw [← he t (List.getElem?_eq_some_iff.1 ht).1]; exact h.own t u ht, h.ne⟩
set_option maxRecDepth 100000 in
theorem Bl.set {w : World} {B bk : Nat} {bv v : Value} {V : List Value} {nn K : Nat → Nat} (h : Bl w B bk bv v V nn K) {i g n c k : Nat} (hi : V[i]? = some (.slice (some ⟨g, 0, none⟩) n c)) (hn : nn i = n) (hK : K i = k) (hk : k < n) :
    Bl (w.setCells g (k * 5) (mkV i)) B bk bv v V nn (fun t => if t = i then k + 1 else K t) ∧ w.grownBy (w.setCells g (k * 5) (mkV i)) (some g) := by
  have ho := h.own i _ hi
  rw [hn, hK] at ho
  obtain ⟨ho2, hg⟩ := ho.put hk
  have hgu : (Value.slice (some ⟨g, 0, none⟩) n c).ownBlock = some g := rfl
  refine ⟨⟨(hg.block bk (lt_some h.box) (fun e => ho.noty h.box bk_neC (by rw [hgu, e]))).trans h.box, h.row.kept hg ?_, fun t u ht => ?_, h.ne⟩, hg⟩
  · have := h.row.noP ho
    rwa [hgu] at this
  · by_cases e : t = i
    · subst e
      rw [hi] at ht
      cases ht
      simp only [if_true]
      rw [hn]
      exact ho2
    · simp only [if_neg e]
      have h3 := h.ne t i u _ ht hi e
      rw [hgu] at h3
      exact (h.own t u ht).kept hg h3
/-- Where the second pair of loops stands. -/
structure P5 (w : World) (B bk : Nat) (bv v : Value) (V : List Value) (nn : Nat → Nat) (i k : Nat) (x vG : Value) (H : List Value) : Prop where
  box : w.heap[bk]? = some (.cells #[bv, v] 41 (0, 0))
  row : OwnY w B v V
  rowG : OwnY w B vG H
  gne : v.ownBlock = none ∨ v.ownBlock ≠ vG.ownBlock
  xo : OwnP w B x (nn i + k) (nn i + k) i
  own : ∀ (t : Nat) (u : Value), V[t]? = some u → i < t → OwnP w B u (nn t) (nn t) t ∧ (u.ownBlock = none ∨ u.ownBlock ≠ x.ownBlock)
  gr : ∀ (s : Nat) (u : Value), H[s]? = some u → ∃ n, n ≤ 900000 ∧ Ps5 w x i (nn i + k) u n (s / 5)
  gfar : ∀ (s : Nat) (y : Value), H[s]? = some y → ∀ (t : Nat) (u : Value), V[t]? = some u → i < t → y.ownBlock = none ∨ y.ownBlock ≠ u.ownBlock
set_option maxRecDepth 100000 in
theorem P5.on {w w' : World} {B bk : Nat} {bv v : Value} {V : List Value} {nn : Nat → Nat} {i k : Nat} {x vG : Value} {H : List Value} (h : P5 w B bk bv v V nn i k x vG H) (hb : Below w.heap.size w w') : P5 w' B bk bv v V nn i k x vG H :=
  ⟨(hb.block _ (lt_some h.box)).trans h.box, h.row.on hb, h.rowG.on hb, h.gne, h.xo.on hb, fun t u ht hi => ⟨(h.own t u ht hi).1.on hb, (h.own t u ht hi).2⟩, fun s u hs => by
    obtain ⟨n, h0, h1⟩ := h.gr s u hs
    exact ⟨n, h0, h1.on hb⟩, h.gfar⟩
set_option maxRecDepth 100000 in
theorem P5.appX {w w' : World} {B bk : Nat} {bv v : Value} {V : List Value} {nn : Nat → Nat} {i k : Nat} {x x' vG : Value} {H : List Value} (h : P5 w B bk bv v V nn i k x vG H) (ho : OwnP w' B x' (nn i + k + 1) (nn i + k + 1) i)
    (hc : (x'.ownBlock = x.ownBlock ∧ w.grownBy w' x.ownBlock) ∨ (Below w.heap.size w w' ∧ ∀ q, x'.ownBlock = some q → w.heap.size ≤ q)) : P5 w' B bk bv v V nn i (k + 1) x' vG H := by
  have hXx : ∀ {y : Value} {ys : List Value}, OwnY w B y ys → OwnY w' B y ys := by
    intro y ys hy
    rcases hc with ⟨_, hg⟩ | ⟨hb, _⟩
    · exact hy.kept hg (hy.noP h.xo)
    · exact hy.on hb
  refine ⟨?_, hXx h.row, hXx h.rowG, h.gne, ho, fun t u ht hi => ?_, fun s u hs => ?_, h.gfar⟩
  · rcases hc with ⟨_, hg⟩ | ⟨hb, _⟩
    · exact (hg.block bk (lt_some h.box) (fun e => h.xo.noty h.box bk_neC e.symm)).trans h.box
    · exact (hb.block _ (lt_some h.box)).trans h.box
  · obtain ⟨o1, n1⟩ := h.own t u ht hi
    rcases hc with ⟨e, hg⟩ | ⟨hb, hn⟩
    · exact ⟨o1.kept hg n1, by rw [e]; exact n1⟩
    · refine ⟨o1.on hb, ?_⟩
      cases e : u.ownBlock with
      | none => exact .inl rfl
      | some q =>
        right
        intro e2
        have h1 := (o1.lt e).2
        have h2 := hn q e2.symm
        omega
  · obtain ⟨n, h0, h1⟩ := h.gr s u hs
    exact ⟨n, h0, h1.app ho hc⟩
set_option maxRecDepth 100000 in
theorem P5.appG {w w' : World} {B bk : Nat} {bv v : Value} {V : List Value} {nn : Nat → Nat} {i k : Nat} {x vG vG' : Value} {H : List Value} (h : P5 w B bk bv v V nn i k x vG H) (hG : OwnY w' B vG' (H ++ [x])) (hg : Gr w vG w' vG') (hs : H.length / 5 = i) (hl : nn i + k ≤ 900000) : P5 w' B bk bv v V nn i k x vG' (H ++ [x]) := by
  have hkeep : ∀ {y : Value} {n k j : Nat}, OwnP w B y n k j → OwnP w' B y n k j := by
    intro y n k j hy
    refine hy.kept hg.grow ?_
    rcases h.rowG.noP hy with e | e
    · rw [e]
      cases e2 : y.ownBlock with
      | none => exact .inl rfl
      | some _ => exact .inr (by simp)
    · exact .inr fun e2 => e e2.symm
  have hxo := hkeep h.xo
  refine ⟨(hg.grow.block bk (lt_some h.box) (fun e => h.rowG.noty h.box bk_neY e.symm)).trans h.box, h.row.kept hg.grow h.gne, hG, ?_, hxo, fun t u ht hi => ⟨hkeep (h.own t u ht hi).1, (h.own t u ht hi).2⟩, fun s u hsu => ?_, fun s y hsy t u ht hi => ?_⟩
  · rcases h.gne with e | e
    · exact .inl e
    · rcases hg.own with e2 | ⟨q, e2, hq⟩
      · rw [e2]; exact .inr e
      · cases e3 : v.ownBlock with
        | none => exact .inl rfl
        | some z =>
          right
          rw [e2]
          intro e4
          injection e4 with e4
          have hr := h.row
          unfold OwnY at hr
          have := (hr.lt z e3).2
          omega
  · by_cases e : s < H.length
    · rw [List.getElem?_append_left e] at hsu
      obtain ⟨n, h0, h1⟩ := h.gr s u hsu
      exact ⟨n, h0, h1.grow h.rowG hg⟩
    · have hlt := (List.getElem?_eq_some_iff.1 hsu).1
      rw [List.length_append] at hlt
      simp only [List.length_cons, List.length_nil] at hlt
      obtain rfl : s = H.length := by omega
      rw [List.getElem?_concat_length] at hsu
      cases hsu
      obtain ⟨ao, c, rfl, _⟩ := hxo.shape
      refine ⟨nn i + k, hl, ⟨ao, c, rfl, ?_⟩, .inr (.inr ⟨hs, Nat.le_refl _⟩)⟩
      rw [hs]
      exact hxo.slm
  · by_cases e : s < H.length
    · rw [List.getElem?_append_left e] at hsy
      exact h.gfar s y hsy t u ht hi
    · have hlt := (List.getElem?_eq_some_iff.1 hsy).1
      rw [List.length_append] at hlt
      simp only [List.length_cons, List.length_nil] at hlt
      obtain rfl : s = H.length := by omega
      rw [List.getElem?_concat_length] at hsy
      cases hsy
      rcases (h.own t u ht hi).2 with e2 | e2
      · rw [e2]
        cases e3 : x.ownBlock with
        | none => exact .inl rfl
        | some _ => exact .inr (by simp)
      · exact .inr fun e3 => e2 e3.symm
/-- Between two lists. -/
structure Q5 (w : World) (B bk : Nat) (bv v : Value) (V : List Value) (nn : Nat → Nat) (i : Nat) (vG : Value) (H : List Value) : Prop where
  box : w.heap[bk]? = some (.cells #[bv, v] 41 (0, 0))
  row : OwnY w B v V
  rowG : OwnY w B vG H
  gne : v.ownBlock = none ∨ v.ownBlock ≠ vG.ownBlock
  own : ∀ (t : Nat) (u : Value), V[t]? = some u → i ≤ t → OwnP w B u (nn t) (nn t) t
  ne : ∀ (t t' : Nat) (u u' : Value), V[t]? = some u → V[t']? = some u' → t ≠ t' → u.ownBlock = none ∨ u.ownBlock ≠ u'.ownBlock
  gr : ∀ (s : Nat) (u : Value), H[s]? = some u → ∃ n, n ≤ 900000 ∧ ∃ ao c, u = .slice ao n c ∧ SlM w ao n (s / 5)
  gfar : ∀ (s : Nat) (y : Value), H[s]? = some y → ∀ (t : Nat) (u : Value), V[t]? = some u → i ≤ t → y.ownBlock = none ∨ y.ownBlock ≠ u.ownBlock
set_option maxRecDepth 100000 in
theorem Q5.into {w : World} {B bk : Nat} {bv v : Value} {V : List Value} {nn : Nat → Nat} {i : Nat} {vG : Value} {H : List Value} (h : Q5 w B bk bv v V nn i vG H) {x : Value} (hx : V[i]? = some x) : P5 w B bk bv v V nn i 0 x vG H := by
  have hxo := h.own i x hx (Nat.le_refl _)
  refine ⟨h.box, h.row, h.rowG, h.gne, hxo, fun t u ht hi => ⟨h.own t u ht (by omega), h.ne t i u x ht hx (by omega)⟩, fun s u hs => ?_, fun s y hs t u ht hi => h.gfar s y hs t u ht (by omega)⟩
  obtain ⟨n, h0, ao, c, rfl, h1⟩ := h.gr s u hs
  refine ⟨n, h0, ⟨ao, c, rfl, h1⟩, ?_⟩
  rcases h1 with h1 | ⟨g, rfl, _⟩
  · exact .inl h1
  · rcases h.gfar s _ hs i x hx (Nat.le_refl _) with e | e
    · cases e
    · exact .inr (.inl e)
set_option maxRecDepth 100000 in
theorem P5.out {w : World} {B bk : Nat} {bv v : Value} {V : List Value} {nn : Nat → Nat} {i k : Nat} {x vG : Value} {H : List Value} (h : P5 w B bk bv v V nn i k x vG H) (hne : ∀ (t t' : Nat) (u u' : Value), V[t]? = some u → V[t']? = some u' → t ≠ t' → u.ownBlock = none ∨ u.ownBlock ≠ u'.ownBlock) : Q5 w B bk bv v V nn (i + 1) vG H :=
  ⟨h.box, h.row, h.rowG, h.gne, fun t u ht hi => (h.own t u ht (by omega)).1, hne, fun s u hs => by
    obtain ⟨n, h0, h1, _⟩ := h.gr s u hs
    exact ⟨n, h0, h1⟩, fun s y hs t u ht hi => h.gfar s y hs t u ht (by omega)⟩
set_option maxRecDepth 100000 in
theorem Bl.start {w : World} {B bk : Nat} {bv v : Value} {V : List Value} {nn : Nat → Nat} (h : Bl w B bk bv v V nn nn) : Q5 w B bk bv v V nn 0 (.slice none 0 0) [] := by
  refine ⟨h.box, h.row, OwnY.nil _ _, ?_, fun t u ht _ => h.own t u ht, h.ne, fun s u hs => by simp at hs, fun s y hs => by simp at hs⟩
  cases e : v.ownBlock with
  | none => exact .inl rfl
  | some _ => exact .inr (by simp [Value.ownBlock])
end Six
end Go.Proofs.YtdmpbdppdcaabaaDoor

/- espalierref06.Book: Take and TakeAll. -/

namespace Go.Proofs.YtdmpbdppdcaabaaDoor
open Go.RowKit
namespace Six

/-- Blocks of other types than the book's own stay. -/
def KT (w w' : World) : Prop := w.heap.size ≤ w'.heap.size ∧ ∀ (k : Nat) (cs : Array Value) (t : TypeId) (fz : Nat × Nat), w.heap[k]? = some (.cells cs t fz) → t ≠ 41 → t ≠ 22 → w'.heap[k]? = w.heap[k]?
set_option maxRecDepth 100000 in
theorem KT.trans {a b c : World} (h : KT a b) (k : KT b c) : KT a c := ⟨Nat.le_trans h.1 k.1, fun z cs t fz h1 h2 h3 => by
  have e := h.2 z cs t fz h1 h2 h3
  exact (k.2 z cs t fz (e.trans h1) h2 h3).trans e⟩
set_option maxRecDepth 100000 in
theorem KT.of_below {a b : World} (h : Below a.heap.size a b) : KT a b := ⟨h.size, fun z _ _ _ h1 _ _ => h.block z (lt_some h1)⟩
set_option maxRecDepth 100000 in
theorem u8_ne6 : 5 ≠ 41 := by decide
set_option maxRecDepth 100000 in
theorem c_ne6 : 44 ≠ 41 := by decide
set_option maxRecDepth 100000 in
theorem c_neX : 44 ≠ 22 := by decide
set_option maxRecDepth 100000 in
theorem y_ne6 : 25 ≠ 41 := by decide
set_option maxRecDepth 100000 in
theorem y_neX : 25 ≠ 22 := by decide
set_option maxRecDepth 100000 in
theorem row_kt {w w' : World} {C s n : Nat} {e : TypeId} {u : Value} {xs : List Value} (h : w.ownsRow C e s u n xs) (hk : KT w w') (h1 : e ≠ 41) (h2 : e ≠ 22) : w'.ownsRow C e s u n xs := by
  refine ⟨h.1, ?_⟩
  rcases h.2 with h0 | ⟨g, cap, cur, e1, hg, hh, rest⟩
  · exact .inl h0
  · exact .inr ⟨g, cap, cur, e1, hg, (hk.2 g _ _ _ hh h1 h2).trans hh, rest⟩
set_option maxRecDepth 100000 in
theorem OwnB.kt {w w' : World} {C : Nat} {u : Value} {l : List Int} (h : OwnB w C u l) (hk : KT w w') : OwnB w' C u l := row_kt h hk u8_ne6 u8_neX
set_option maxRecDepth 100000 in
theorem take9K (w : World) (B bk : Nat) (lv : Value) (v : Value) (V : List Value) (D : Nat → List Int) (ao : Option Addr) (n c : Nat) (l : List Int) (h : Bo9 w B bk lv v V D) (hn : V.length ≤ 1000000) (hB : B ≤ w.heap.size) (hbk : B ≤ bk) (ho : OwnB w B (.slice ao n c) l) (hw : Wf l) (hl : l.length ≤ 65536)
    (hne : ∀ (t : Nat) (u : Value), V[t]? = some u → u.ownBlock = none ∨ u.ownBlock ≠ (Value.slice ao n c).ownBlock) :
    Calls Tryd.prog 54 #[.pointer (some ⟨bk, 0, none⟩), .slice ao n c] w fun e w' => e = .returned (.tuple #[]) ∧ ∃ v' D', Hid (Bo9 w' B bk lv v' (V ++ [.slice ao n c]) D') ∧ Hid (Cf (B ≤ ·) w w') ∧ Hid (KT w w') := by
  refine (take9 w B bk lv v V D ao n c l h hn hB ho hw hl hne).mono ?_
  rintro e w' ⟨rfl, hq⟩
  obtain ⟨v', hb, hc⟩ := hq.out
  refine ⟨rfl, v', _, hidden hb, hidden (hc.wide ?_), hidden ⟨hc.size, fun k cs t fz h1 h2 h3 => hc.block k (lt_some h1) ?_⟩⟩
  · rintro k (rfl | hk)
    · exact hbk
    · exact (ownX_in h.row hk).1
  · rintro (rfl | hk)
    · rw [h.box] at h1
      injection h1 with h1
      injection h1 with _ h4 _
      exact h2 h4.symm
    · exact h.row.noty h1 h3 hk
set_option maxRecDepth 100000 in
set_option maxHeartbeats 1000000 in
/-- A cell is taken. -/
theorem take6 (w : World) (B bk : Nat) (lv : Value) (v : Value) (V : List Value) (D : Nat → List Int) (ka va : Option Addr) (kn kc vn vc : Nat) (kd pg ct : Int) (key val : List Int) (h : Bo9 w B bk lv v V D) (hn : V.length + 1 ≤ 1000000) (hB : B ≤ w.heap.size) (hbk : B ≤ bk)
    (ho : OwnB w B (.slice ka kn kc) key) (hw : Wf key) (hl : key.length ≤ 65536) (ho2 : OwnB w B (.slice va vn vc) val) (hw2 : Wf val) (hl2 : val.length ≤ 65536)
    (hne : ∀ (t : Nat) (u : Value), V[t]? = some u → u.ownBlock = none ∨ u.ownBlock ≠ (Value.slice ka kn kc).ownBlock) (hne2 : ∀ (t : Nat) (u : Value), (V ++ [Value.slice ka kn kc])[t]? = some u → u.ownBlock = none ∨ u.ownBlock ≠ (Value.slice va vn vc).ownBlock) :
    Calls Tryd.prog 29 #[.pointer (some ⟨bk, 0, none⟩), .agg #[.slice ka kn kc, .int .i64 kd, .slice va vn vc, .int .i64 pg, .int .i64 ct]] w fun e w' => e = .returned (.tuple #[]) ∧ ∃ v' D', Hid (Bo9 w' B bk lv v' (V ++ [.slice ka kn kc] ++ [.slice va vn vc]) D') ∧ Hid (Cf (B ≤ ·) w w') ∧ Hid (KT w w') := by
  obtain ⟨s, hs⟩ : ∃ s, w.heap.size = s := ⟨_, rfl⟩
  obtain ⟨x, hx⟩ : ∃ x, w.alloc (.cells #[.slice ka kn kc, .int .i64 kd, .slice va vn vc, .int .i64 pg, .int .i64 ct] 44) = x := ⟨_, rfl⟩
  have hbx : Below w.heap.size w x := by rw [← hx]; exact bl_al (Below.refl _ _) (Nat.le_refl _) _
  have HBOX : Hid (C5 x s (.slice ka kn kc) (.int .i64 kd) (.slice va vn vc) (.int .i64 pg) (.int .i64 ct)) := by
    rw [← hx, ← hs]
    exact hidden (heap_alloc_last w _)
  have HBX := hidden hbx
  have HNE2 := hidden hne2
  have HW2 := hidden (And.intro hw2 hl2)
  have hBx : B ≤ x.heap.size := Nat.le_trans hB hbx.size
  have HBXS := hidden hBx
  have HO2 : Hid (OwnB x B (.slice va vn vc) val) := hidden (ho2.on (Nat.le_refl _) hbx)
  have C1 : Hid (∀ u, Below x.heap.size x u → Calls Tryd.prog 54 #[.pointer (some ⟨bk, 0, none⟩), .slice ka kn kc] u fun e w' => e = .returned (.tuple #[]) ∧ ∃ v' D', Hid (Bo9 w' B bk lv v' (V ++ [.slice ka kn kc]) D') ∧ Hid (Cf (B ≤ ·) x w') ∧ Hid (KT x w')) := hidden (by
    intro u hu
    have hb2 := bl_go hbx (Nat.le_refl _) hu
    refine (take9K u B bk lv v V D ka kn kc key (h.on hb2) (by omega) (Nat.le_trans hB hb2.size) hbk (ho.on (Nat.le_refl _) hb2) hw hl hne).mono ?_
    rintro e w' ⟨rfl, v', D', g1, g2, g3⟩
    exact ⟨rfl, v', D', g1, hidden ((Cf.of_below hu).go g2.out), hidden ((KT.of_below hu).trans g3.out)⟩)
  obtain ⟨c0, c1, c2, c3, c4⟩ := HBOX.out.cells
  have HN1 : Hid ((V ++ [Value.slice ka kn kc]).length ≤ 1000000) := hidden (by rw [List.length_append]; exact hn)
  clear h ho hw hl ho2 hw2 hl2 hne hne2 hbx hn
  go_enter Tryd.func29, Tryd.ntmps29
  go_wp2_with fail
  clear hx hs
  go_region_with (first | (go_at_call 54; refine (C1.out _ (by first | exact Below.refl _ _ | exact (Below.refl _ _).drew | exact bl_dr (Below.refl _ _) _)).mono ?_; rintro e w1 ⟨rfl, v1, D1', HB1, HC1, HK1⟩))
  all_goals
    have HBOX1 : Hid (C5 w1 s (.slice ka kn kc) (.int .i64 kd) (.slice va vn vc) (.int .i64 pg) (.int .i64 ct)) := hidden ((HK1.out.2 s _ _ _ HBOX.out c_ne6 c_neX).trans HBOX.out)
    have HO3 : Hid (OwnB w1 B (.slice va vn vc) val) := hidden (OwnB.kt HO2.out HK1.out)
    have C2 : Hid (∀ u, Below w1.heap.size w1 u → Calls Tryd.prog 54 #[.pointer (some ⟨bk, 0, none⟩), .slice va vn vc] u fun e w' => e = .returned (.tuple #[]) ∧ ∃ v' D', Hid (Bo9 w' B bk lv v' (V ++ [.slice ka kn kc] ++ [.slice va vn vc]) D') ∧ Hid (Cf (B ≤ ·) w w') ∧ Hid (KT w w')) := hidden (by
      intro u hu
      refine (take9K u B bk lv _ _ _ va vn vc val (HB1.out.on hu) HN1.out (Nat.le_trans (Nat.le_trans HBXS.out HC1.out.size) hu.size) hbk (HO3.out.on (Nat.le_refl _) hu) HW2.out.1 HW2.out.2 HNE2.out).mono ?_
      rintro e w' ⟨rfl, v', D', g1, g2, g3⟩
      exact ⟨rfl, v', D', g1, hidden (((Cf.of_below HBX.out).go HC1.out).go ((Cf.of_below hu).go g2.out)), hidden (((KT.of_below HBX.out).trans HK1.out).trans ((KT.of_below hu).trans g3.out))⟩)
    clear c0 c1 c2 c3 c4
    obtain ⟨c0, c1, c2, c3, c4⟩ := HBOX1.out.cells
    go_wp2_with fail
    go_region_with (first | (go_at_call 54; refine (C2.out _ (by first | exact Below.refl _ _ | exact (Below.refl _ _).drew | exact bl_dr (Below.refl _ _) _)).mono ?_; rintro e w2 ⟨rfl, v2, D2', HB2, HC2, HK2⟩))
    all_goals
      go_wp2
      go_end0
      exact ⟨rfl, v2, D2', HB2, HC2, HK2⟩
end Six
end Go.Proofs.YtdmpbdppdcaabaaDoor
