/- The walk of TupleEncodes. -/
import Derived.Test.YtfdiflfjefhjfaaGreatDoorTuE
import Derived.Test.YtfdiflfjefhjfaaGreatDoorJb
import Derived.Test.YtfdiflfjefhjfaaGreatDoorKeptI2
import Derived.Test.YtfdiflfjefhjfaaGreatDoorWeigh2
import Derived.Test.YtfdiflfjefhjfaaGreatDoorAwake
import Derived.Deep.QuietTactic
namespace Go.Proofs.YtfdiflfjefhjfaaGreatDoor
open Go.RowKit
open Ow

set_option maxRecDepth 100000 in
theorem Outs.below {b hi B : Nat} {w w' : World} (h : Outs b hi w w') (h1 : B ≤ b) (h2 : B ≤ w.heap.size) : Below B w w' := ⟨h.os, h.tape, h.output, h.size, fun k hk => h.block k (by omega) (by omega)⟩
set_option maxRecDepth 100000 in
theorem SlI.apart {w w' : World} {ao : Option Addr} {n c : Nat} {l : Its} (h : SlI w Tp ao n c l) (hb : Below w.heap.size w w') {b hi : Nat} (h1 : w.heap.size ≤ b) : SlI w' (fun k => k < b ∨ hi ≤ k) ao n c l :=
  ((h.low (Nat.le_refl _)).onB hb).mono (Nat.le_refl _) (fun _ _ _ => rfl) (fun _ hk _ => .inl (Nat.lt_of_lt_of_le hk h1))
set_option maxRecDepth 100000 in
theorem LentS.bel {w w' : World} {l : Its} {b hi : Nat} (h : LentS w l b hi) (hh : hi ≤ w.heap.size) (hb : Below w.heap.size w w') : LentS w' l b hi := h.keep fun k _ h2 => hb.block k (by omega)
set_option maxRecDepth 100000 in
/-- What is one's own beyond what was lent stays. -/
theorem row_outs {w w' : World} {B b hi s n : Nat} {e : TypeId} {v : Value} {xs : List Value} (h : w.ownsRow B e s v n xs) (ho : Outs b hi w w') (hB : hi ≤ B) : w'.ownsRow B e s v n xs := by
  refine ⟨h.1, ?_⟩
  rcases h.2 with h0 | ⟨g, cap, cur, e1, hg, hh, rest⟩
  · exact .inl h0
  · exact .inr ⟨g, cap, cur, e1, hg, (ho.block g (Ow.lt_some hh) (.inr (by omega))).trans hh, rest⟩
set_option maxRecDepth 100000 in
theorem own_len {w : World} {B n : Nat} {ao : Option Addr} {c : Nat} {l : List Int} (h : OwnB w B (.slice ao n c) l) : n = l.length := by
  rcases h.2 with ⟨e, h0⟩ | ⟨g, cap, cur, e, _⟩
  · injection e with _ e2 _
    omega
  · injection e with _ e2 _
set_option maxRecDepth 100000 in
theorem own_sl2 {w : World} {B n : Nat} {ao : Option Addr} {c : Nat} {l : List Int} (h : OwnB w B (.slice ao n c) l) (hw : Wf l) (hl : l.length ≤ 65536) : Sl w ao n c l := by
  obtain ⟨xo, xc, e, hs, _⟩ := h.sl hw (by omega)
  injection e with e1 e2 e3
  subst e1
  subst e2
  subst e3
  exact hs
/-- What was got so far: slice t has the bytes r t. -/
structure En (w : World) (B : Nat) (gv : Value) (GL : List Value) (r : Nat → List Int) : Prop where
  row : OwnY w B gv GL
  own : ∀ (t : Nat) (u : Value), GL[t]? = some u → OwnB w B u (r t)
  ne : ∀ (t t' : Nat) (u u' : Value), GL[t]? = some u → GL[t']? = some u' → t ≠ t' → u.ownBlock = none ∨ u.ownBlock ≠ u'.ownBlock
set_option maxRecDepth 100000 in
theorem En.on {w w' : World} {B : Nat} {gv : Value} {GL : List Value} {r : Nat → List Int} (h : En w B gv GL r) (hb : Below w.heap.size w w') : En w' B gv GL r :=
  ⟨h.row.on hb, fun t u ht => (h.own t u ht).on (Nat.le_refl _) hb, h.ne⟩
set_option maxRecDepth 100000 in
theorem own_kept {w w' : World} {B : Nat} {gv u : Value} {GL : List Value} {l : List Int} {row : Option Nat} (h : OwnY w B gv GL) (hrow : row = gv.ownBlock) (hu : OwnB w B u l) (hg : w.grownBy w' row) : OwnB w' B u l := by
  refine World.ownsRow.kept hu hg ?_
  rcases hu.2 with ⟨rfl, _⟩ | ⟨g, cap, cur, rfl, _, hh, _⟩
  · exact .inl rfl
  · right
    rw [hrow]
    exact fun e => h.noty hh c_neY e.symm
set_option maxRecDepth 100000 in
theorem En.app {w w' : World} {B N : Nat} {gv gv' v : Value} {GL : List Value} {r : Nat → List Int} (h : En w B gv GL r) (hl : GL.length = N) (hv : OwnB w B v (r N)) (hne : ∀ (t : Nat) (u : Value), GL[t]? = some u → u.ownBlock = none ∨ u.ownBlock ≠ v.ownBlock) (hY : OwnY w' B gv' (GL ++ [v])) (hg : Gr w gv w' gv') : En w' B gv' (GL ++ [v]) r := by
  subst hl
  refine ⟨hY, fun t u ht => ?_, fun t t' u u' ht ht' hn => ?_⟩
  · by_cases e : t < GL.length
    · rw [List.getElem?_append_left e] at ht
      exact own_kept h.row rfl (h.own t u ht) hg.grow
    · have hlt := (List.getElem?_eq_some_iff.1 ht).1
      rw [List.length_append] at hlt
      simp only [List.length_cons, List.length_nil] at hlt
      obtain rfl : t = GL.length := by omega
      rw [List.getElem?_concat_length] at ht
      cases ht
      exact own_kept h.row rfl hv hg.grow
  · have l1 := (List.getElem?_eq_some_iff.1 ht).1
    have l2 := (List.getElem?_eq_some_iff.1 ht').1
    rw [List.length_append] at l1 l2
    simp only [List.length_cons, List.length_nil] at l1 l2
    by_cases e : t < GL.length
    · rw [List.getElem?_append_left e] at ht
      by_cases e' : t' < GL.length
      · rw [List.getElem?_append_left e'] at ht'
        exact h.ne t t' u u' ht ht' hn
      · obtain rfl : t' = GL.length := by omega
        rw [List.getElem?_concat_length] at ht'
        cases ht'
        exact hne t u ht
    · obtain rfl : t = GL.length := by omega
      rw [List.getElem?_concat_length] at ht
      cases ht
      have e' : t' < GL.length := by omega
      rw [List.getElem?_append_left e'] at ht'
      rcases hne t' u' ht' with e2 | e2
      · rw [e2]
        cases v.ownBlock with
        | none => exact .inl rfl
        | some _ => exact .inr (by simp)
      · exact .inr fun e3 => e2 e3.symm
set_option maxRecDepth 100000 in
theorem own_new {w u : World} {B : Nat} {v x : Value} {l m : List Int} (h : OwnB w B v l) (k : OwnB u w.heap.size x m) : v.ownBlock = none ∨ v.ownBlock ≠ x.ownBlock := by
  cases hv : v.ownBlock with
  | none => exact .inl rfl
  | some a =>
    right
    intro e
    have h1 := World.ownsRow.lt (show w.ownsRow B 5 1 _ _ _ from h) a hv
    have h2 := World.ownsRow.lt (show u.ownsRow w.heap.size 5 1 _ _ _ from k) a e.symm
    omega
/-- One round: Check and Encode of both sides answer alike. -/
def rs (a b : Its) (t : Nat) : List Int := if t = 1 then (encR Vl b).1 else (encR Vl a).1
set_option maxRecDepth 100000 in
theorem rs_wf (a b : Its) (ha : a.Ok) (hb : b.Ok) (t : Nat) : Wf (rs a b t) ∧ (rs a b t).length ≤ 65536 := by
  unfold rs
  split
  · exact enc_wf Vl b hb
  · exact enc_wf Vl a ha
set_option maxHeartbeats 16000000 in
set_option maxRecDepth 100000 in
theorem walk_TupleEncodes (w : World) (hT : Tb w) (ao : Option Addr) (n c : Nat) (a : Its) (bo : Option Addr) (m d : Nat) (b : Its) (ha : SlI w Tp ao n c a) (hb : SlI w Tp bo m d b) :
    Calls Tryz.prog 3 #[.slice ao n c, .slice bo m d] w fun e w' => e = .returned (.bool true) ∧ Below w.heap.size w w' := by
  have hla := ha.hlen
  have hra := ha.hroom
  have HA := hidden ha
  have HB := hidden hb
  have HTB := hidden hT
  have HLA := hidden hla
  have HON := hidden (And.intro ha.ok hb.ok)
  clear ha hb hT hla
  go_enter Tryz.func3, Tryz.ntmps3
  go_wp2_with fail
  refine (awake_any w).mono ?_
  rintro e w1 ⟨rfl, hb1⟩
  have H1 := hidden hb1
  clear hb1
  go_wp2_with fail
  refine (great_any a ao n c w1 (HA.out.on (Nat.le_refl _) H1.out)).mono ?_
  rintro e w2 ⟨rfl, q2, hw2⟩
  have H2 : Hid (Below w.heap.size w w2) := (by rw [hw2]; exact hidden (below_draws H1.out _))
  clear hw2 H1
  go_wp2_with fail
  refine (great_any b bo m d w2 (HB.out.on (Nat.le_refl _) H2.out)).mono ?_
  rintro e w3 ⟨rfl, q3, hw3⟩
  have H3 : Hid (Below w.heap.size w w3) := (by rw [hw3]; exact hidden (below_draws H2.out _))
  clear hw3 H2
  by_cases ga : 100000 < wgh a 0
  · have ga' : decide (100000 < wgh a 0) = true := by simp [ga]
    rw [ga']
    clear ga ga'
    go_wp2_with fail
    go_ret
    exact ⟨rfl, H3.out⟩
  by_cases gb : 100000 < wgh b 0
  · have ga' : decide (100000 < wgh a 0) = false := by simp; omega
    have gb' : decide (100000 < wgh b 0) = true := by simp [gb]
    rw [ga', gb']
    clear ga ga' gb gb'
    go_wp2_with fail
    go_ret
    exact ⟨rfl, H3.out⟩
  have ga' : decide (100000 < wgh a 0) = false := by simp; omega
  have gb' : decide (100000 < wgh b 0) = false := by simp; omega
  have hsa : a.sz ≤ 100000 := by have := wgh_sz a 0 (by omega) (by omega); omega
  have hsb : b.sz ≤ 100000 := by have := wgh_sz b 0 (by omega) (by omega); omega
  have HWG : Hid (wgh a 0 ≤ 100000 ∧ wgh b 0 ≤ 100000) := hidden (by omega)
  rw [ga', gb']
  clear ga ga' gb gb'
  have HSz := hidden (And.intro hsa hsb)
  clear hsa hsb
  go_wp2_with fail
  refine (lent_any a ao n c w3 (HA.out.on (Nat.le_refl _) H3.out) HSz.out.1).mono ?_
  rintro e w4 ⟨rfl, hl4, hb4⟩
  have hg2 : w.heap.size ≤ w3.heap.size := H3.out.size
  have hg4 : w3.heap.size ≤ w4.heap.size := hb4.size
  have HX := hidden hl4
  have H4 : Hid (Below w.heap.size w w4) := hidden (H3.out.trans (hb4.mono hg2))
  clear hl4 hb4 H3
  generalize hx : w3.heap.size = X at *
  clear hx w3
  obtain ⟨A, hA⟩ : ∃ A, w4.heap.size = A := ⟨_, rfl⟩
  rw [hA] at HX hg4
  obtain ⟨x4, hx4⟩ : ∃ x, w4.alloc (.cells #[.slice ao n c, .slice bo m d, .slice ao n c, .slice ao n c] 22) = x := ⟨_, rfl⟩
  have hbx : Below w4.heap.size w4 x4 := by rw [← hx4]; exact (Below.refl _ _).alloc (Nat.le_refl _) _
  have HX4 : Hid (LentS x4 a X A) := hidden (HX.out.bel (by omega) hbx)
  have H4x : Hid (Below w.heap.size w x4) := hidden (H4.out.trans (hbx.mono H4.out.size))
  have HCA : Hid (x4.heap[A]? = some (.cells #[.slice ao n c, .slice bo m d, .slice ao n c, .slice ao n c] 22 (0, 0))) := hidden (by rw [← hx4, ← hA]; exact heap_alloc_last w4 _)
  obtain ⟨B, hBB⟩ : ∃ B, x4.heap.size = B := ⟨_, rfl⟩
  have hAB : A < B := by rw [← hBB, ← hx4, ← hA]; simp
  have HXW : Hid (w.heap.size ≤ B) := hidden (by rw [← hBB]; exact H4x.out.size)
  have HBx : Hid (B = x4.heap.size) := hidden hBB.symm
  have SX : Hid (∀ u, Below B x4 u → SlI u Tp (some ⟨X, 0, none⟩) n (n + 2) a) := hidden (by
    intro u hu
    have := (HX4.out.sl (by omega) HON.out.1 (by have := HLA.out; omega)).on (by omega) hu
    rwa [HLA.out] at this)
  clear hbx HX hBB
  go_wp2_with fail
  try rw [hx4]
  try rw [hA]
  clear hx4 hA
  go_loopw [10, 11] (fun gv ix wr => ∃ (i : Nat) (GL : List Value), i ≤ 4 ∧ ix = .int .i64 (i : Int) ∧ Hid (En wr B gv GL (rs a b)) ∧ Hid (GL.length = i) ∧ Hid (Below B x4 wr)) (fun _ ix _ => 4 - (intOf ix).toNat)
  case atStart => exact ⟨0, [], by omega, rfl, hidden ⟨OwnY.nil _ _, fun t u ht => by simp at ht, fun t t' u u' ht => by simp at ht⟩, hidden rfl, hidden (Below.refl _ _)⟩
  case round =>
    obtain ⟨i, GL, hi, rfl, HN, HGl, HBr⟩ := hrel
    have iI : (i : Int) ≤ 4 := by omega
    have HBs : Hid (B ≤ wr.heap.size) := hidden (by rw [HBx.out]; exact HBr.out.size)
    have HBw : Hid (Below w.heap.size w wr) := hidden (H4x.out.trans (HBr.out.mono HXW.out))
    have hAw : A < wr.heap.size := Nat.lt_of_lt_of_le hAB HBs.out
    have HAr : Hid (wr.heap[A]? = some (.cells #[.slice ao n c, .slice bo m d, .slice ao n c, .slice ao n c] 22 (0, 0))) := hidden ((HBr.out.block A hAB).trans HCA.out)
    by_cases hlt : i < 4
    · have hltI : (i : Int) < 4 := by omega
      by_cases h1 : i = 1
      · have cA : wr.cell? ⟨A, i, none⟩ = some (.slice bo m d) := by rw [cell_of_row _ _ _ _ _ _ HAr.out, h1]; rfl
        have hib : ((i : Int) == 1) = true := by rw [beq_iff_eq]; omega
        have HI1 := hidden h1
        clear h1
        have HCK := hidden (check_any Tb Vl (fun _ _ h hb => h.on hb) b bo m d wr (HTB.out.on HBw.out) (HB.out.on (Nat.le_refl _) HBw.out) (tx_all b HON.out.2))
        have HEC := hidden (fun (u : World) (hu : Below wr.heap.size wr u) => encode_any Tb Vl (fun _ _ h hb => h.on hb) b bo m d u (HTB.out.on (HBw.out.trans (hu.mono HBw.out.size))) ((HB.out.on (Nat.le_refl _) HBw.out).on (Nat.le_refl _) hu) (tx_all b HON.out.2) (by have := HSz.out.2; omega))
        have HRC := hidden (fun (u : World) (hu : Below wr.heap.size wr u) => refCheck_any b bo m d u ((HB.out.on (Nat.le_refl _) HBw.out).on (Nat.le_refl _) hu))
        have HRE := hidden (fun (u : World) (hu : Below wr.heap.size wr u) => refEncode_any b bo m d u ((HB.out.on (Nat.le_refl _) HBw.out).on (Nat.le_refl _) hu) HWG.out.2)
        have HWE := hidden (enc_wf Vl b HON.out.2)
        obtain ⟨ck, hck⟩ : ∃ z, chk Vl b 0 = z := ⟨_, rfl⟩
        obtain ⟨E, hE⟩ : ∃ z, (encR Vl b).1 = z := ⟨_, rfl⟩
        obtain ⟨ec, hec⟩ : ∃ z, (encR Vl b).2 = z := ⟨_, rfl⟩
        rw [hck] at HCK HRC
        rw [hE] at HEC HRE HWE
        rw [hec] at HEC HRE
        have HRS : Hid (rs a b i = E) := hidden (by rw [← hE]; unfold rs; rw [if_pos HI1.out])
        clear hck hE hec
        go_wp2_with (first | (go_at_call 8; refine HCK.out.mono ?_; rintro e1 u1 ⟨rfl, hb1⟩; refine Hid.out ?_))
        apply hidden
        have HU1 : Hid (Below wr.heap.size wr u1) := hidden hb1
        have HE1 := hidden (HEC.out u1 hb1)
        clear HCK HEC hb1
        go_wp2_with (first | (go_at_call 9; refine HE1.out.mono ?_; rintro e1 u2 ⟨v2, rfl, ho2, hb2⟩; refine Hid.out ?_))
        apply hidden
        have HU2 : Hid (Below wr.heap.size wr u2) := hidden (HU1.out.trans (hb2.mono HU1.out.size))
        obtain ⟨xo, xc, rfl, _, _⟩ := ho2.sl HWE.out.1 (by have := HWE.out.2; omega)
        have HO2 : Hid (OwnB u2 u1.heap.size (.slice xo E.length xc) E) := hidden ho2
        obtain ⟨en, hen⟩ : ∃ en, E.length = en := ⟨_, rfl⟩
        rw [hen] at HO2 ⊢
        have HC1 := hidden (HRC.out u2 HU2.out)
        have dA := (HU2.out.cell (p := ⟨A, i, none⟩) hAw).trans cA
        clear HE1 HRC ho2 hb2 hen
        go_wp2_with (first | (go_at_call 10; refine HC1.out.mono ?_; rintro e1 u3 ⟨rfl, hb3⟩; refine Hid.out ?_))
        apply hidden
        have HU3 : Hid (Below wr.heap.size wr u3) := hidden (HU2.out.trans (hb3.mono HU2.out.size))
        have HO3 : Hid (OwnB u3 u1.heap.size (.slice xo en xc) E) := hidden (HO2.out.on (Nat.le_refl _) hb3)
        have HR1 := hidden (HRE.out u3 HU3.out)
        have eA := (HU3.out.cell (p := ⟨A, i, none⟩) hAw).trans cA
        clear HC1 HRE hb3 HO2 HU2 dA
        go_wp2_with (first | (go_at_call 11; refine HR1.out.mono ?_; rintro e1 u4 ⟨v4, rfl, HW4, HB4⟩; refine Hid.out ?_))
        apply hidden
        obtain ⟨wo, wc4, rfl, _, _⟩ := HW4.out.sl HWE.out.1 (by have := HWE.out.2; omega)
        have HU4 : Hid (Below wr.heap.size wr u4) := hidden (HU3.out.trans (HB4.out.mono HU3.out.size))
        have HO4 : Hid (OwnB u4 u1.heap.size (.slice xo en xc) E) := hidden (HO3.out.on (Nat.le_refl _) HB4.out)
        have k1 := conv_st (own_sl2 HO4.out HWE.out.1 HWE.out.2)
        have k2 := conv_st (own_sl2 HW4.out HWE.out.1 HWE.out.2)
        obtain ⟨sE, hsE⟩ : ∃ z, strOfNums E = z := ⟨_, rfl⟩
        rw [hsE] at k1 k2
        have q1 : (ck != ck) = false := by simp
        have q2 : (ec != ec) = false := by simp
        have q3 : (sE.toList != sE.toList) = false := by simp
        obtain ⟨y, hy⟩ : ∃ y, u4.alloc (.cells #[.slice xo en xc] 30) = y := ⟨_, rfl⟩
        have hby : Below u4.heap.size u4 y := by rw [← hy]; exact (Below.refl _ _).alloc (Nat.le_refl _) _
        have hcy : y.cell? ⟨u4.heap.size, 0, none⟩ = some (.slice xo en xc) := by rw [← hy]; simp
        have HUY : Hid (Below wr.heap.size wr y) := hidden (HU4.out.trans (hby.mono HU4.out.size))
        have HNY := hidden (HN.out.on HUY.out)
        have hBy : B ≤ y.heap.size := Nat.le_trans HBs.out HUY.out.size
        have HOY : Hid (OwnB y B (.slice xo en xc) (rs a b i)) := hidden (by
          rw [HRS.out]
          exact (HO4.out.base (Nat.le_trans HBs.out HU1.out.size)).on (Nat.le_refl _) hby)
        have HNE : Hid (∀ (t : Nat) (u : Value), GL[t]? = some u → u.ownBlock = none ∨ u.ownBlock ≠ (Value.slice xo en xc).ownBlock) := hidden (fun t u ht => own_new ((HN.out.own t u ht).on (Nat.le_refl _) HU1.out) HO4.out)
        have hGl : GL.length + 1 ≤ 100000000 := by rw [HGl.out]; omega
        clear HO3 HO4 HW4 HB4 HU1 HU3 HR1 hby hsE cA eA HN
        go_wp2_with (at_builtin; refine Ow.app_y _ rfl _ _ rfl B GL _ (.slice xo en xc) rfl rfl HNY.out.row u4.heap.size rfl hcy hGl hBy ?_; refine Hid.out ?_)
        apply hidden
        intro gv2 w2 hG2 hgr2
        have HN2 : Hid (En w2 B gv2 (GL ++ [.slice xo en xc]) (rs a b)) := hidden (HNY.out.app HGl.out HOY.out HNE.out hG2 hgr2)
        have HB2 : Hid (Below B x4 w2) := hidden ((HBr.out.trans (HUY.out.mono HBs.out)).trans (Ow.below_grown hgr2.grow (fun z hz => by
          have hrG := HNY.out.row
          unfold OwnY at hrG
          exact (hrG.lt z hz).1) hBy))
        have HL2 : Hid ((GL ++ [Value.slice xo en xc]).length = i + 1) := hidden (by rw [List.length_append, HGl.out]; rfl)
        clear hG2 hgr2 hy hcy HNY HOY HNE k1 k2 q1 q2 q3 HUY HU4
        go_wp2
        go_roundw
        case rel => exact ⟨i + 1, _, by omega, by go_num, HN2, HL2, HB2⟩
        case measure => simp [intOf]; omega
      · have cA : wr.cell? ⟨A, i, none⟩ = some (.slice ao n c) := by
          rw [cell_of_row _ _ _ _ _ _ HAr.out]
          have : i = 0 ∨ i = 2 ∨ i = 3 := by omega
          rcases this with rfl | rfl | rfl <;> rfl
        have hib : ((i : Int) == 1) = false := by rw [beq_eq_false_iff_ne]; omega
        have hiI : ¬ (i : Int) = 1 := by omega
        have HI1 := hidden h1
        clear h1
        have HCK := hidden (check_any Tb Vl (fun _ _ h hb => h.on hb) a (some ⟨X, 0, none⟩) n (n + 2) wr (HTB.out.on HBw.out) (SX.out wr HBr.out) (tx_all a HON.out.1))
        have HEC := hidden (fun (u : World) (hu : Below wr.heap.size wr u) => encode_any Tb Vl (fun _ _ h hb => h.on hb) a (some ⟨X, 0, none⟩) n (n + 2) u (HTB.out.on (HBw.out.trans (hu.mono HBw.out.size))) ((SX.out wr HBr.out).on (Nat.le_refl _) hu) (tx_all a HON.out.1) (by have := HSz.out.1; omega))
        have HRC := hidden (fun (u : World) (hu : Below wr.heap.size wr u) => refCheck_any a ao n c u ((HA.out.on (Nat.le_refl _) HBw.out).on (Nat.le_refl _) hu))
        have HRE := hidden (fun (u : World) (hu : Below wr.heap.size wr u) => refEncode_any a ao n c u ((HA.out.on (Nat.le_refl _) HBw.out).on (Nat.le_refl _) hu) HWG.out.1)
        have HWE := hidden (enc_wf Vl a HON.out.1)
        obtain ⟨ck, hck⟩ : ∃ z, chk Vl a 0 = z := ⟨_, rfl⟩
        obtain ⟨E, hE⟩ : ∃ z, (encR Vl a).1 = z := ⟨_, rfl⟩
        obtain ⟨ec, hec⟩ : ∃ z, (encR Vl a).2 = z := ⟨_, rfl⟩
        rw [hck] at HCK HRC
        rw [hE] at HEC HRE HWE
        rw [hec] at HEC HRE
        have HRS : Hid (rs a b i = E) := hidden (by rw [← hE]; unfold rs; rw [if_neg HI1.out])
        clear hck hE hec
        go_wp2_with (first | (go_at_call 8; refine HCK.out.mono ?_; rintro e1 u1 ⟨rfl, hb1⟩; refine Hid.out ?_))
        apply hidden
        have HU1 : Hid (Below wr.heap.size wr u1) := hidden hb1
        have HE1 := hidden (HEC.out u1 hb1)
        clear HCK HEC hb1
        go_wp2_with (first | (go_at_call 9; refine HE1.out.mono ?_; rintro e1 u2 ⟨v2, rfl, ho2, hb2⟩; refine Hid.out ?_))
        apply hidden
        have HU2 : Hid (Below wr.heap.size wr u2) := hidden (HU1.out.trans (hb2.mono HU1.out.size))
        obtain ⟨xo, xc, rfl, _, _⟩ := ho2.sl HWE.out.1 (by have := HWE.out.2; omega)
        have HO2 : Hid (OwnB u2 u1.heap.size (.slice xo E.length xc) E) := hidden ho2
        obtain ⟨en, hen⟩ : ∃ en, E.length = en := ⟨_, rfl⟩
        rw [hen] at HO2 ⊢
        have HC1 := hidden (HRC.out u2 HU2.out)
        have dA := (HU2.out.cell (p := ⟨A, i, none⟩) hAw).trans cA
        clear HE1 HRC ho2 hb2 hen
        go_wp2_with (first | (go_at_call 10; refine HC1.out.mono ?_; rintro e1 u3 ⟨rfl, hb3⟩; refine Hid.out ?_))
        apply hidden
        have HU3 : Hid (Below wr.heap.size wr u3) := hidden (HU2.out.trans (hb3.mono HU2.out.size))
        have HO3 : Hid (OwnB u3 u1.heap.size (.slice xo en xc) E) := hidden (HO2.out.on (Nat.le_refl _) hb3)
        have HR1 := hidden (HRE.out u3 HU3.out)
        have eA := (HU3.out.cell (p := ⟨A, i, none⟩) hAw).trans cA
        clear HC1 HRE hb3 HO2 HU2 dA
        go_wp2_with (first | (go_at_call 11; refine HR1.out.mono ?_; rintro e1 u4 ⟨v4, rfl, HW4, HB4⟩; refine Hid.out ?_))
        apply hidden
        obtain ⟨wo, wc4, rfl, _, _⟩ := HW4.out.sl HWE.out.1 (by have := HWE.out.2; omega)
        have HU4 : Hid (Below wr.heap.size wr u4) := hidden (HU3.out.trans (HB4.out.mono HU3.out.size))
        have HO4 : Hid (OwnB u4 u1.heap.size (.slice xo en xc) E) := hidden (HO3.out.on (Nat.le_refl _) HB4.out)
        have k1 := conv_st (own_sl2 HO4.out HWE.out.1 HWE.out.2)
        have k2 := conv_st (own_sl2 HW4.out HWE.out.1 HWE.out.2)
        obtain ⟨sE, hsE⟩ : ∃ z, strOfNums E = z := ⟨_, rfl⟩
        rw [hsE] at k1 k2
        have q1 : (ck != ck) = false := by simp
        have q2 : (ec != ec) = false := by simp
        have q3 : (sE.toList != sE.toList) = false := by simp
        obtain ⟨y, hy⟩ : ∃ y, u4.alloc (.cells #[.slice xo en xc] 30) = y := ⟨_, rfl⟩
        have hby : Below u4.heap.size u4 y := by rw [← hy]; exact (Below.refl _ _).alloc (Nat.le_refl _) _
        have hcy : y.cell? ⟨u4.heap.size, 0, none⟩ = some (.slice xo en xc) := by rw [← hy]; simp
        have HUY : Hid (Below wr.heap.size wr y) := hidden (HU4.out.trans (hby.mono HU4.out.size))
        have HNY := hidden (HN.out.on HUY.out)
        have hBy : B ≤ y.heap.size := Nat.le_trans HBs.out HUY.out.size
        have HOY : Hid (OwnB y B (.slice xo en xc) (rs a b i)) := hidden (by
          rw [HRS.out]
          exact (HO4.out.base (Nat.le_trans HBs.out HU1.out.size)).on (Nat.le_refl _) hby)
        have HNE : Hid (∀ (t : Nat) (u : Value), GL[t]? = some u → u.ownBlock = none ∨ u.ownBlock ≠ (Value.slice xo en xc).ownBlock) := hidden (fun t u ht => own_new ((HN.out.own t u ht).on (Nat.le_refl _) HU1.out) HO4.out)
        have hGl : GL.length + 1 ≤ 100000000 := by rw [HGl.out]; omega
        clear HO3 HO4 HW4 HB4 HU1 HU3 HR1 hby hsE cA eA HN
        go_wp2_with (at_builtin; refine Ow.app_y _ rfl _ _ rfl B GL _ (.slice xo en xc) rfl rfl HNY.out.row u4.heap.size rfl hcy hGl hBy ?_; refine Hid.out ?_)
        apply hidden
        intro gv2 w2 hG2 hgr2
        have HN2 : Hid (En w2 B gv2 (GL ++ [.slice xo en xc]) (rs a b)) := hidden (HNY.out.app HGl.out HOY.out HNE.out hG2 hgr2)
        have HB2 : Hid (Below B x4 w2) := hidden ((HBr.out.trans (HUY.out.mono HBs.out)).trans (Ow.below_grown hgr2.grow (fun z hz => by
          have hrG := HNY.out.row
          unfold OwnY at hrG
          exact (hrG.lt z hz).1) hBy))
        have HL2 : Hid ((GL ++ [Value.slice xo en xc]).length = i + 1) := hidden (by rw [List.length_append, HGl.out]; rfl)
        clear hG2 hgr2 hy hcy HNY HOY HNE k1 k2 q1 q2 q3 HUY HU4
        go_wp2
        go_roundw
        case rel => exact ⟨i + 1, _, by omega, by go_num, HN2, HL2, HB2⟩
        case measure => simp [intOf]; omega
    · have hi4 : i = 4 := by omega
      have hlI : ¬ (i : Int) < 4 := by omega
      have HGl4 : Hid (GL.length = 4) := hidden (by rw [HGl.out]; exact hi4)
      have HLr : Hid (LentS wr a X A) := hidden (HX4.out.keep fun k _ h2 => HBr.out.block k (by omega))
      have HKP := hidden (kept_any a X A ao n c wr HLr.out (by omega) (HA.out.apart HBw.out hg2) HSz.out.1)
      clear hi4 hlt hi
      go_wp2_with (first | (go_at_call 12; refine HKP.out.mono ?_; rintro e w7 ⟨rfl, ho7⟩; refine Hid.out ?_))
      apply hidden
      have HN7 : Hid (En w7 B _ GL (rs a b)) := hidden ⟨row_outs HN.out.row ho7 (by omega), fun t u ht => row_outs (HN.out.own t u ht) ho7 (by omega), HN.out.ne⟩
      have HB7 : Hid (Below w.heap.size w w7) := hidden (HBw.out.trans (ho7.below hg2 HBw.out.size))
      have HA7 : Hid (w7.heap[A]? = some (.cells #[.slice ao n c, .slice bo m d, .slice ao n c, .slice ao n c] 22 (0, 0))) := hidden ((ho7.block A hAw (.inr (Nat.le_refl _))).trans HAr.out)
      have HS7 : Hid (B ≤ w7.heap.size) := hidden (Nat.le_trans HBs.out ho7.size)
      obtain ⟨go, gc, rfl, _⟩ := HN.out.row.cells
      rw [HGl4.out] at HN7 ⊢
      clear HKP ho7 HN HGl HBr HBs HBw HAr HLr HCA HX4 SX H4x H4
      go_wp2_with fail
      go_loopw [20] (fun ix wr => ∃ s : Nat, s ≤ 4 ∧ ix = .int .i64 (s : Int) ∧ Hid (En wr B (.slice go 4 gc) GL (rs a b)) ∧ Hid (Below w.heap.size w wr) ∧ Hid (wr.heap[A]? = some (.cells #[.slice ao n c, .slice bo m d, .slice ao n c, .slice ao n c] 22 (0, 0))) ∧ Hid (B ≤ wr.heap.size)) (fun ix _ => 4 - (intOf ix).toNat)
      case atStart => exact ⟨0, by omega, rfl, HN7, HB7, HA7, HS7⟩
      case round =>
        obtain ⟨s, hs, rfl, HN2, HBw2, HA2, HBs2⟩ := hrel
        have sI : (s : Int) ≤ 4 := by omega
        clear HN7 HB7 HA7 HS7
        by_cases hlt : s < 4
        · have hltI : (s : Int) < 4 := by omega
          by_cases h1 : s = 1
          · have cA : wr.cell? ⟨A, s, none⟩ = some (.slice bo m d) := by rw [cell_of_row _ _ _ _ _ _ HA2.out, h1]; rfl
            have HI1 := hidden h1
            clear h1
            have HRE := hidden (refEncode_any b bo m d wr (HB.out.on (Nat.le_refl _) HBw2.out) HWG.out.2)
            have HWE := hidden (enc_wf Vl b HON.out.2)
            obtain ⟨E, hE⟩ : ∃ z, (encR Vl b).1 = z := ⟨_, rfl⟩
            obtain ⟨ec, hec⟩ : ∃ z, (encR Vl b).2 = z := ⟨_, rfl⟩
            rw [hE] at HRE HWE
            rw [hec] at HRE
            have HRS : Hid (rs a b s = E) := hidden (by rw [← hE]; unfold rs; rw [if_pos HI1.out])
            clear hE hec
            go_wp2_with (first | (go_at_call 11; refine HRE.out.mono ?_; rintro e1 u4 ⟨v4, rfl, HW4, HB4⟩; refine Hid.out ?_))
            apply hidden
            obtain ⟨wo, wc4, rfl, _, _⟩ := HW4.out.sl HWE.out.1 (by have := HWE.out.2; omega)
            have HN4 := hidden (HN2.out.on HB4.out)
            have HB5 : Hid (Below w.heap.size w u4) := hidden (HBw2.out.trans (HB4.out.mono HBw2.out.size))
            have HA4 : Hid (u4.heap[A]? = some (.cells #[.slice ao n c, .slice bo m d, .slice ao n c, .slice ao n c] 22 (0, 0))) := hidden ((HB4.out.block A (Ow.lt_some HA2.out)).trans HA2.out)
            have HS4 : Hid (B ≤ u4.heap.size) := hidden (Nat.le_trans HBs2.out HB4.out.size)
            obtain ⟨u, hu⟩ := Ow.cell_at HGl4.out hlt
            have hou := HN4.out.own s u hu
            rw [HRS.out] at hou
            obtain ⟨uo, uc, rfl, husl, _⟩ := hou.sl HWE.out.1 (by have := HWE.out.2; omega)
            obtain ⟨G, rfl, cG⟩ : ∃ G, go = some ⟨G, 0, none⟩ ∧ u4.cell? ⟨G, s, none⟩ = some (.slice uo E.length uc) := by
              obtain ⟨ao', c', e, hc⟩ := HN4.out.row.cells
              injection e with e1 e2 _
              rcases hc with h0 | ⟨g, e3, _, hc⟩
              · have := HGl4.out
                omega
              · rw [← e1] at e3
                exact ⟨g, e3, hc s _ hu⟩
            have k1 := fun q => conv_st (husl.drewN q)
            have k2 := fun q => conv_st ((own_sl2 HW4.out HWE.out.1 HWE.out.2).drewN q)
            obtain ⟨sE, hsE⟩ : ∃ z, strOfNums E = z := ⟨_, rfl⟩
            rw [hsE] at k1 k2
            have q3 : (sE.toList != sE.toList) = false := by simp
            generalize E.length = en at *
            clear hu hou husl hsE HRE HW4 HB4 cA HRS HN2 HA2 HBw2 HBs2
            go_wp2_with fail
            go_quiet (fail)
            go_wp2
            go_roundw
            case rel => exact ⟨s + 1, by omega, by go_num, hidden (HN4.out.on (below_draws (Below.refl _ _) _)), hidden (below_draws HB5.out _), HA4, HS4⟩
            case measure => simp [intOf]; omega
          · have cA : wr.cell? ⟨A, s, none⟩ = some (.slice ao n c) := by
              rw [cell_of_row _ _ _ _ _ _ HA2.out]
              have : s = 0 ∨ s = 2 ∨ s = 3 := by omega
              rcases this with rfl | rfl | rfl <;> rfl
            have HI1 := hidden h1
            clear h1
            have HRE := hidden (refEncode_any a ao n c wr (HA.out.on (Nat.le_refl _) HBw2.out) HWG.out.1)
            have HWE := hidden (enc_wf Vl a HON.out.1)
            obtain ⟨E, hE⟩ : ∃ z, (encR Vl a).1 = z := ⟨_, rfl⟩
            obtain ⟨ec, hec⟩ : ∃ z, (encR Vl a).2 = z := ⟨_, rfl⟩
            rw [hE] at HRE HWE
            rw [hec] at HRE
            have HRS : Hid (rs a b s = E) := hidden (by rw [← hE]; unfold rs; rw [if_neg HI1.out])
            clear hE hec
            go_wp2_with (first | (go_at_call 11; refine HRE.out.mono ?_; rintro e1 u4 ⟨v4, rfl, HW4, HB4⟩; refine Hid.out ?_))
            apply hidden
            obtain ⟨wo, wc4, rfl, _, _⟩ := HW4.out.sl HWE.out.1 (by have := HWE.out.2; omega)
            have HN4 := hidden (HN2.out.on HB4.out)
            have HB5 : Hid (Below w.heap.size w u4) := hidden (HBw2.out.trans (HB4.out.mono HBw2.out.size))
            have HA4 : Hid (u4.heap[A]? = some (.cells #[.slice ao n c, .slice bo m d, .slice ao n c, .slice ao n c] 22 (0, 0))) := hidden ((HB4.out.block A (Ow.lt_some HA2.out)).trans HA2.out)
            have HS4 : Hid (B ≤ u4.heap.size) := hidden (Nat.le_trans HBs2.out HB4.out.size)
            obtain ⟨u, hu⟩ := Ow.cell_at HGl4.out hlt
            have hou := HN4.out.own s u hu
            rw [HRS.out] at hou
            obtain ⟨uo, uc, rfl, husl, _⟩ := hou.sl HWE.out.1 (by have := HWE.out.2; omega)
            obtain ⟨G, rfl, cG⟩ : ∃ G, go = some ⟨G, 0, none⟩ ∧ u4.cell? ⟨G, s, none⟩ = some (.slice uo E.length uc) := by
              obtain ⟨ao', c', e, hc⟩ := HN4.out.row.cells
              injection e with e1 e2 _
              rcases hc with h0 | ⟨g, e3, _, hc⟩
              · have := HGl4.out
                omega
              · rw [← e1] at e3
                exact ⟨g, e3, hc s _ hu⟩
            have k1 := fun q => conv_st (husl.drewN q)
            have k2 := fun q => conv_st ((own_sl2 HW4.out HWE.out.1 HWE.out.2).drewN q)
            obtain ⟨sE, hsE⟩ : ∃ z, strOfNums E = z := ⟨_, rfl⟩
            rw [hsE] at k1 k2
            have q3 : (sE.toList != sE.toList) = false := by simp
            generalize E.length = en at *
            clear hu hou husl hsE HRE HW4 HB4 cA HRS HN2 HA2 HBw2 HBs2
            go_wp2_with fail
            go_quiet (fail)
            go_wp2
            go_roundw
            case rel => exact ⟨s + 1, by omega, by go_num, hidden (HN4.out.on (below_draws (Below.refl _ _) _)), hidden (below_draws HB5.out _), HA4, HS4⟩
            case measure => simp [intOf]; omega
        · have hsI : ¬ (s : Int) < 4 := by omega
          have HBY := hidden (bytes_any wr B 4 go gc GL (fun t => (rs a b t).length) HN2.out.row HGl4.out (by omega) (fun t u ht => ⟨_, HN2.out.own t u ht, fun x hx => by omega⟩) HN2.out.ne (fun t => by have := (rs_wf a b HON.out.1 HON.out.2 t).2; omega) HBs2.out)
          go_wp2_with (first | (go_at_call 13; refine HBY.out.mono ?_; rintro e w9 ⟨rfl, HB9⟩; refine Hid.out ?_))
          apply hidden
          have H10 : Hid (Below w.heap.size w w9) := hidden (HBw2.out.trans (HB9.out.mono HXW.out))
          clear HBY HB9
          go_wp2
          go_ret
          exact ⟨rfl, H10.out⟩
end Go.Proofs.YtfdiflfjefhjfaaGreatDoor
