/- The pair's play: Write. -/
import Derived.Test.YtikpfcapnpppdaaSo
import Derived.Test.YtikpfcapnpppdaaSm
import Derived.Test.YtikpfcapnpppdaaPm3
import Derived.Deep.CutRange
import Derived.Deep.DeepCutAuto
import Derived.Test.YtikpfcapnpppdaaRq
import Derived.Test.YtikpfcapnpppdaaJl
import Derived.Test.YtikpfcapnpppdaaRu
namespace Go.Proofs.Ytikpfcapnpppdaa
open Go.RowKit

/-- What is to be written is there. -/
structure Wr (w u : World) (B : Nat) (P : Nat → Prop) (x t : Nat) (its : List (Option Nat × List Int)) (d : D) (r : R) (pa ra : Nat) (F G M : Nat → Prop) (vC vW : Value) (n : Int) (gb oo c : Nat) (l : List Int) : Prop where
  ps : Ps u B P x t its d r pa ra F G M vC vW
  on : u.cell? ⟨w.heap.size, 2, none⟩ = some (.int .i64 n)
  ol : w.heap.size < u.heap.size
  op : ¬ P w.heap.size
  sl : Sl u (some ⟨gb, oo, none⟩) l.length c l
  gl : gb < u.heap.size
  gp : ¬ P gb
  ch : Ch P w u
set_option maxRecDepth 100000 in
set_option maxHeartbeats 4000000 in
theorem play_write (w : World) (B x t pa ra : Nat) (P F G M : Nat → Prop) (its : List (Option Nat × List Int)) (d : D) (r : R) (vC vW : Value) (h : Ps w B P x t its d r pa ra F G M vC vW) (ht : t < 1099511627776) (on n by_ : Int) (hby : 0 ≤ by_ ∧ by_ ≤ 255) (da ka : Option Addr) (dn dc kn kc : Nat) (tn ta : Int) (data : List Int) (hs : Sl w da dn dc data) (hdP : 0 < dn → ∀ g, da = some g → ¬ P g.block) (hPl : ∀ k, P k → k < w.heap.size) :
    Calls Try.prog 8 #[.pointer (some ⟨x, 0, none⟩), opV 2 on n by_ da dn dc ka kn kc tn ta] w fun e w' => e = .returned (.bool true) ∧ Pp w' B (Pg P w w') x (t + 1) ∧ Ch P w w' := by
  have hxl := lt_of_some h.pc.row
  have hxn : ¬ x = w.heap.size := by omega
  unfold opV
  have k1 : w.cell? ⟨x, 1, none⟩ = some (.pointer (some ⟨ra, 0, none⟩)) := cell_of_row h.pc.row
  have HH := hidden h
  have HS := hidden hs
  have HDP := hidden hdP
  have HPL := hidden hPl
  have hpg : r.page ≤ 65536 ∧ 512 ≤ r.page := by
    rw [h.tw.page]
    obtain ⟨_, _, _, _, _, hr⟩ := h.dv
    exact ⟨hr.p2, hr.p1⟩
  clear h hs hdP hPl
  go_enter Try.func8, Try.ntmps8
  go_upto_if 63 with fail
  go_cut [10] (fun v u => ∃ gb oo c l, v = .slice (some ⟨gb, oo, none⟩) l.length c ∧ Hid (l.length ≤ 140737488355328 ∧ 0 < l.length ∧ Wf l) ∧ Hid (Wr w u B P x t its d r pa ra F G M vC vW n gb oo c l))
  case first =>
    by_cases h0 : dn = 0
    · subst h0
      have HR : Hid (∀ o, Calls Try.prog 12 #[.pointer (some ⟨ra, 0, none⟩)] (w.alloc o).drew fun e w' => e = .returned (.int .i64 r.page) ∧ w' = (w.alloc o).drew) := hidden fun o => rPage_any _ G ra r (HH.out.box o).dr.rv
      have HPG : Hid (∀ o, Calls Try.prog 17 #[.int .i64 (r.page : Int), .int .u8 by_] (w.alloc o).drew fun e w' => ∃ g, e = .returned (.slice (some ⟨g, 0, none⟩) r.page r.page) ∧ (∀ v, (w.alloc o).cell? ⟨w.heap.size, 2, none⟩ = some (.int .i64 v) → ∃ l : List Int, l.length = r.page ∧ Wf l ∧ Hid (Wr w w' B P x t its d r pa ra F G M vC vW v g 0 r.page l))) := by
        refine hidden fun o => (page_any (w.alloc o).drew r.page by_ (by omega)).mono ?_
        rintro e w' ⟨rfl, hh, hb⟩
        have z : (w.alloc o).drew.heap.size = w.heap.size + 1 := Array.size_push ..
        refine ⟨_, rfl, fun v hv => ⟨List.replicate r.page by_, List.length_replicate .., replicate_wf _ _ hby, hidden ⟨(HH.out.box o).dr.ch (Ch.of_below (F := fun _ => False) hb) (fun _ _ h => h), (World.cell?_of_block (w := (w.alloc o).drew) (a := ⟨w.heap.size, 2, none⟩) (hb.block w.heap.size (by rw [z]; omega))).trans hv, by have := hb.size; rw [z] at this; omega, fun hk => by have := HPL.out _ hk; omega, ?_, lt_of_some hh, fun hk => by have := HPL.out _ hk; rw [z] at this; omega, ((Ch.alloc P w o).trans (Ch.dr P _) fun _ _ h => h).trans (Ch.of_below (F := P) hb) fun _ _ h => h⟩⟩⟩
        have := row_sl hh (List.length_replicate ..) (replicate_wf _ _ hby) (by omega)
        rw [List.length_replicate]
        exact this
      clear HH HS HDP
      go_wp2_with fail
      go_region_with (first
        | (go_at_call 12; refine (HR.out _).mono ?_; rintro e w' ⟨rfl, rfl⟩)
        | (go_at_call 17; refine (HPG.out _).mono ?_; rintro e w' ⟨g, rfl, hq⟩; have HQ := hidden (hq n (by simp)); clear hq))
      all_goals
        go_wp2
        go_meet
        case rel =>
          obtain ⟨l, l1, l2, HW⟩ := HQ.out
          exact ⟨g, 0, r.page, l, by rw [l1], hidden ⟨by omega, by omega, l2⟩, HW⟩
    · have h0' : ¬ (dn : Int) = 0 := by omega
      obtain ⟨b, off, e, hbl, hc⟩ := HS.out.hat.resolve_left h0
      subst e
      have HW : Hid (∀ o v, (w.alloc o).cell? ⟨w.heap.size, 2, none⟩ = some (.int .i64 v) → Wr w (w.alloc o) B P x t its d r pa ra F G M vC vW v b off dc data) := hidden fun o v hv => ⟨HH.out.box o, hv, by simp, fun hk => by have := HPL.out _ hk; omega, by rw [HS.out.hlen]; exact HS.out.on (Nat.le_refl _) ((Below.refl _ _).alloc (Nat.le_refl _) o), by simp; omega, HDP.out (by omega) _ rfl, Ch.alloc P w o⟩
      have hl := HS.out.hlen
      have HL : Hid (data.length = dn) := hidden hl
      have HL2 : Hid (data.length ≤ 140737488355328 ∧ 0 < data.length ∧ Wf data) := hidden ⟨by rw [hl]; exact HS.out.hroom, by omega, HS.out.wf⟩
      clear HH HS HDP hc hl
      go_wp2
      go_meet
      case rel => exact ⟨b, off, dc, data, by rw [HL.out], HL2, hidden (HW.out _ n (by simp))⟩
  case rest =>
    obtain ⟨gb, oo, c, l, rfl, HLL, HW⟩ := hcut
    clear HH HS HDP
    have W := HW.out
    have HN : Hid (∀ k, F k → ¬ k = gb ∧ ¬ k = w.heap.size) := hidden fun k hk => ⟨fun e => W.gp (e ▸ (W.ps.hF k hk).1), fun e => W.op (e ▸ (W.ps.hF k hk).1)⟩
    have HNG : Hid (∀ k, G k → ¬ k = gb ∧ ¬ k = w.heap.size) := hidden fun k hk => ⟨fun e => W.gp (e ▸ (W.ps.hG k hk).1), fun e => W.op (e ▸ (W.ps.hG k hk).1)⟩
    obtain ⟨ec, d', r', htw, m2, m3, m5, m4, m6, hS1, hS2⟩ := write_both F G pa ra t n l HLL.out.2.2 W.ps.tw (by omega) W.ps.n2 W.ps.n4 W.ps.n6
    have HM : Hid (d'.loose.length ≤ t + 1 ∧ (0 ≤ d'.cr ∧ d'.cr ≤ (t + 1 : Nat)) ∧ (0 ≤ d'.cw ∧ d'.cw ≤ (t + 1 : Nat)) ∧ (0 ≤ d'.cs ∧ d'.cs ≤ (t + 1 : Nat)) ∧ (d'.armed = true → 0 ≤ d'.left ∧ d'.left ≤ 9223372036854775807) ∧ its.length ≤ 2 * (t + 1)) := hidden (by
      have a1 := W.ps.n1
      have a3 := W.ps.n3
      have a4 := W.ps.n4
      have a5 := W.ps.n5
      refine ⟨by omega, ⟨by omega, by omega⟩, ⟨by omega, by omega⟩, ⟨by omega, by omega⟩, m6, by omega⟩)
    have HT := hidden htw
    have HS1 := hidden hS1
    have HS2 := hidden hS2
    have hLe := Lent_any (some ⟨gb, oo, none⟩) l.length c l wc W.sl
    clear htw m2 m3 m4 m5 m6 hS1 hS2 W k1
    go_wp2_with (go_at_call 27; refine hLe.mono ?_; rintro e u1 ⟨rfl, hr1, hb1⟩; refine Hid.out ?_)
    apply hidden
    clear hLe
    obtain ⟨lb, hlb⟩ : ∃ lb, lb = wc.heap.size := ⟨_, rfl⟩
    rw [← hlb] at hr1
    rw [← hlb]
    have W := HW.out
    have p1 : Ps u1 B P x t its d r pa ra F G M vC vW := W.ps.ch (Ch.of_below (F := fun _ => False) hb1) (fun _ _ h => h)
    have k0 : u1.cell? ⟨x, 0, none⟩ = some (.pointer (some ⟨pa, 0, none⟩)) := cell_of_row p1.pc.row
    have kn2 : u1.cell? ⟨w.heap.size, 2, none⟩ = some (.int .i64 n) := (World.cell?_of_block (w := wc) (a := ⟨w.heap.size, 2, none⟩) (hb1.block _ W.ol)).trans W.on
    have hFl : ∀ k, F k → k < u1.heap.size := fun k hk => (p1.hF k hk).2
    have sl1 : Sl u1 (some ⟨lb, 0, none⟩) l.length (l.length + 9) l := by
      refine ⟨rfl, by omega, HLL.out.1, HLL.out.2.2, (by intro h; cases h), .inr ⟨lb, 0, rfl, lt_of_some hr1, fun i hi => ?_⟩⟩
      rw [Nat.zero_add, cell_of_row hr1, getD_By _ _ (by rw [List.length_append]; omega)]
      simp only [List.getD]
      rw [List.getElem?_append_left (by omega)]
    have src1 : Src u1.drew F lb 0 l := by
      obtain ⟨b', o', e', h1, h2⟩ := sl_src sl1 HLL.out.2.1
      injection e' with e'
      injection e' with e1 e2
      subst e1 e2
      exact ⟨h2, fun hk => by have := (W.ps.hF _ hk).2; omega, h1⟩
    have hW1 := HS1.out u1.drew lb 0 (l.length + 9) (p1.dv.ch (Ch.dr (fun _ => False) u1) fun _ _ _ h => h) hFl src1
    have HW1 := hidden hW1
    have HP1 := hidden p1
    have HR1 := hidden hr1
    have HB1 := hidden hb1
    have HLB := hidden hlb
    clear hW1 p1 hr1 hb1 sl1 src1 hFl HS1 hlb W
    go_wp2_with fail
    go_region_with (go_at_call 16; refine HW1.out.mono ?_; rintro e u2 ⟨rfl, hD2, hC2⟩; have HD2 := hidden hD2; have HC2 := hidden hC2; clear hD2 hC2)
    all_goals
      have W := HW.out
      have hC : Ch F u1 u2 := (Ch.dr F u1).trans HC2.out fun _ _ h => h
      have hlF : ¬ F lb := fun hk => by have := (W.ps.hF _ hk).2; have := HLB.out; omega
      have hr2 : u2.heap[lb]? = some (.cells (By (l ++ mks 9)).toArray 5 (0, 0)) := (hC.block lb (lt_of_some HR1.out) hlF).trans HR1.out
      have hsl2 : Sl u2 (some ⟨gb, oo, none⟩) l.length c l := (W.sl.on (Nat.le_refl _) HB1.out).chg hC (fun g hg e => by injection hg with hg; subst hg; exact (HN.out _ e).1 rfl)
      have hAs := AsLent_any lb l.length (some ⟨gb, oo, none⟩) c l u2 hr2 hsl2
      have HSL2 := hidden hsl2
      have HCC := hidden hC
      clear hr2 hsl2 hC W k0
      go_wp2_with (go_at_call 28; refine hAs.mono ?_; rintro e u3 ⟨rfl, hC3⟩; have HC3 := hidden hC3; clear hC3; refine Hid.out ?_)
      apply hidden
      clear hAs
      have W := HW.out
      have hlbs := HLB.out
      have hG3 : Ch (Fn F wc u3) u1 u3 := (HCC.out.mono (F := Fn F wc u3) fun k _ hk => .inl hk).trans HC3.out fun k hk e => by
        subst e
        exact .inr ⟨by omega, Nat.lt_of_lt_of_le hk (Nat.le_trans HCC.out.size HC3.out.size)⟩
      have nGF : ∀ k, G k → ¬ Fn F wc u3 k := fun k hk e => by
        rcases e with e | e
        · exact (HP1.out.hG k hk).2.2 e
        · have := (W.ps.hG k hk).2.1; omega
      have kk1 : u3.cell? ⟨x, 1, none⟩ = some (.pointer (some ⟨ra, 0, none⟩)) := HP1.out.cell1 hG3 (fun e => by
        rcases e with e | e
        · exact HP1.out.nF e
        · have := lt_of_some W.ps.pc.row; omega)
      have kk2 : u3.cell? ⟨w.heap.size, 2, none⟩ = some (.int .i64 n) := (World.cell?_of_block (w := u1) (a := ⟨w.heap.size, 2, none⟩) (hG3.block w.heap.size (Nat.lt_of_lt_of_le W.ol HB1.out.size) (fun e => by
        rcases e with e | e
        · exact (HN.out _ e).2 rfl
        · have := W.ol; omega))).trans kn2
      have rv3 : Rv u3.drew G ra r := (HP1.out.rv.ch hG3 fun k _ hk => nGF k hk).ch (Ch.dr (fun _ => False) u3) fun _ _ _ h => h
      have src3 : Src u3.drew G gb oo l := by
        have s3 : Sl u3 (some ⟨gb, oo, none⟩) l.length c l := HSL2.out.chg HC3.out (fun g hg e => by injection hg with hg; subst hg; have := W.gl; replace e : gb = lb := e; omega)
        obtain ⟨b', o', e', h1, h2⟩ := sl_src s3 HLL.out.2.1
        injection e' with e'
        injection e' with e1 e2
        subst e1 e2
        exact ⟨h2, fun hk => (HNG.out _ hk).1 rfl, h1⟩
      have hW2 := HS2.out u3.drew gb oo c rv3 (fun k hk => Nat.lt_of_lt_of_le (HP1.out.hG k hk).2.1 hG3.size) src3
      have dv3 : Dv u3.drew (Fn F u1.drew u2) pa d' := (HD2.out.ch HC3.out fun k hk e => by
        intro e2
        replace e2 : k = lb := e2
        rcases e with e | e
        · have h9 := (W.ps.hF _ e).2
          omega
        · have h9 : u1.heap.size ≤ k := e.1
          have h8 := lt_of_some HR1.out
          omega).ch (Ch.dr (fun _ => False) u3) fun _ _ _ h => h
      have cF3 : Ch F wc u3.drew := (((Ch.of_below (F := F) HB1.out).trans HCC.out fun _ _ h => h).trans HC3.out fun k hk e => by omega).trans (Ch.dr F u3) fun _ _ h => h
      have HW2 := hidden hW2
      have HDV3 := hidden dv3
      have HCF3 := hidden cF3
      have Z1 := hidden (show wc.heap.size ≤ u1.heap.size ∧ u2.heap.size ≤ u3.heap.size from ⟨HB1.out.size, HC3.out.size⟩)
      clear hW2 dv3 cF3 src3 rv3 nGF hG3 W hlbs kn2
      go_wp2_with fail
      go_region_with (go_at_call 29; refine HW2.out.mono ?_; rintro e u4 ⟨rfl, hR4, hC4⟩; have HR4 := hidden hR4; have HC4 := hidden hC4; clear hR4 hC4)
    all_goals
      obtain ⟨q1, q2, q3, q4, q5, q6⟩ := HM.out
      have W := HW.out
      obtain ⟨hQ, hQC⟩ := W.ps.both (t' := t + 1) HDV3.out HCF3.out (fun k hk => by
        rcases hk with hk | hk
        · exact .inl hk
        · refine .inr ⟨Nat.le_trans Z1.out.1 hk.1, Nat.lt_of_lt_of_le hk.2 Z1.out.2⟩) HR4.out HC4.out (fun k hk => hk) HT.out q6 q1 q2 q3 q4 q5
      have HQ := hidden hQ
      have HQC := hidden hQC
      have HCW := hidden W.ch
      clear hQ hQC W q1 q2 q3 q4 q5 q6
      go_wp2
      go_ret
      refine ⟨by first | rfl | simp, ⟨_, _, _, _, _, _, _, _, _, _, HQ.out.weak (fun k hk => ?_) (Nat.le_refl _)⟩, HCW.out.trans HQC.out fun _ _ h => h⟩
      rcases hk with e | e
      · exact .inl e
      · exact .inr ⟨Nat.le_trans HCW.out.size e.1, e.2⟩
end Go.Proofs.Ytikpfcapnpppdaa

/- The pair's play: what both tell of themselves. -/

namespace Go.Proofs.Ytikpfcapnpppdaa
open Go.RowKit

set_option maxRecDepth 100000 in
set_option maxHeartbeats 4000000 in
theorem play_ask (w : World) (B x t pa ra : Nat) (P F G M : Nat → Prop) (its : List (Option Nat × List Int)) (d : D) (r : R) (vC vW : Value) (h : Ps w B P x t its d r pa ra F G M vC vW) (on n by_ : Int) (da ka : Option Addr) (dn dc kn kc : Nat) (tn ta : Int) :
    Calls Try.prog 8 #[.pointer (some ⟨x, 0, none⟩), opV 9 on n by_ da dn dc ka kn kc tn ta] w fun e w' => e = .returned (.bool true) ∧ Pp w' B (Pg P w w') x (t + 1) ∧ Ch P w w' := by
  have hxl := lt_of_some h.pc.row
  have hxn : ¬ x = w.heap.size := by omega
  unfold opV
  have k0 : w.cell? ⟨x, 0, none⟩ = some (.pointer (some ⟨pa, 0, none⟩)) := cell_of_row h.pc.row
  have HL : Hid (∀ o, Calls Try.prog 19 #[.pointer (some ⟨pa, 0, none⟩)] (w.alloc o) fun e u => e = .returned (.int .i64 (d.loose.length : Int)) ∧ u = w.alloc o) := hidden fun o => lse_any _ F pa d (h.box o).dv
  have HC : Hid (∀ o, Calls Try.prog 38 #[.pointer (some ⟨pa, 0, none⟩)] (w.alloc o) fun e u => e = .returned (.agg #[.int .i64 d.cr, .int .i64 d.cw, .int .i64 d.cs]) ∧ Hid (Ps u B P x t its d r pa ra F G M vC vW) ∧ Hid (Ch P w u) ∧ u.cell? ⟨x, 1, none⟩ = some (.pointer (some ⟨ra, 0, none⟩)) ∧ x < u.heap.size) := hidden fun o => (Counts_any _ F pa d (h.box o).dv).mono (by
    rintro e u ⟨rfl, hb⟩
    have p := (h.box o).ch (Ch.of_below (F := fun _ => False) hb) (fun _ _ h => h)
    exact ⟨rfl, hidden p, hidden ((Ch.alloc P w o).trans (Ch.of_below (F := P) hb) fun _ _ h => h), cell_of_row p.pc.row, lt_of_some p.pc.row⟩)
  have hw : (r.wild.length : Int) = (d.loose.length : Int) := by rw [h.tw.wild]
  have HR1 : Hid (∀ u, Ps u B P x t its d r pa ra F G M vC vW → ∀ C, Calls Try.prog 39 #[.pointer (some ⟨ra, 0, none⟩)] (u.alloc C).drew fun e v => e = .returned (.int .i64 (d.loose.length : Int)) ∧ v = (u.alloc C).drew) := hidden fun u hu C => by
    have := rLoose_any (u.alloc C).drew G ra r (hu.box C).dr.rv
    rw [hw] at this
    exact this
  have HR2 : Hid (∀ u, Ps u B P x t its d r pa ra F G M vC vW → Ch P w u → ∀ C, Calls Try.prog 40 #[.pointer (some ⟨ra, 0, none⟩)] (u.alloc C).drew fun e v => e = .returned (.agg #[.int .i64 d.cr, .int .i64 d.cw, .int .i64 d.cs]) ∧ (∀ y0 y1 y2, C = .cells #[y0, y1, y2] 57 → v.cell? ⟨u.heap.size, 0, none⟩ = some y0 ∧ v.cell? ⟨u.heap.size, 1, none⟩ = some y1 ∧ v.cell? ⟨u.heap.size, 2, none⟩ = some y2) ∧ Hid (Pp v B (Pg P w v) x (t + 1) ∧ Ch P w v)) := hidden fun u hu hc C => by
    have := rCounts_any (u.alloc C).drew G ra r (hu.box C).dr.rv
    rw [h.tw.cr, h.tw.cw, h.tw.cs] at this
    refine this.mono ?_
    rintro e v ⟨rfl, hb⟩
    refine ⟨rfl, fun y0 y1 y2 eC => ?_, hidden ⟨⟨_, _, _, _, _, _, _, _, _, _, ((hu.box C).dr.ch (Ch.of_below (F := fun _ => False) hb) (fun _ _ h => h)).weak (fun k hk => .inl hk) (by omega)⟩, ((hc.trans (Ch.alloc P u C) fun _ _ h => h).trans (Ch.dr P _) fun _ _ h => h).trans (Ch.of_below (F := P) hb) fun _ _ h => h⟩⟩
    have hr : v.heap[u.heap.size]? = some (.cells [y0, y1, y2].toArray 57 (0, 0)) := by
      refine (hb.block u.heap.size (by show u.heap.size < (u.alloc C).heap.size; simp)).trans ?_
      show (u.heap.push C)[u.heap.size]? = _
      rw [eC]
      simp
    exact ⟨cell_of_row hr, cell_of_row hr, cell_of_row hr⟩
  clear h hw
  generalize (d.loose.length : Int) = LL at *
  generalize d.cr = c1 at *
  generalize d.cw = c2 at *
  generalize d.cs = c3 at *
  go_enter Try.func8, Try.ntmps8
  go_wp2_with (first
    | (go_at_call 19; refine (HL.out _).mono ?_; rintro e u ⟨rfl, rfl⟩)
    | (go_at_call 38; refine (HC.out _).mono ?_; rintro e u ⟨rfl, HP, HCh, k1, hx1⟩; refine Hid.out ?_))
  apply hidden
  have hxu : ¬ x = u.heap.size := by omega
  have HRA := hidden (HR1.out u HP.out)
  have HRB := hidden (HR2.out u HP.out HCh.out)
  clear HL HC HR1 HR2 k0 HP HCh
  go_wp2_with fail
  go_region_with (first
    | (go_at_call 39; refine (HRA.out _).mono ?_; rintro e v ⟨rfl, rfl⟩)
    | (go_at_call 40; refine (HRB.out _).mono ?_; rintro e v ⟨rfl, hz, HF⟩; obtain ⟨z0, z1, z2⟩ := hz _ _ _ rfl; clear hz))
  all_goals
    go_wp2
    go_ret
    exact ⟨by first | rfl | simp, HF.out.1, HF.out.2⟩
end Go.Proofs.Ytikpfcapnpppdaa

/- The pair's play: the images of both. -/

namespace Go.Proofs.Ytikpfcapnpppdaa
open Go.RowKit

set_option maxRecDepth 100000 in
/-- A list that came is told. -/
theorem tell_step (u : World) (B x t pa ra : Nat) (P F G M : Nat → Prop) (its : List (Option Nat × List Int)) (d : D) (r : R) (vC vW : Value) (h : Ps u B P x t its d r pa ra F G M vC vW) (n1 : its.length + 1 ≤ 2 * t) (n0 : its.length < 4398046511103) (g : Nat) (l : List Int) (hg : P g ∧ ¬ F g ∧ ¬ G g ∧ ¬ M g ∧ ¬ Pb x vC vW g) (hr : u.heap[g]? = some (.cells (By l).toArray 5 (0, 0))) (hw : Wf l) (hl : l.length ≤ 67108864) (ao : Option Addr) (c2 : Nat) (hb : Sl u ao l.length c2 l) (hbo : ∀ k, ao = some k → ¬ Pb x vC vW k.block) :
    Calls Try.prog 26 #[.pointer (some ⟨x, 0, none⟩), .slice (some ⟨g, 0, none⟩) l.length l.length, .slice ao l.length c2] u fun e u' => e = .returned (.bool true) ∧ ∃ vC' vW', Ps u' B (Pg P u u') x t (its ++ [(some g, l)]) d r pa ra F G (fun k => M k ∨ some g = some k) vC' vW' ∧ Ch P u u' ∧ (∀ k, Pb x vC' vW' k → Pb x vC vW k ∨ u.heap.size ≤ k) ∧ Ch (Pb x vC vW) u u' := by
  refine (told_yes u B x its.length _ _ vC vW _ _ (some ⟨g, 0, none⟩) ao l.length l.length c2 l h.pc (row_sl hr rfl hw (by omega)) hb (fun k hk => by injection hk with hk; subst hk; exact hg.2.2.2.2) hbo n0).mono ?_
  rintro e u' ⟨rfl, vC', vW', hp, hc, hbb⟩
  have hlt : ∀ k, Pb x vC' vW' k → k < u'.heap.size := by
    rintro k (rfl | e | e)
    · exact lt_of_some hp.row
    · exact (hp.oC.lt k e).2
    · exact (hp.oW.lt k e).2
  have hcm := h.cm.ch hc fun k hk e => (h.hP k e).2.2.2.2 hk
  obtain ⟨q1, q2⟩ := h.told (some g, l) hp hc (fun k hk => (hbb k hk).imp (fun h => h) fun e => ⟨e, hlt k hk⟩) (fun k => M k ∨ some g = some k) (fun k hk => hk) (fun k hk => by
    injection hk with hk
    subst hk
    exact ⟨hg.1, lt_of_some hr, hg.2.1, hg.2.2.1, hg.2.2.2.2⟩) (hcm.more (fun k hk => .inl hk) hg.2.2.2.1 (.inr rfl) ((hc.block g (lt_of_some hr) hg.2.2.2.2).trans hr) hw hl) n1
  exact ⟨rfl, vC', vW', q1, q2, hbb, hc⟩
set_option maxRecDepth 100000 in
theorem wf_splice {l m : List Int} (hl : Wf l) (hm : Wf m) (off : Nat) : Wf (splice l off m) := by
  intro y hy
  unfold splice at hy
  simp only [List.mem_append] at hy
  rcases hy with h | h | h
  · exact hl y (List.mem_of_mem_take h)
  · exact hm y h
  · exact hl y (List.mem_of_mem_drop h)
set_option maxRecDepth 100000 in
theorem imD_wf (d : D) (hs : Wf d.safe) (hr : ∀ k, k < d.pages → Wf (rd d k)) : ∀ k, k ≤ d.pages → Wf (imD d k)
  | 0, _ => hs
  | k + 1, hk => by
    have h1 := imD_wf d hs hr k (by omega)
    unfold imD
    split
    · exact wf_splice h1 (hr k (by omega)) _
    · exact h1
set_option maxRecDepth 100000 in
set_option maxHeartbeats 4000000 in
theorem play_image (w : World) (B x t pa ra : Nat) (P F G M : Nat → Prop) (its : List (Option Nat × List Int)) (d : D) (r : R) (vC vW : Value) (h : Ps w B P x t its d r pa ra F G M vC vW) (ht : t < 1099511627776) (on n by_ : Int) (da ka : Option Addr) (dn dc kn kc : Nat) (tn ta : Int) :
    Calls Try.prog 8 #[.pointer (some ⟨x, 0, none⟩), opV 7 on n by_ da dn dc ka kn kc tn ta] w fun e w' => e = .returned (.bool true) ∧ Pp w' B (Pg P w w') x (t + 1) ∧ Ch P w w' := by
  have hxl := lt_of_some h.pc.row
  have hxn : ¬ x = w.heap.size := by omega
  unfold opV
  have k0 : w.cell? ⟨x, 0, none⟩ = some (.pointer (some ⟨pa, 0, none⟩)) := cell_of_row h.pc.row
  obtain ⟨bs, bl, vL, vK, _, hrst⟩ := h.dv
  obtain ⟨L1, hL1⟩ : ∃ l, l = imD d d.pages := ⟨_, rfl⟩
  obtain ⟨L2, hL2⟩ : ∃ l, l = d.safe := ⟨_, rfl⟩
  have hn1 : L1.length = d.page * d.pages := by rw [hL1]; exact imD_len d hrst.ns (fun k hk => (hrst.rdlen hk).1) _ (Nat.le_refl _)
  have hn2 : L2.length = d.page * d.pages := by rw [hL2]; exact hrst.ns
  have hq3 := hrst.q3
  have hi1 : imR r.page (flatR r.L r.L.length) r.wild r.wild.length = L1 := by rw [hL1]; exact (h.tw.imD (by have := hrst.p1; omega) (fun k hk => (hrst.rdlen hk).1)).symm
  have hi2 : flatR r.L r.L.length = L2 := by rw [hL2]; exact h.tw.flat
  have hpp : r.L.length * r.page = d.page * d.pages := by rw [h.tw.pages, h.tw.page]; exact Nat.mul_comm _ _
  have hw2 : Wf L2 := by rw [hL2]; exact hrst.ws
  have HI : Hid (∀ o, Calls Try.prog 33 #[.pointer (some ⟨pa, 0, none⟩)] (w.alloc o) fun e u => e = .returned (.slice (some ⟨w.heap.size + 1, 0, none⟩) L1.length L1.length) ∧ Hid (u.heap[w.heap.size + 1]? = some (.cells (By L1).toArray 5 (0, 0))) ∧ Hid (Below w.heap.size w u) ∧ u.cell? ⟨x, 0, none⟩ = some (.pointer (some ⟨pa, 0, none⟩))) := hidden fun o => (Image_any _ F pa d (h.box o).dv).mono (by
    rintro e u ⟨rfl, hh, hb⟩
    have z : (w.alloc o).heap.size = w.heap.size + 1 := Array.size_push ..
    rw [z] at hh hb
    have b0 : Below w.heap.size w u := ((Below.refl _ _).alloc (Nat.le_refl _) o).trans (hb.mono (by omega))
    refine ⟨by rw [z, hn1], hidden (by rw [hL1]; exact hh), hidden b0, (World.cell?_of_block (w := w) (a := ⟨x, 0, none⟩) (b0.block x hxl)).trans k0⟩)
  have HH := hidden h
  have HW1 : Hid (Wf L1) := hidden (by rw [hL1]; exact imD_wf d hrst.ws (fun k hk => (hrst.rdlen hk).2) _ (Nat.le_refl _))
  have HN1 := hidden hn1
  have HN2 := hidden hn2
  have HI1 := hidden hi1
  have HI2 := hidden hi2
  have HPP := hidden hpp
  have HQ3 := hidden hq3
  have HW2 := hidden hw2
  have HL1 := hidden hL1
  have HL2 := hidden hL2
  clear hrst hn1 hn2 hi1 hi2 hpp hq3 hw2 hL1 hL2
  go_enter Try.func8, Try.ntmps8
  go_wp2_with (go_at_call 33; refine (HI.out _).mono ?_; rintro e u1 ⟨rfl, HR1, HB1, k1⟩; refine Hid.out ?_)
  apply hidden
  clear HI k0
  have HS : Hid (Calls Try.prog 34 #[.pointer (some ⟨pa, 0, none⟩)] u1 fun e u => e = .returned (.slice (some ⟨u1.heap.size, 0, none⟩) L2.length L2.length) ∧ Hid (u.heap[u1.heap.size]? = some (.cells (By L2).toArray 5 (0, 0))) ∧ Hid (Below u1.heap.size u1 u) ∧ u.cell? ⟨x, 1, none⟩ = some (.pointer (some ⟨ra, 0, none⟩))) := by
    have p1 := HH.out.ch (Ch.of_below (F := fun _ => False) HB1.out) (fun _ _ h => h)
    refine hidden ((Safe_any u1 F pa d p1.dv).mono ?_)
    rintro e u ⟨rfl, hh, hb⟩
    exact ⟨by rw [HN2.out], hidden (by rw [HL2.out]; exact hh), hidden hb, p1.cell1 (Ch.of_below (F := fun _ => False) hb) (fun h => h)⟩
  go_wp2_with (go_at_call 34; refine HS.out.mono ?_; rintro e u2 ⟨rfl, HR2, HB2, k2⟩; refine Hid.out ?_)
  apply hidden
  clear HS k1
  have B2 : Hid (Below w.heap.size w u2) := hidden (HB1.out.trans (HB2.out.mono HB1.out.size))
  have hRI := rImage_new u2 G ra r (HH.out.ch (Ch.of_below (F := fun _ => False) B2.out) (fun _ _ h => h)).rv
  rw [HI1.out, HPP.out, ← HN1.out] at hRI
  have G1 : Hid (w.heap.size + 1 < u1.heap.size) := hidden (lt_of_some HR1.out)
  have G2 : Hid (u1.heap.size < u2.heap.size) := hidden (lt_of_some HR2.out)
  generalize hgb : u1.heap.size = gb at *
  obtain ⟨ga, hga⟩ : ∃ ga, ga = w.heap.size + 1 := ⟨_, rfl⟩
  rw [← hga] at HR1
  rw [← hga]
  have HGA := hidden hga
  clear hga
  have HTD : Hid (∀ u3 ao c, Sl u3 ao L1.length c L1 → Below u2.heap.size u2 u3 → (∀ g, ao = some g → u2.heap.size ≤ g.block) → Calls Try.prog 26 #[.pointer (some ⟨x, 0, none⟩), .slice (some ⟨ga, 0, none⟩) L1.length L1.length, .slice ao L1.length c] u3 fun e u4 => e = .returned (.bool true) ∧ u4.cell? ⟨x, 1, none⟩ = some (.pointer (some ⟨ra, 0, none⟩)) ∧ Hid (∃ vC' vW', Ps u4 B (Pg P w u4) x (t + 1) (its ++ [(some ga, L1)]) d r pa ra F G (fun k => M k ∨ some ga = some k) vC' vW' ∧ Ch P w u4 ∧ u4.heap[gb]? = some (.cells (By L2).toArray 5 (0, 0)) ∧ ¬ Pb x vC' vW' gb)) := by
    refine hidden fun u3 ao c hsl hb hfr => ?_
    have B3 : Below w.heap.size w u3 := B2.out.trans (hb.mono B2.out.size)
    have g1 := G1.out
    have g2 := G2.out
    have g3 := hb.size
    have ga1 := HGA.out
    have p3 : Ps u3 B (Pg P w u3) x (t + 1) its d r pa ra F G M vC vW := (HH.out.ch (Ch.of_below (F := fun _ => False) B3) (fun _ _ h => h)).weak (fun k hk => .inl hk) (by omega)
    have old : ∀ k, w.heap.size ≤ k → ¬ F k ∧ ¬ G k ∧ ¬ M k ∧ ¬ Pb x vC vW k := fun k hk => ⟨fun e => by have := (HH.out.hF _ e).2; omega, fun e => by have := (HH.out.hG _ e).2.1; omega, fun e => by have := (HH.out.hM _ e).2.1; omega, fun e => by have := (HH.out.hP _ e).2.1; omega⟩
    have n1 := HH.out.n1
    have oa := old ga (by omega)
    have rga : u3.heap[ga]? = some (.cells (By L1).toArray 5 (0, 0)) := ((hb.block ga (by omega)).trans (HB2.out.block ga (by omega))).trans HR1.out
    refine (tell_step u3 B x (t + 1) pa ra (Pg P w u3) F G M its d r vC vW p3 (by omega) (by omega) ga L1 ⟨.inr ⟨by omega, by omega⟩, oa.1, oa.2.1, oa.2.2.1, oa.2.2.2⟩ rga HW1.out (by have := HQ3.out; rw [HN1.out]; omega) ao c hsl (fun k hk e => by have := (HH.out.hP _ e).2.1; have := hfr k hk; omega)).mono ?_
    rintro e u4 ⟨rfl, vC', vW', q1, q2, q3, q4⟩
    have s4 := q2.size
    refine ⟨rfl, cell_of_row q1.pc.row, hidden ⟨vC', vW', q1.weak (fun k hk => ?_) (Nat.le_refl _), (Ch.of_below (F := P) B3).trans q2 (fun k hk e => ?_), ?_, fun e => ?_⟩⟩
    · rcases hk with (hk | hk) | hk
      · exact .inl hk
      · exact .inr ⟨hk.1, by omega⟩
      · exact .inr ⟨by have := B3.size; omega, hk.2⟩
    · rcases e with e | e
      · exact e
      · omega
    · have ob := old gb (by omega)
      exact (q4.block gb (by omega) ob.2.2.2).trans ((hb.block gb (by omega)).trans HR2.out)
    · rcases q3 gb e with e | e
      · exact (old gb (by omega)).2.2.2 e
      · omega
  go_wp2_with (go_at_call 35; refine hRI.mono ?_; rintro e u3 ⟨ao, c, rfl, hsl, hb, hfr⟩; have hT := HTD.out u3 ao c hsl hb hfr; clear hsl hb hfr; refine Hid.out ?_)
  apply hidden
  clear HTD hRI k2
  go_wp2_with (go_at_call 26; refine hT.mono ?_; rintro e u4 ⟨rfl, k4, HQ⟩; refine Hid.out ?_)
  apply hidden
  clear hT
  obtain ⟨vC', vW', q1, q2, q3, q4⟩ := HQ.out
  have hRS := rSafe_new u4 G ra r q1.rv
  rw [HI2.out, HPP.out, ← HN2.out] at hRS
  have HTD : Hid (∀ u5 ao c, Sl u5 ao L2.length c L2 → Below u4.heap.size u4 u5 → (∀ g, ao = some g → u4.heap.size ≤ g.block) → Calls Try.prog 26 #[.pointer (some ⟨x, 0, none⟩), .slice (some ⟨gb, 0, none⟩) L2.length L2.length, .slice ao L2.length c] u5 fun e u6 => e = .returned (.bool true) ∧ Hid (Pp u6 B (Pg P w u6) x (t + 1) ∧ Ch P w u6)) := by
    refine hidden fun u5 ao c hsl hb hfr => ?_
    have g1 := G1.out
    have g2 := G2.out
    have ga1 := HGA.out
    have g3 := hb.size
    have gl := lt_of_some q3
    have p5 := q1.ch (Ch.of_below (F := fun _ => False) hb) (fun _ _ h => h)
    have n1 := HH.out.n1
    have cw := q2.size
    have old : ¬ F gb ∧ ¬ G gb ∧ ¬ M gb := ⟨fun e => by have := (HH.out.hF _ e).2; omega, fun e => by have := (HH.out.hG _ e).2.1; omega, fun e => by have := (HH.out.hM _ e).2.1; omega⟩
    refine (tell_step u5 B x (t + 1) pa ra (Pg P w u4) F G _ _ d r vC' vW' p5 (by rw [List.length_append]; simp; omega) (by rw [List.length_append]; simp; omega) gb L2 ⟨.inr ⟨by omega, gl⟩, old.1, old.2.1, fun e => ?_, q4⟩ ((hb.block gb gl).trans q3) HW2.out (by have := HQ3.out; rw [HN2.out]; omega) ao c hsl (fun k hk e => by have := (q1.hP _ e).2.1; have := hfr k hk; omega)).mono ?_
    · rcases e with e | e
      · exact old.2.2 e
      · injection e with e
        omega
    · rintro e u6 ⟨rfl, vC2, vW2, z1, z2, _, _⟩
      have s6 := z2.size
      refine ⟨rfl, hidden ⟨⟨_, _, _, _, _, _, _, _, _, _, z1.weak (fun k hk => ?_) (Nat.le_refl _)⟩, (q2.trans (Ch.of_below (F := P) hb) fun _ _ h => h).trans z2 fun k hk e => ?_⟩⟩
      · rcases hk with (hk | hk) | hk
        · exact .inl hk
        · exact .inr ⟨hk.1, by omega⟩
        · exact .inr ⟨by omega, hk.2⟩
      · rcases e with e | e
        · exact e
        · omega
  clear q1 q2 q3 q4 HQ
  have HRS := hidden hRS
  clear hRS
  go_wp2_with (go_at_call 36; refine HRS.out.mono ?_; rintro e u5 ⟨ao2, cc2, rfl, hsl, hb, hfr⟩; have hT := hidden (HTD.out u5 ao2 cc2 hsl hb hfr); clear hsl hb hfr; refine Hid.out ?_)
  apply hidden
  clear HTD HRS
  go_wp2_with (go_at_call 26; refine hT.out.mono ?_; rintro e u6 ⟨rfl, HZ⟩)
  go_ret
  exact ⟨by first | rfl | simp, HZ.out.1, HZ.out.2⟩
end Go.Proofs.Ytikpfcapnpppdaa

/- The pair's images once more, when what came has been written over. -/

namespace Go.Proofs.Ytikpfcapnpppdaa
open Go.RowKit

/-- The pair, whatever came. -/
structure Pz (w : World) (B : Nat) (P : Nat → Prop) (x n : Nat) (cs ts : List Value) (d : D) (r : R) (pa ra : Nat) (F G : Nat → Prop) (vC vW : Value) : Prop where
  pc : Pc w B x (.pointer (some ⟨pa, 0, none⟩)) (.pointer (some ⟨ra, 0, none⟩)) n cs ts vC vW
  dv : Dv w F pa d
  rv : Rv w G ra r
  tw : Tw d r
  hF : ∀ k, F k → P k ∧ k < w.heap.size
  hG : ∀ k, G k → P k ∧ k < w.heap.size ∧ ¬ F k
  hP : ∀ k, Pb x vC vW k → P k ∧ k < w.heap.size ∧ ¬ F k ∧ ¬ G k
set_option maxRecDepth 100000 in
theorem Ps.pz {w : World} {B x t pa ra : Nat} {P F G M : Nat → Prop} {its : List (Option Nat × List Int)} {d : D} {r : R} {vC vW : Value} (h : Ps w B P x t its d r pa ra F G M vC vW) : Pz w B P x its.length (its.map cv) (its.map ct) d r pa ra F G vC vW :=
  ⟨h.pc, h.dv, h.rv, h.tw, h.hF, h.hG, fun k hk => ⟨(h.hP k hk).1, (h.hP k hk).2.1, (h.hP k hk).2.2.1, (h.hP k hk).2.2.2.1⟩⟩
set_option maxRecDepth 100000 in
theorem Pz.ch {w w' : World} {B x n pa ra : Nat} {P Q F G : Nat → Prop} {cs ts : List Value} {d : D} {r : R} {vC vW : Value} (h : Pz w B P x n cs ts d r pa ra F G vC vW) (hc : Ch Q w w') (hq : ∀ k, F k ∨ G k ∨ Pb x vC vW k → ¬ Q k) : Pz w' B P x n cs ts d r pa ra F G vC vW :=
  ⟨h.pc.ch hc fun k hk => hq k (.inr (.inr hk)), h.dv.ch hc fun k _ hk => hq k (.inl hk), h.rv.ch hc fun k _ hk => hq k (.inr (.inl hk)), h.tw,
   fun k hk => ⟨(h.hF k hk).1, Nat.lt_of_lt_of_le (h.hF k hk).2 hc.size⟩, fun k hk => ⟨(h.hG k hk).1, Nat.lt_of_lt_of_le (h.hG k hk).2.1 hc.size, (h.hG k hk).2.2⟩, fun k hk => ⟨(h.hP k hk).1, Nat.lt_of_lt_of_le (h.hP k hk).2.1 hc.size, (h.hP k hk).2.2⟩⟩
set_option maxRecDepth 100000 in
theorem Pz.be {w w' : World} {B x n pa ra : Nat} {P F G : Nat → Prop} {cs ts : List Value} {d : D} {r : R} {vC vW : Value} (h : Pz w B P x n cs ts d r pa ra F G vC vW) (hb : Below w.heap.size w w') : Pz w' B P x n cs ts d r pa ra F G vC vW := h.ch (Ch.of_below (F := fun _ => False) hb) fun _ _ e => e
set_option maxRecDepth 100000 in
theorem tell_z (u : World) (B x n pa ra : Nat) (P F G : Nat → Prop) (cs ts : List Value) (d : D) (r : R) (vC vW : Value) (h : Pz u B P x n cs ts d r pa ra F G vC vW) (hn : n < 4398046511103) (ao bo : Option Addr) (m c c2 : Nat) (l : List Int) (ha : Sl u ao m c l) (hb : Sl u bo m c2 l) (hda : ∀ g, ao = some g → ¬ Pb x vC vW g.block) (hdb : ∀ g, bo = some g → ¬ Pb x vC vW g.block) :
    Calls Try.prog 26 #[.pointer (some ⟨x, 0, none⟩), .slice ao m c, .slice bo m c2] u fun e u' => e = .returned (.bool true) ∧ ∃ cs' ts' vC' vW', Pz u' B (Pg P u u') x (n + 1) cs' ts' d r pa ra F G vC' vW' ∧ Ch (Pb x vC vW) u u' ∧ (∀ k, Pb x vC' vW' k → Pb x vC vW k ∨ u.heap.size ≤ k) := by
  refine (told_yes u B x n _ _ vC vW cs ts ao bo m c c2 l h.pc ha hb hda hdb hn).mono ?_
  rintro e u' ⟨rfl, vC', vW', hp, hc, hbb⟩
  have hlt : ∀ k, Pb x vC' vW' k → k < u'.heap.size := by
    rintro k (rfl | e | e)
    · exact lt_of_some hp.row
    · exact (hp.oC.lt k e).2
    · exact (hp.oW.lt k e).2
  have s1 := hc.size
  refine ⟨rfl, _, _, vC', vW', ⟨hp, h.dv.ch hc fun k _ hk e => (h.hP k e).2.2.1 hk, h.rv.ch hc fun k _ hk e => (h.hP k e).2.2.2 hk, h.tw, fun k hk => ⟨.inl (h.hF k hk).1, by have := (h.hF k hk).2; omega⟩, fun k hk => ⟨.inl (h.hG k hk).1, by have := (h.hG k hk).2.1; omega, (h.hG k hk).2.2⟩, fun k hk => ?_⟩, hc, hbb⟩
  rcases hbb k hk with e | e
  · obtain ⟨m1, m2, m3, m4⟩ := h.hP k e
    exact ⟨.inl m1, hlt k hk, m3, m4⟩
  · exact ⟨.inr ⟨e, hlt k hk⟩, hlt k hk, fun hf => by have := (h.hF k hf).2; omega, fun hg => by have := (h.hG k hg).2.1; omega⟩
set_option maxRecDepth 100000 in
set_option maxHeartbeats 4000000 in
theorem again_image (w : World) (B x N pa ra : Nat) (P F G : Nat → Prop) (cs ts : List Value) (d : D) (r : R) (vC vW : Value) (h : Pz w B P x N cs ts d r pa ra F G vC vW) (hN : N + 1 < 4398046511103) (on n by_ : Int) (da ka : Option Addr) (dn dc kn kc : Nat) (tn ta : Int) :
    Calls Try.prog 8 #[.pointer (some ⟨x, 0, none⟩), opV 7 on n by_ da dn dc ka kn kc tn ta] w fun e w' => e = .returned (.bool true) ∧ Ch P w w' := by
  have hxl := lt_of_some h.pc.row
  have hxn : ¬ x = w.heap.size := by omega
  unfold opV
  have k0 : w.cell? ⟨x, 0, none⟩ = some (.pointer (some ⟨pa, 0, none⟩)) := cell_of_row h.pc.row
  obtain ⟨bs, bl, vL, vK, _, hrst⟩ := h.dv
  obtain ⟨L1, hL1⟩ : ∃ l, l = imD d d.pages := ⟨_, rfl⟩
  obtain ⟨L2, hL2⟩ : ∃ l, l = d.safe := ⟨_, rfl⟩
  have hn1 : L1.length = d.page * d.pages := by rw [hL1]; exact imD_len d hrst.ns (fun k hk => (hrst.rdlen hk).1) _ (Nat.le_refl _)
  have hn2 : L2.length = d.page * d.pages := by rw [hL2]; exact hrst.ns
  have hq3 := hrst.q3
  have hi1 : imR r.page (flatR r.L r.L.length) r.wild r.wild.length = L1 := by rw [hL1]; exact (h.tw.imD (by have := hrst.p1; omega) (fun k hk => (hrst.rdlen hk).1)).symm
  have hi2 : flatR r.L r.L.length = L2 := by rw [hL2]; exact h.tw.flat
  have hpp : r.L.length * r.page = d.page * d.pages := by rw [h.tw.pages, h.tw.page]; exact Nat.mul_comm _ _
  have hw2 : Wf L2 := by rw [hL2]; exact hrst.ws
  have HI : Hid (∀ o, Calls Try.prog 33 #[.pointer (some ⟨pa, 0, none⟩)] (w.alloc o) fun e u => e = .returned (.slice (some ⟨w.heap.size + 1, 0, none⟩) L1.length L1.length) ∧ Hid (u.heap[w.heap.size + 1]? = some (.cells (By L1).toArray 5 (0, 0))) ∧ Hid (Below w.heap.size w u) ∧ u.cell? ⟨x, 0, none⟩ = some (.pointer (some ⟨pa, 0, none⟩))) := hidden fun o => (Image_any _ F pa d (h.be ((Below.refl _ _).alloc (Nat.le_refl _) o)).dv).mono (by
    rintro e u ⟨rfl, hh, hb⟩
    have z : (w.alloc o).heap.size = w.heap.size + 1 := Array.size_push ..
    rw [z] at hh hb
    have b0 : Below w.heap.size w u := ((Below.refl _ _).alloc (Nat.le_refl _) o).trans (hb.mono (by omega))
    refine ⟨by rw [z, hn1], hidden (by rw [hL1]; exact hh), hidden b0, (World.cell?_of_block (w := w) (a := ⟨x, 0, none⟩) (b0.block x hxl)).trans k0⟩)
  have HH := hidden h
  have HW1 : Hid (Wf L1) := hidden (by rw [hL1]; exact imD_wf d hrst.ws (fun k hk => (hrst.rdlen hk).2) _ (Nat.le_refl _))
  have HN1 := hidden hn1
  have HN2 := hidden hn2
  have HI1 := hidden hi1
  have HI2 := hidden hi2
  have HPP := hidden hpp
  have HQ3 := hidden hq3
  have HW2 := hidden hw2
  have HL1 := hidden hL1
  have HL2 := hidden hL2
  clear hrst hn1 hn2 hi1 hi2 hpp hq3 hw2 hL1 hL2
  go_enter Try.func8, Try.ntmps8
  go_wp2_with (go_at_call 33; refine (HI.out _).mono ?_; rintro e u1 ⟨rfl, HR1, HB1, k1⟩; refine Hid.out ?_)
  apply hidden
  clear HI k0
  have HS : Hid (Calls Try.prog 34 #[.pointer (some ⟨pa, 0, none⟩)] u1 fun e u => e = .returned (.slice (some ⟨u1.heap.size, 0, none⟩) L2.length L2.length) ∧ Hid (u.heap[u1.heap.size]? = some (.cells (By L2).toArray 5 (0, 0))) ∧ Hid (Below u1.heap.size u1 u) ∧ u.cell? ⟨x, 1, none⟩ = some (.pointer (some ⟨ra, 0, none⟩))) := by
    have p1 := HH.out.be HB1.out
    refine hidden ((Safe_any u1 F pa d p1.dv).mono ?_)
    rintro e u ⟨rfl, hh, hb⟩
    exact ⟨by rw [HN2.out], hidden (by rw [HL2.out]; exact hh), hidden hb, cell_of_row (p1.be hb).pc.row⟩
  go_wp2_with (go_at_call 34; refine HS.out.mono ?_; rintro e u2 ⟨rfl, HR2, HB2, k2⟩; refine Hid.out ?_)
  apply hidden
  clear HS k1
  have B2 : Hid (Below w.heap.size w u2) := hidden (HB1.out.trans (HB2.out.mono HB1.out.size))
  have hRI := rImage_new u2 G ra r (HH.out.be B2.out).rv
  rw [HI1.out, HPP.out, ← HN1.out] at hRI
  have G1 : Hid (w.heap.size + 1 < u1.heap.size) := hidden (lt_of_some HR1.out)
  have G2 : Hid (u1.heap.size < u2.heap.size) := hidden (lt_of_some HR2.out)
  generalize hgb : u1.heap.size = gb at *
  obtain ⟨ga, hga⟩ : ∃ ga, ga = w.heap.size + 1 := ⟨_, rfl⟩
  rw [← hga] at HR1
  rw [← hga]
  have HGA := hidden hga
  clear hga
  have HTD : Hid (∀ u3 ao c, Sl u3 ao L1.length c L1 → Below u2.heap.size u2 u3 → (∀ g, ao = some g → u2.heap.size ≤ g.block) → Calls Try.prog 26 #[.pointer (some ⟨x, 0, none⟩), .slice (some ⟨ga, 0, none⟩) L1.length L1.length, .slice ao L1.length c] u3 fun e u4 => e = .returned (.bool true) ∧ u4.cell? ⟨x, 1, none⟩ = some (.pointer (some ⟨ra, 0, none⟩)) ∧ Hid (∃ cs' ts' vC' vW', Pz u4 B (Pg P w u4) x (N + 1) cs' ts' d r pa ra F G vC' vW' ∧ Ch P w u4 ∧ u4.heap[gb]? = some (.cells (By L2).toArray 5 (0, 0)) ∧ ¬ Pb x vC' vW' gb)) := by
    refine hidden fun u3 ao c hsl hb hfr => ?_
    have B3 : Below w.heap.size w u3 := B2.out.trans (hb.mono B2.out.size)
    have g1 := G1.out
    have g2 := G2.out
    have g3 := hb.size
    have ga1 := HGA.out
    have p3 := HH.out.be B3
    have old : ∀ k, w.heap.size ≤ k → ¬ Pb x vC vW k := fun k hk e => by have := (HH.out.hP _ e).2.1; omega
    have rga : u3.heap[ga]? = some (.cells (By L1).toArray 5 (0, 0)) := ((hb.block ga (by omega)).trans (HB2.out.block ga (by omega))).trans HR1.out
    refine (tell_z u3 B x N pa ra P F G cs ts d r vC vW p3 (by omega) (some ⟨ga, 0, none⟩) ao L1.length L1.length c L1 (row_sl rga rfl HW1.out (by have := HQ3.out; rw [HN1.out]; omega)) hsl (fun k hk => by injection hk with hk; subst hk; exact old ga (by omega)) (fun k hk => old _ (by have := hfr k hk; have := B2.out.size; omega))).mono ?_
    rintro e u4 ⟨rfl, cs', ts', vC', vW', q1, q4, q3⟩
    have s4 := q4.size
    refine ⟨rfl, cell_of_row q1.pc.row, hidden ⟨cs', ts', vC', vW', ⟨q1.pc, q1.dv, q1.rv, q1.tw, fun k hk => ⟨.inl (HH.out.hF k hk).1, (q1.hF k hk).2⟩, fun k hk => ⟨.inl (HH.out.hG k hk).1, (q1.hG k hk).2⟩, fun k hk => ⟨?_, (q1.hP k hk).2⟩⟩, (Ch.of_below (F := P) B3).trans q4 (fun k hk e => (HH.out.hP k e).1), ?_, fun e => ?_⟩⟩
    · rcases (q1.hP k hk).1 with e | e
      · exact .inl e
      · exact .inr ⟨by have := B3.size; omega, e.2⟩
    · exact (q4.block gb (by omega) (old gb (by omega))).trans ((hb.block gb (by omega)).trans HR2.out)
    · rcases q3 gb e with e | e
      · exact old gb (by omega) e
      · omega
  go_wp2_with (go_at_call 35; refine hRI.mono ?_; rintro e u3 ⟨ao, c, rfl, hsl, hb, hfr⟩; have hT := HTD.out u3 ao c hsl hb hfr; clear hsl hb hfr; refine Hid.out ?_)
  apply hidden
  clear HTD hRI k2
  go_wp2_with (go_at_call 26; refine hT.mono ?_; rintro e u4 ⟨rfl, k4, HQ⟩; refine Hid.out ?_)
  apply hidden
  clear hT
  obtain ⟨cs', ts', vC', vW', q1, q2, q3, q4⟩ := HQ.out
  have hRS := rSafe_new u4 G ra r q1.rv
  rw [HI2.out, HPP.out, ← HN2.out] at hRS
  have HTD : Hid (∀ u5 ao c, Sl u5 ao L2.length c L2 → Below u4.heap.size u4 u5 → (∀ g, ao = some g → u4.heap.size ≤ g.block) → Calls Try.prog 26 #[.pointer (some ⟨x, 0, none⟩), .slice (some ⟨gb, 0, none⟩) L2.length L2.length, .slice ao L2.length c] u5 fun e u6 => e = .returned (.bool true) ∧ Hid (Ch P w u6)) := by
    refine hidden fun u5 ao c hsl hb hfr => ?_
    have gl := lt_of_some q3
    have g3 := hb.size
    have cw := q2.size
    have p5 := q1.be hb
    refine (tell_z u5 B x (N + 1) pa ra (Pg P w u4) F G cs' ts' d r vC' vW' p5 (by omega) (some ⟨gb, 0, none⟩) ao L2.length L2.length c L2 (row_sl ((hb.block gb gl).trans q3) rfl HW2.out (by have := HQ3.out; rw [HN2.out]; omega)) hsl (fun k hk => by injection hk with hk; subst hk; exact q4) (fun k hk e => by have := (q1.hP _ e).2.1; have := hfr k hk; omega)).mono ?_
    rintro e u6 ⟨rfl, _, _, _, _, _, z2, _⟩
    refine ⟨rfl, hidden ((q2.trans (Ch.of_below (F := P) hb) fun _ _ h => h).trans z2 fun k hk e => ?_)⟩
    rcases (q1.hP k e).1 with e | e
    · exact e
    · omega
  clear q1 q2 q3 q4 HQ
  have HRS := hidden hRS
  clear hRS
  go_wp2_with (go_at_call 36; refine HRS.out.mono ?_; rintro e u5 ⟨ao2, cc2, rfl, hsl, hb, hfr⟩; have hT := hidden (HTD.out u5 ao2 cc2 hsl hb hfr); clear hsl hb hfr; refine Hid.out ?_)
  apply hidden
  clear HTD HRS
  go_wp2_with (go_at_call 26; refine hT.out.mono ?_; rintro e u6 ⟨rfl, HZ⟩)
  go_ret
  exact ⟨by first | rfl | simp, HZ.out⟩
end Go.Proofs.Ytikpfcapnpppdaa
