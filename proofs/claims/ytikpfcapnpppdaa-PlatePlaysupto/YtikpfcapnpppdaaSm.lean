/- The pair's play: Read, walked. -/
import Derived.Test.YtikpfcapnpppdaaJh
namespace Go.Proofs.Ytikpfcapnpppdaa
open Go.RowKit

set_option maxRecDepth 100000 in
set_option maxHeartbeats 4000000 in
theorem play_read (w : World) (B x t pa ra : Nat) (P F G M : Nat → Prop) (its : List (Option Nat × List Int)) (d : D) (r : R) (vC vW : Value) (h : Ps w B P x t its d r pa ra F G M vC vW) (ht : t < 1099511627776) (on n by_ : Int) (da ka : Option Addr) (dn dc kn kc : Nat) (tn ta : Int) :
    Calls Try.prog 8 #[.pointer (some ⟨x, 0, none⟩), opV 1 on n by_ da dn dc ka kn kc tn ta] w fun e w' => e = .returned (.bool true) ∧ Pp w' B (Pg P w w') x (t + 1) ∧ Ch P w w' := by
  have hxl := lt_of_some h.pc.row
  have hxn : ¬ x = w.heap.size := by omega
  unfold opV
  have k0 : w.cell? ⟨x, 0, none⟩ = some (.pointer (some ⟨pa, 0, none⟩)) := cell_of_row h.pc.row
  obtain ⟨ec, l, d', r', htw, m2, m3, m4, m5, m6, m7, hS1, hS2⟩ := read_both F G pa ra t n h.tw (by omega) h.n3
  have HS := hidden (h.firstd (R1 := fun e w1 u => ∃ y : Option Nat × List Int, y.2 = l ∧ e = .returned (.tuple #[cv y, .int .i64 ec]) ∧ ((y.1 = none ∧ l = []) ∨ ∃ g, y.1 = some g ∧ w1.heap.size ≤ g ∧ u.heap[g]? = some (.cells (By l).toArray 5 (0, 0)) ∧ Wf l ∧ l.length ≤ 67108864) ∧ Dv u F pa d' ∧ Ch F w1 u) fun w1 h1 => hS1 w1 h1.dv fun k hk => (h1.hF k hk).2)
  have HS2 := hidden hS2
  have HT := hidden htw
  have HM : Hid (d'.loose.length ≤ t + 1 ∧ (0 ≤ d'.cr ∧ d'.cr ≤ (t + 1 : Nat)) ∧ (0 ≤ d'.cw ∧ d'.cw ≤ (t + 1 : Nat)) ∧ (0 ≤ d'.cs ∧ d'.cs ≤ (t + 1 : Nat)) ∧ (d'.armed = true → 0 ≤ d'.left ∧ d'.left ≤ 9223372036854775807) ∧ its.length ≤ 2 * (t + 1) ∧ its.length + 1 ≤ 2 * (t + 1) ∧ its.length < 4398046511103) := hidden (by
    have a1 := h.n1
    have a2 := h.n2
    have a3 := h.n3
    have a4 := h.n4
    have a5 := h.n5
    refine ⟨by rw [m2]; omega, ⟨by omega, by omega⟩, ⟨by omega, by omega⟩, ⟨by omega, by omega⟩, by rw [m6, m7]; exact h.n6, by omega, by omega, by omega⟩)
  have HN : Hid (¬ F w.heap.size ∧ ¬ G w.heap.size) := hidden ⟨fun e => by have := (h.hF _ e).2; omega, fun e => by have := (h.hG _ e).2.1; omega⟩
  clear h hS1 hS2 htw m2 m3 m4 m5 m6 m7
  go_enter Try.func8, Try.ntmps8
  go_wp2_with fail
  go_region_with (go_at_call 18; refine (HS.out _).mono ?_; rintro e u ⟨w1, hP, hz, hW, hn2, y, hy, rfl, hyc, hD, hC⟩; have HD := hidden hD; have HC := hidden hC; have HP := hidden hP; have HW := hidden hW; have HYC := hidden hyc; have HY := hidden hy; replace hn2 := hidden hn2; clear hD hC hP hW hyc hy)
  all_goals
    obtain ⟨a1, ca, hcv, hsa, hya⟩ := cv_sl (w := u) (y := y) (by rw [HY.out]; exact HYC.out.imp (fun h => h) fun ⟨g, e, _, h1, h2, h3⟩ => ⟨g, e, h1, h2, h3⟩)
    have hll : y.2.length = l.length := by rw [HY.out]
    rw [hcv, hll]
    have HCV := hidden hcv
    have HSA := hidden hsa
    have HYA := hidden hya
    clear hcv hsa hya
    have k1 := HP.out.cell1 HC.out HP.out.nF
    have kn : u.cell? ⟨w.heap.size, 2, none⟩ = some (.int .i64 n) := (World.cell?_of_block (a := ⟨w.heap.size, 2, none⟩) (HC.out.block _ hz HN.out.1)).trans (hn2.out.trans (by simp))
    have HS3 := hidden (HS2.out u.drew ((HP.out.rv.ch HC.out fun k _ hg hf => (HP.out.hG k hg).2.2 hf).ch (Ch.dr (fun _ => False) u) fun _ _ _ e => e))
    clear HS HS2 k0 hn2
    go_wp2_with fail
    go_region_with (go_at_call 25; refine HS3.out.mono ?_; rintro e u2 ⟨a2, c2, rfl, hsb, hfr, hD, hC⟩; have HSB := hidden hsb; have HFR := hidden hfr; have HD2 := hidden hD; have HC2 := hidden hC; clear hD hC hsb hfr)
  all_goals
    obtain ⟨q1, q2, q3, q4, q5, q6, q7, q8⟩ := HM.out
    obtain ⟨hQ, hQC⟩ := HP.out.both (t' := t + 1) HD.out.dr (HC.out.trans (Ch.dr F _) fun _ _ h => h) (fun k hk => .inl hk) HD2.out HC2.out (fun k hk => .inl hk) HT.out q6 q1 q2 q3 q4 q5
    have s1 : w1.heap.size ≤ u.heap.size := HC.out.size
    have hcu : Ch G u u2 := (Ch.dr G u).trans HC2.out fun _ _ h => h
    have hga : ∀ g, a1 = some g → w1.heap.size ≤ g.block := fun g hg => by
      have e := HYA.out g hg
      rcases HYC.out with ⟨e0, _⟩ | ⟨g', e', h', _⟩
      · rw [e0] at e; cases e
      · rw [e'] at e; injection e with e; omega
    have sa2 : Sl u2 a1 l.length ca l := by
      have h0 := HSA.out.chg hcu (fun g hg e => by have := (HP.out.hG _ e).2.1; have := hga g hg; omega)
      rw [HY.out] at h0
      exact h0
    have hT := told_yes u2 B x its.length _ _ vC vW _ _ a1 a2 l.length ca c2 l hQ.pc sa2 HSB.out (fun g hg e => by have := (HP.out.hP _ e).2.1; have := hga g hg; omega) (fun g hg e => by have := (HP.out.hP _ e).2.1; have h9 : u.heap.size ≤ g.block := HFR.out g hg; omega) q8
    have HYQ : Hid ((y.1 = none ∧ y.2 = []) ∨ ∃ g, y.1 = some g ∧ Pg P w1 u2 g ∧ ¬ F g ∧ ¬ G g ∧ ¬ M g ∧ ¬ Pb x vC vW g ∧ u2.heap[g]? = some (.cells (By y.2).toArray 5 (0, 0)) ∧ Wf y.2 ∧ y.2.length ≤ 67108864) := hidden (by
      rw [HY.out]
      refine HYC.out.imp (fun h => h) fun ⟨g, e, h1, h2, h3, h4⟩ => ?_
      have nG : ¬ G g := fun e => by have := (HP.out.hG _ e).2.1; omega
      have hr := (hcu.block g (lt_of_some h2) nG).trans h2
      exact ⟨g, e, .inr ⟨h1, lt_of_some hr⟩, fun e => by have := (HP.out.hF _ e).2; omega, nG, fun e => by have := (HP.out.hM _ e).2.1; omega, fun e => by have := (HP.out.hP _ e).2.1; omega, hr, h3, h4⟩)
    have HQ := hidden hQ
    have HQC := hidden hQC
    clear hQ hQC hcu hga sa2 q1 q2 q3 q4 q5 q6 q8 k1 HS3
    go_wp2_with (go_at_call 26; refine hT.mono ?_; rintro e u3 ⟨rfl, vC', vW', hp3, hc3, hb3⟩; have HP3 := hidden hp3; have HC3 := hidden hc3; have HB3 := hidden hb3; clear hp3 hc3 hb3; refine Hid.out ?_)
    apply hidden
    clear hT
    obtain ⟨N, hE, hEC⟩ := HQ.out.tell y HYQ.out (by rw [HCV.out, hll, show ct y = .string (strOfNums l) by unfold ct; rw [HY.out]]; exact HP3.out) HC3.out HB3.out q7
    have HE := hidden hE
    have HEC := hidden hEC
    clear hE hEC
    go_wp2
    go_ret
    refine ⟨by first | rfl | simp, ⟨_, _, _, _, _, _, _, _, _, _, HE.out.weak (fun k hk => ?_) (Nat.le_refl _)⟩, ?_⟩
    · rcases hk with (e | e) | e
      · exact .inl e
      · exact .inr ⟨by omega, Nat.lt_of_lt_of_le e.2 HEC.out.size⟩
      · exact .inr ⟨Nat.le_trans (Nat.le_trans (Nat.le_of_lt hz) HQC.out.size) e.1, e.2⟩
    · refine (HW.out.trans HQC.out fun _ _ h => h).trans HC3.out fun k _ e => ?_
      exact (HP.out.hP k e).1
end Go.Proofs.Ytikpfcapnpppdaa
