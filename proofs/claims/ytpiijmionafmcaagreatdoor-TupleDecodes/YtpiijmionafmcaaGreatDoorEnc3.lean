/- tuple.Encode: the walks of appendItem and appendItems. -/
import Derived.Test.YtpiijmionafmcaaGreatDoorEnc2
namespace Go.Proofs.YtpiijmionafmcaaGreatDoor
open Go.RowKit

set_option maxRecDepth 100000 in
/-- 'append(out, x)' of one byte, at a step of a region that draws its order. -/
theorem step_app1 {ops : Array Oper} {o : Oper} {a : Act} {w : World} {K : Act → World → Prop} {Q : Exit → Act → World → Prop} {E : Prop} (hgd : o.guard = none) (s x : Operand)
    (ho : o.op = .call { callee := .builtin .append, args := #[s, x], argTypes := #[22, 22] }) (B : Nat) (l : List Int) (y : Int) (v : Value) (g : Nat) (hs : a.eval s = v) (hx : a.eval x = .slice (some ⟨g, 0, none⟩) 1 1)
    (hown : OwnB w B v l) (hy : w.cell? ⟨g, 0, none⟩ = some (.int .u8 y)) (hb : l.length + 1 ≤ 140737488355328) (hbase : B ≤ w.heap.size)
    (h : ∀ v' w', OwnB w' B v' (l ++ [y]) → Gr w v w' v' → K (a.put o.dst v') w') :
    if Region.wanted o (yielded ops a.tmps) = true then Oper.wp Tryz.prog o a w K Q else E := by
  have hw : Region.wanted o (yielded ops a.tmps) = true := by simp [Region.wanted, hgd]
  rw [if_pos hw]
  obtain ⟨i0, hi, hz0, hz1, hz2⟩ := info_parts info5
  obtain ⟨v', w', hr, h1, h2, _, h4⟩ := run_append_own_at (P := Tryz.prog) w B 22 o.type 5 i0 (.int .u8 0) 1 1 Tryz.underlying22 hi hz0 hz1 hz2 rfl (by decide) v l.length (By l) hown ⟨g, 0, none⟩ 1 1 (By [y]) (by simp [By])
    (fun j u hu => by obtain ⟨h1, h2⟩ := getElem?_By [y] j u hu; obtain rfl : j = 0 := (by simp at h1; omega); rw [h2]; simpa [Addr.add] using hy) (By_one [y]) (by unfold maxLen; omega) (by omega) hbase
  have hfin := h v' w' (by unfold OwnB; rw [By_append, List.length_append]; exact h1) ⟨h2, h4.imp id fun e => ⟨_, e, Nat.le_refl _⟩⟩
  unfold Oper.wp
  simp [execOp, ho, resolve, invoke, builtin, hs, hx, hr, Result.andThen]
  exact hfin

/-- What appendItems does of items that lie in memory, in whatever world. -/
def AppIs (l : Its) (so : Option Addr) (m c : Nat) : Prop := ∀ (v : Value) (B : Nat) (b : List Int) (w : World), OwnB w B v b → B ≤ w.heap.size → SlI w (· < B) so m c l → Wf b → b.length ≤ 65537 → l.sz + 1000000 ≤ 140737488355328 →
    Calls Tryz.prog 19 #[v, .slice so m c] w fun e w' => ∃ v', e = .returned v' ∧ OwnB w' B v' (eI l b) ∧ Gr w v w' v'

set_option maxHeartbeats 1000000 in
set_option maxRecDepth 100000 in
theorem appendItem_of (k n : Int) (t : ByteArray) (so : Option Addr) (m c : Nat) (sub : Its) (v : Value) (B : Nat) (b : List Int) (w : World) (hw : OwnB w B v b) (hB : B ≤ w.heap.size) (hs : SlI w (· < B) so m c sub) (hn : -9223372036854775808 ≤ n ∧ n ≤ 9223372036854775807) (ht : t.size ≤ 140737488355328)
    (hb : Wf b) (hb0 : b.length ≤ 65537) (hl : sub.sz + 1000000 ≤ 140737488355328) (hk : 0 ≤ k ∧ k ≤ 7) (hsub : k = 7 → AppIs sub so m c) :
    Calls Tryz.prog 29 #[v, .agg #[.int .i64 k, .int .i64 n, .string t, .slice so m c]] w fun e w' => ∃ v', e = .returned v' ∧ OwnB w' B v' (e1 k n t sub b) ∧ Gr w v w' v' := by
  have b0 : ∀ o, Below B w (w.alloc o) := fun o => (Below.refl _ _).alloc hB o
  have hB1 : ∀ o, B ≤ (w.alloc o).heap.size := fun o => by simp; omega
  have Hw := hidden hw
  have Hs := hidden hs
  have Hsub := hidden hsub
  clear hw hs hsub
  by_cases h3 : k = 3
  · subst h3
    go_enter Tryz.func29, Tryz.ntmps29
    go_wp2_with (go_at_call 46; refine (appendInt_any n v B b _ (Hw.out.alloc _) (hB1 _) hn.1 hn.2 (by omega)).mono ?_; rintro e w1 ⟨v1, rfl, ho1, hb1⟩)
    go_ret
    exact ⟨_, rfl, by simpa [e1] using ho1, (Gr.alloc _ _ _).trans hb1⟩
  by_cases h4 : k = 4
  · subst h4
    have hfr : 0 ≤ frk n := by unfold frk; split <;> omega
    go_enter Tryz.func29, Tryz.ntmps29
    go_wp2_with (first | (go_at_call 35; refine same_call (floatRank_any _ _ hn.1 hn.2) ?_) | (go_at_call 47; refine (fixed_any (frk n) 8 _ hfr (by omega)).mono ?_; rintro e w1 ⟨v1, rfl, ho1, hb1⟩; have Ho := hidden ((Hw.out.alloc _).on (Nat.le_refl _) hb1); have Hv := hidden ho1; have hB2 : B ≤ w1.heap.size := (by have := hb1.size; have := hB1 (.cells #[.int .i64 4, .int .i64 n, .string t, .slice so m c] 36); omega); clear ho1) | (at_builtin; refine app_all _ rfl _ _ rfl B _ b (fB 8 (frk n)) _ _ rfl rfl Ho.out Hv.out (fB_wf _ _) (by simp [fB_length]; omega) hB2 ?_))
    intro v2 w2 ho2 hb2
    go_wp2
    go_ret
    exact ⟨_, rfl, by simpa [e1] using ho2, (Gr.alloc _ _ _).trans ((Gr.ofBelow _ hb1).trans hb2)⟩
  by_cases h56 : k = 5 ∨ k = 6
  · have e : e1 k n t sub b = b ++ txB t := by unfold e1; rw [if_neg h3, if_neg h4, if_pos h56]
    rw [e]
    have hcs : (cutT t).size ≤ 65536 := by rw [cutT_size]; omega
    have htx := txB_length t
    have Hx := hidden (show txB t = oB (bL (cutT t)) from rfl)
    obtain ⟨c1, W, hcv, hsl, hbw⟩ := conv_ex (w.alloc (.cells #[.int .i64 k, .int .i64 n, .string t, .slice so m c] 36)) (cutT t) (by omega)
    have Hsl := hidden hsl
    have Hbw := hidden hbw
    have HoW := hidden ((Hw.out.alloc _).on (Nat.le_refl _) hbw)
    have hBW : B ≤ W.heap.size := by have := hbw.size; have := hB1 (.cells #[.int .i64 k, .int .i64 n, .string t, .slice so m c] 36); omega
    clear hsl hbw
    have hsz : (w.alloc (.cells #[.int .i64 k, .int .i64 n, .string t, .slice so m c] 36)).heap.size = w.heap.size + 1 := by simp
    rw [hsz] at hcv Hsl
    have Hc := hidden (show t.extract 0 (min t.size 65536) = cutT t from rfl)
    have HC := hidden (cut_any t)
    rw [Hc.out] at HC
    generalize cutT t = u at *
    rcases h56 with rfl | rfl
    all_goals
      go_enter Tryz.func29, Tryz.ntmps29
      go_wp2_with (first | (go_at_call 49; refine same_call (HC.out _ ht) ?_) | (go_at_call 48; refine (ordered_any _ _ _ _ _ Hsl.out (by omega)).mono ?_; rintro e w1 ⟨v1, rfl, ho1, hb1⟩; have Ho := hidden (HoW.out.on (Nat.le_refl _) hb1); have Hv := hidden ho1; have hB2 : B ≤ w1.heap.size := (by have := hb1.size; omega); clear ho1) | (at_builtin; refine app_all _ rfl _ _ rfl B _ b (oB (bL u)) _ _ rfl rfl Ho.out Hv.out (oB_wf _ (bL_wf _)) (by rw [← Hx.out]; omega) hB2 ?_))
      intro v2 w2 ho2 hb2
      go_wp2
      go_ret
      exact ⟨_, rfl, by rw [Hx.out]; exact ho2, (Gr.alloc _ _ _).trans ((Gr.ofBelow _ Hbw.out).trans ((Gr.ofBelow _ hb1).trans hb2))⟩
  by_cases h7 : k = 7
  · subst h7
    have HS := hidden (Hsub.out rfl)
    have hel := eI_length sub b Hs.out.ok
    go_enter Tryz.func29, Tryz.ntmps29
    go_wp2_with (first | (go_at_call 19; refine (HS.out v B b _ (Hw.out.alloc _) (hB1 _) (Hs.out.onB (b0 _)) hb hb0 hl).mono ?_; rintro e w1 ⟨v1, rfl, ho1, hb1⟩; have Ho := hidden ho1; have hB2 : B ≤ w1.heap.size := (by have := hb1.grow.size; have := hB1 (.cells #[.int .i64 7, .int .i64 n, .string t, .slice so m c] 36); omega); clear ho1) | (at_builtin; refine app_all _ rfl _ _ rfl B w1.heap.size (eI sub b) [0] _ _ rfl rfl (Ho.out.alloc _) (one_own _ _) (Wf.cons (by omega) Wf.nil) (by simp; omega) (by simp; omega) ?_))
    intro v2 w2 ho2 hb2
    go_wp2
    go_ret
    exact ⟨_, rfl, by simpa [e1] using ho2, (Gr.alloc _ _ _).trans (hb1.trans ((Gr.alloc _ _ _).trans hb2))⟩
  · have h5 : ¬ k = 5 := fun h => h56 (.inl h)
    have h6 : ¬ k = 6 := fun h => h56 (.inr h)
    go_enter Tryz.func29, Tryz.ntmps29
    go_wp2
    go_ret
    exact ⟨_, rfl, by simpa [e1, h3, h4, h5, h6, h7] using Hw.out.alloc _, Gr.alloc _ _ _⟩
end Go.Proofs.YtpiijmionafmcaaGreatDoor
