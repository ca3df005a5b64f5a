/- Clone, Arm; the power that is armed. -/
import Derived.Test.YtikpfcapnpppdaaPl12
import Derived.Maps.AppendAt
import Derived.Lib.LazyBuf
namespace Go.Proofs.Ytikpfcapnpppdaa
open Go.RowKit

/-- Whole numbers that lie in blocks of G. -/
def Kf (w : World) (G : Nat → Prop) (ao : Option Addr) (n c : Nat) (l : List Int) : Prop := l.length = n ∧ n ≤ c ∧ n ≤ 17592186044416 ∧ (ao = none → c = 0) ∧ (n = 0 ∨ ∃ g off, ao = some ⟨g, off, none⟩ ∧ G g ∧ g < w.heap.size ∧ ∀ i, i < n → w.cell? ⟨g, off + i, none⟩ = some (.int .i64 (l.getD i 0)))

set_option maxRecDepth 100000 in
theorem getElem?_In (l : List Int) (j : Nat) (u : Value) (h : (In l)[j]? = some u) : j < l.length ∧ u = .int .i64 (l.getD j 0) := by
  have hj : j < l.length := by
    have := (List.getElem?_eq_some_iff.1 h).1
    simpa [In] using this
  refine ⟨hj, ?_⟩
  simp [In, List.getElem?_eq_getElem hj] at h
  simp [List.getD, List.getElem?_eq_getElem hj, ← h]
set_option maxRecDepth 100000 in
theorem In_one (b : List Int) : ∀ u ∈ In b, u.oneCell' = true := ints_oneCell .i64 b

set_option maxRecDepth 100000 in
theorem Clone_any (w : World) (ao : Option Addr) (n c : Nat) (l : List Int) (h : Ks w ao n l) (hn : n ≤ 17592186044416) (hnil : ao = none → n = 0 ∧ c = 0) : Calls Try.prog 61 #[.slice ao n c] w fun e w' => ∃ ao' c', e = .returned (.slice ao' n c') ∧ Kf w' (fun k => w.heap.size ≤ k) ao' n c' l ∧ Below w.heap.size w w' := by
  cases ao with
  | none =>
    obtain ⟨rfl, rfl⟩ := hnil rfl
    have hl := h.hlen
    have kE : (binOp .eql 36 (.slice none 0 0) (.slice none 0 0)).run Try.prog w = .ok (.bool true) w := run_eql_slice_nil w 36 3 none 0 0 Try.underlying36
    clear h hnil
    go_enter Try.func61, Try.ntmps61
    go_wp2
    go_ret
    exact ⟨none, 0, rfl, ⟨hl, Nat.le_refl _, by omega, fun _ => rfl, .inl rfl⟩, Below.refl _ _⟩
  | some ad =>
    obtain ⟨i0, hi, hz0, hz1, hz2⟩ := info_parts infoI
    have hl := h.hlen
    have HSRC : Hid (∀ j u, (In l)[j]? = some u → (w.alloc (.cells #[] 3 (0, 0))).cell? (ad.add j) = some u) := hidden fun j u hu => by
      obtain ⟨h1, rfl⟩ := getElem?_In l j u hu
      rcases h.hat with h0 | ⟨b, off, e, hb, hc⟩
      · omega
      · injection e with e
        subst e
        rw [Addr.add_lit, World.cell?_of_block (w := w) (a := ⟨b, off + j, none⟩) (Below.heap_alloc _ _ _ hb)]
        exact hc j (by omega)
    have HOWN : Hid ((w.alloc (.cells #[] 3 (0, 0))).ownsRow w.heap.size 3 1 (.slice (some ⟨w.heap.size, 0, none⟩) 0 0) 0 []) := hidden ⟨rfl, .inr ⟨w.heap.size, 0, #[], rfl, Nat.le_refl _, by show (w.heap.push _)[w.heap.size]? = _; simp, Nat.le_refl _, by unfold maxLen; omega, rfl, rfl⟩⟩
    have HL := hidden hl
    have kE : (binOp .eql 36 (.slice (some ad) n c) (.slice none 0 0)).run Try.prog w = .ok (.bool false) w := run_eql_slice_nil w 36 3 (some ad) n c Try.underlying36
    clear h hnil hl
    go_enter Try.func61, Try.ntmps61
    go_wp2_with (refine wpList_append_own _ rfl _ _ 36 rfl w.heap.size 3 i0 (.int .i64 0) 1 8 Try.underlying36 hi hz0 hz1 hz2 rfl (by decide) (.slice (some ⟨w.heap.size, 0, none⟩) 0 0) 0 [] rfl HOWN.out ad n c (In l) rfl (by rw [In_length, HL.out, Nat.mul_one]) HSRC.out (In_one l) (by unfold maxLen; omega) (by omega) (by simp) ?_)
    intro v' w' h1 h2 _
    have hb : Below w.heap.size w w' := ((Below.refl _ _).alloc (Nat.le_refl _) _).trans ((Below.refl _ _).grown h2 (by simp) (fun k hk => Nat.le_of_eq (by simpa [Value.ownBlock] using hk)))
    replace h1 : w'.ownsRow w.heap.size 3 1 v' n (In l) := by simpa using h1
    obtain ⟨ao', c', hv, hkf⟩ : ∃ ao' c', v' = .slice ao' n c' ∧ Kf w' (fun k => w.heap.size ≤ k) ao' n c' l := by
      rcases h1.2 with ⟨hv, h0⟩ | ⟨g, cap, cur, hv, g1, g2, g3, _⟩
      · exact ⟨none, 0, by rw [hv, h0], HL.out, by omega, hn, fun _ => rfl, .inl h0⟩
      · refine ⟨some ⟨g, 0, none⟩, cap, hv, HL.out, g3, hn, (by intro h; cases h), .inr ⟨g, 0, rfl, g1, lt_of_some g2, fun i hi => ?_⟩⟩
        subst hv
        rw [Nat.zero_add, World.ownsRow.cellAt h1 i (by omega)]
        exact getD_In _ _ (by rw [HL.out]; exact hi)
    subst hv
    have HKF := hidden hkf
    have HB := hidden hb
    clear h1 h2 hb hkf HSRC HOWN kE
    go_wp2
    go_ret
    exact ⟨_, _, rfl, HKF.out, HB.out⟩

set_option maxRecDepth 100000 in
theorem fails_more (w : World) (F : Nat → Prop) (a : Nat) (d : D) (h : Dv w F a d) (hd : d.armed = true) (h0 : 0 < d.left) (h1 : d.left ≤ 9223372036854775807) : Calls Try.prog 44 #[.pointer (some ⟨a, 0, none⟩)] w fun e w' => e = .returned (.bool false) ∧ Dv w' F a { d with left := d.left - 1 } ∧ Ch F w w' ∧ w'.heap.size = w.heap.size := by
  obtain ⟨bs, bl, vL, vK, hc, hf, hr, ha⟩ := h.c
  have c9 : w.cell? ⟨a, 9, none⟩ = some (.bool d.armed) := hc 9
  rw [hd] at c9
  have c10 : w.cell? ⟨a, 10, none⟩ = some (.int .i64 d.left) := hc 10
  have f10 := hf 10
  have HR := hidden hr
  have HA := hidden ha
  clear hc hf hr ha h
  generalize hL : d.left = L at *
  go_enter Try.func44, Try.ntmps44
  go_wp2
  go_ret
  exact ⟨rfl, ⟨bs, bl, vL, vK, heap_setCell_self HA.out, HR.out.self (lt_of_some HA.out) 10 _⟩, Ch.setCell w HR.out.fa _, by simp [World.setCell]⟩

set_option maxRecDepth 100000 in
theorem Ke.ks {w : World} {F : Nat → Prop} {a bs bl : Nat} {vL vK : Value} {l : List Int} (h : Ke w F a bs bl vL vK l) : ∃ ao n c, vK = .slice ao n c ∧ Ks w ao n l := by
  obtain ⟨ao, n, c, e, h1, h2, h3, h4, h5⟩ := h
  refine ⟨ao, n, c, e, h1, h3, ?_⟩
  rcases h5 with h5 | ⟨g, off, e, g1, g2, g3, g4, g7, g5, g6⟩
  · exact .inl h5
  · exact .inr ⟨g, off, e, g5, g6⟩

set_option maxRecDepth 100000 in
theorem fails_now (w : World) (F : Nat → Prop) (a : Nat) (d : D) (h : Dv w F a d) (hF : ∀ k, F k → k < w.heap.size) (hd : d.armed = true) (h0 : d.left = 0) : Calls Try.prog 44 #[.pointer (some ⟨a, 0, none⟩)] w fun e w' => e = .returned (.bool true) ∧ Dv w' F a (d.fallen d.keep d.torn d.tat) ∧ Ch F w w' := by
  obtain ⟨bs, bl, vL, vK, hc, hf, hr, ha⟩ := h.c
  obtain ⟨ao, n, c, eK, hks⟩ := hr.ke.ks
  have c9 : w.cell? ⟨a, 9, none⟩ = some (.bool d.armed) := hc 9
  rw [hd] at c9
  have c10 : w.cell? ⟨a, 10, none⟩ = some (.int .i64 d.left) := hc 10
  rw [h0] at c10
  have c11 : w.cell? ⟨a, 11, none⟩ = some (.slice ao n c) := by rw [← eK]; exact hc 11
  have c12 : w.cell? ⟨a, 12, none⟩ = some (.int .i64 d.torn) := hc 12
  have c13 : w.cell? ⟨a, 13, none⟩ = some (.int .i64 d.tat) := hc 13
  have hfa := fall_any w F a d ao n c d.keep d.torn d.tat h hks hF
  clear hc hf hr ha h eK hks hF
  go_enter Try.func44, Try.ntmps44
  go_wp2_with (go_at_call 48; refine hfa.mono ?_; rintro e w2 ⟨rfl, hD2, hC2⟩; replace hD2 := hidden hD2; replace hC2 := hidden hC2; refine Hid.out ?_)
  apply hidden
  clear hfa
  go_wp2
  go_ret
  exact ⟨rfl, hD2.out, hC2.out⟩
end Go.Proofs.Ytikpfcapnpppdaa
