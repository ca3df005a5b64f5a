/- unicode/utf8.word of bytes: the number that eight bytes spell; bytes in memory as those of a text. -/
import Derived.Test.YtpiijmionafmcaaGreatDoorTuS
import Derived.Lib.EndianBits
import Derived.Deep.QuietTactic
import Derived.BigQuiet
import Derived.Deep.LoopGhost
import Derived.Deep.DeepCutAuto
namespace Go.Proofs.YtpiijmionafmcaaGreatDoor
open Go.RowKit Go.Shelf

/-- From a place on there lie these bytes. -/
def Bs (w : World) (b off : Nat) (t : ByteArray) : Prop := ∀ i, i < t.size → w.cell? ⟨b, off + i, none⟩ = some (.int .u8 ((t.get! i).toNat : Int))
set_option maxRecDepth 100000 in
theorem ext_get (t : ByteArray) (k i : Nat) : (t.extract k t.size).get! i = t.get! (k + i) := by
  rw [← Lib.getD_get!', ← Lib.getD_get!', Lib.ext_list]
  simp [List.getD_eq_getElem?_getD, List.getElem?_drop]
set_option maxRecDepth 100000 in
theorem Bs.skip {w : World} {b off : Nat} {t : ByteArray} (h : Bs w b off t) (k : Nat) : Bs w b (off + k) (t.extract k t.size) := by
  intro i hi
  rw [Lib.ext_size] at hi
  rw [ext_get, show off + k + i = off + (k + i) by omega]
  exact h (k + i) (by omega)
set_option maxRecDepth 100000 in
theorem Bs.on {w u : World} {b off : Nat} {t : ByteArray} (h : Bs w b off t) (hb : b < w.heap.size) (hu : Below w.heap.size w u) : Bs u b off t := fun i hi => (hu.cell (p := ⟨b, off + i, none⟩) hb).trans (h i hi)
def wd8 (t : ByteArray) : Nat := Lib.leNat [t.get! 0, t.get! 1, t.get! 2, t.get! 3, t.get! 4, t.get! 5, t.get! 6, t.get! 7]
set_option maxHeartbeats 8000000 in
set_option maxRecDepth 100000 in
theorem word_any (b off n : Nat) (t : ByteArray) (w : World) (h : Bs w b off t) (hn : t.size = n) (h8 : 8 ≤ n) :
    Calls Tryz.prog 87 #[.slice (some ⟨b, off, none⟩) n n] w fun e w' => e = .returned (.int .u64 (wd8 t : Nat)) ∧ ∃ q, w' = w.drewN q := by
  subst hn
  unfold wd8
  have c0 := h 0 (by omega)
  rw [Nat.add_zero] at c0
  have c1 := h 1 (by omega)
  have c2 := h 2 (by omega)
  have c3 := h 3 (by omega)
  have c4 := h 4 (by omega)
  have c5 := h 5 (by omega)
  have c6 := h 6 (by omega)
  have c7 := h 7 (by omega)
  clear h
  have h0 := (t.get! 0).toNat_lt
  have h1 := (t.get! 1).toNat_lt
  have h2 := (t.get! 2).toNat_lt
  have h3 := (t.get! 3).toNat_lt
  have h4 := (t.get! 4).toNat_lt
  have h5 := (t.get! 5).toNat_lt
  have h6 := (t.get! 6).toNat_lt
  have h7 := (t.get! 7).toNat_lt
  generalize t.get! 0 = x0 at *
  generalize t.get! 1 = x1 at *
  generalize t.get! 2 = x2 at *
  generalize t.get! 3 = x3 at *
  generalize t.get! 4 = x4 at *
  generalize t.get! 5 = x5 at *
  generalize t.get! 6 = x6 at *
  generalize t.get! 7 = x7 at *
  have hv : ((Lib.leNat [x0, x1, x2, x3, x4, x5, x6, x7] : Nat) : Int) = (x0.toNat : Int) + (x1.toNat : Int) * 256 + (x2.toNat : Int) * 65536 + (x3.toNat : Int) * 16777216 + (x4.toNat : Int) * 4294967296 + (x5.toNat : Int) * 1099511627776 + (x6.toNat : Int) * 281474976710656 + (x7.toNat : Int) * 72057594037927936 := by
    simp only [Lib.leNat]
    push_cast
    omega
  obtain ⟨m, hm⟩ : ∃ m, t.size = m + 8 := ⟨t.size - 8, by omega⟩
  rw [hm]
  clear hm h8
  go_enter Tryz.func87, Tryz.ntmps87
  go_wp2
  go_quiet (fail)
  go_wp2
  go_ret
  refine ⟨?_, _, rfl⟩
  simp (disch := omega) only [u64_or8, u64_or16, u64_or24, u64_or32, u64_or40, u64_or48, u64_or56]
  rw [hv]
  rfl
/-- From a place on there lie N bytes, which are letters as ANS says. -/
def Sk (w : World) (b off N : Nat) (A : Bool) : Prop := ∃ t : ByteArray, t.size = N ∧ Lib.validD t.data.toList = A ∧ Bs w b off t
set_option maxRecDepth 100000 in
theorem Sk.skip {w : World} {b off N : Nat} {A : Bool} {t : ByteArray} (ht : t.size = N) (hv : Lib.validD t.data.toList = A) (hB : Bs w b off t) {k : Nat} (ha : Lib.Asc t k) : Sk w b (off + k) (N - k) A :=
  ⟨t.extract k t.size, by rw [Lib.ext_size, ht], by rw [Lib.valid_skip t k ha]; exact hv, hB.skip k⟩
set_option maxRecDepth 100000 in
theorem Sk.byte {w : World} {b off N : Nat} {A : Bool} (h : Sk w b off (N + 1) A) : ∃ x : Nat, x < 256 ∧ w.cell? ⟨b, off, none⟩ = some (.int .u8 (x : Int)) ∧ (x < 128 → Sk w b (off + 1) N A) := by
  obtain ⟨t, ht, hv, hB⟩ := h
  refine ⟨(t.get! 0).toNat, (t.get! 0).toNat_lt, by have := hB 0 (by omega); rwa [Nat.add_zero] at this, fun hx => ?_⟩
  have := Sk.skip ht hv hB (Lib.asc_one t (by omega) hx)
  rwa [Nat.add_sub_cancel] at this
set_option maxRecDepth 100000 in
/-- A word. -/
theorem Sk.word {w : World} {b off N : Nat} {A : Bool} (hb : b < w.heap.size) (h : Sk w b off (N + 8) A) : ∃ a : Nat, a < 18446744073709551616 ∧ (∀ u, Below w.heap.size w u → Calls Tryz.prog 87 #[.slice (some ⟨b, off, none⟩) (N + 8) (N + 8)] u fun e w' => e = .returned (.int .u64 (a : Int)) ∧ ∃ q, w' = u.drewN q) ∧ (a &&& 9259542123273814144 = 0 → Sk w b (off + 8) N A) := by
  obtain ⟨t, ht, hv, hB⟩ := h
  refine ⟨wd8 t, Lib.word_lt t, fun u hu => word_any b off _ t u (hB.on hb hu) ht (by omega), fun h0 => ?_⟩
  have := Sk.skip ht hv hB ((Lib.word_asc t (by omega)).1 h0)
  rwa [Nat.add_sub_cancel] at this
set_option maxRecDepth 100000 in
/-- Words one behind the other: each leads on if the ones ahead of it do. -/
theorem Sk.words2 {w : World} {b off N : Nat} {A : Bool} (hb : b < w.heap.size) (h : Sk w b off (N + 16) A) : ∃ a c : Nat, a < 18446744073709551616 ∧ c < 18446744073709551616 ∧ (∀ u, Below w.heap.size w u → Calls Tryz.prog 87 #[.slice (some ⟨b, off, none⟩) (N + 16) (N + 16)] u fun e w' => e = .returned (.int .u64 (a : Int)) ∧ ∃ q, w' = u.drewN q) ∧
    (∀ u, Below w.heap.size w u → Calls Tryz.prog 87 #[.slice (some ⟨b, off + 8, none⟩) (N + 8) (N + 8)] u fun e w' => e = .returned (.int .u64 (c : Int)) ∧ ∃ q, w' = u.drewN q) ∧ ((a ||| c) &&& 9259542123273814144 = 0 → Sk w b (off + 16) N A) := by
  obtain ⟨t, ht, hv, hB⟩ := h
  have h2 : (t.extract 8 t.size).size = N + 8 := by rw [Lib.ext_size, ht]; omega
  refine ⟨wd8 t, wd8 (t.extract 8 t.size), Lib.word_lt _, Lib.word_lt _, fun u hu => word_any b off _ t u (hB.on hb hu) ht (by omega), fun u hu => word_any b (off + 8) _ _ u ((hB.skip 8).on hb hu) h2 (by omega), fun h0 => ?_⟩
  obtain ⟨e1, e2⟩ := (Lib.or_mask _ _ _).1 h0
  have := Sk.skip ht hv hB (Lib.asc_add t 8 8 ((Lib.word_asc t (by omega)).1 e1) ((Lib.word_asc _ (by omega)).1 e2))
  rwa [Nat.add_sub_cancel] at this
set_option maxRecDepth 100000 in
theorem Sk.words4 {w : World} {b off N : Nat} {A : Bool} (hb : b < w.heap.size) (h : Sk w b off (N + 32) A) : ∃ a c d e : Nat, (a < 18446744073709551616 ∧ c < 18446744073709551616 ∧ d < 18446744073709551616 ∧ e < 18446744073709551616) ∧ (∀ u, Below w.heap.size w u → Calls Tryz.prog 87 #[.slice (some ⟨b, off, none⟩) (N + 32) (N + 32)] u fun e w' => e = .returned (.int .u64 (a : Int)) ∧ ∃ q, w' = u.drewN q) ∧
    (∀ u, Below w.heap.size w u → Calls Tryz.prog 87 #[.slice (some ⟨b, off + 8, none⟩) (N + 24) (N + 24)] u fun e w' => e = .returned (.int .u64 (c : Int)) ∧ ∃ q, w' = u.drewN q) ∧
    (∀ u, Below w.heap.size w u → Calls Tryz.prog 87 #[.slice (some ⟨b, off + 16, none⟩) (N + 16) (N + 16)] u fun e w' => e = .returned (.int .u64 (d : Int)) ∧ ∃ q, w' = u.drewN q) ∧
    (∀ u, Below w.heap.size w u → Calls Tryz.prog 87 #[.slice (some ⟨b, off + 24, none⟩) (N + 8) (N + 8)] u fun x w' => x = .returned (.int .u64 (e : Int)) ∧ ∃ q, w' = u.drewN q) ∧ (((a ||| c) ||| (d ||| e)) &&& 9259542123273814144 = 0 → Sk w b (off + 32) N A) := by
  obtain ⟨t, ht, hv, hB⟩ := h
  have h2 : (t.extract 8 t.size).size = N + 24 := by rw [Lib.ext_size, ht]; omega
  have h3 : (t.extract 16 t.size).size = N + 16 := by rw [Lib.ext_size, ht]; omega
  have h4 : (t.extract 24 t.size).size = N + 8 := by rw [Lib.ext_size, ht]; omega
  refine ⟨wd8 t, wd8 (t.extract 8 t.size), wd8 (t.extract 16 t.size), wd8 (t.extract 24 t.size), ⟨Lib.word_lt _, Lib.word_lt _, Lib.word_lt _, Lib.word_lt _⟩, fun u hu => word_any b off _ t u (hB.on hb hu) ht (by omega), fun u hu => word_any b (off + 8) _ _ u ((hB.skip 8).on hb hu) h2 (by omega), fun u hu => word_any b (off + 16) _ _ u ((hB.skip 16).on hb hu) h3 (by omega), fun u hu => word_any b (off + 24) _ _ u ((hB.skip 24).on hb hu) h4 (by omega), fun h0 => ?_⟩
  obtain ⟨e01, e23⟩ := (Lib.or_mask _ _ _).1 h0
  obtain ⟨e0, e1⟩ := (Lib.or_mask _ _ _).1 e01
  obtain ⟨e2, e3⟩ := (Lib.or_mask _ _ _).1 e23
  have s16 : Lib.Asc t 16 := Lib.asc_add t 8 8 ((Lib.word_asc t (by omega)).1 e0) ((Lib.word_asc _ (by omega)).1 e1)
  have s24 : Lib.Asc t 24 := Lib.asc_add t 16 8 s16 ((Lib.word_asc _ (by omega)).1 e2)
  have := Sk.skip ht hv hB (Lib.asc_add t 24 8 s24 ((Lib.word_asc _ (by omega)).1 e3))
  rwa [Nat.add_sub_cancel] at this
set_option maxRecDepth 100000 in
/-- A letter of several bytes: what is asked of them, and where it leads. -/
theorem Sk.lead {w : World} {b off N : Nat} {A : Bool} (h : Sk w b off (N + 1) A) : ∃ x x1 x2 x3 : Nat, (x < 256 ∧ x1 < 256 ∧ x2 < 256 ∧ x3 < 256) ∧ w.cell? ⟨b, off, none⟩ = some (.int .u8 (x : Int)) ∧ (1 < N + 1 → w.cell? ⟨b, off + 1, none⟩ = some (.int .u8 (x1 : Int))) ∧ (2 < N + 1 → w.cell? ⟨b, off + 2, none⟩ = some (.int .u8 (x2 : Int))) ∧ (3 < N + 1 → w.cell? ⟨b, off + 3, none⟩ = some (.int .u8 (x3 : Int))) ∧
    (x < 128 → Sk w b (off + 1) N A) ∧ (128 ≤ x → (Lib.checkN (N + 1) x1 x2 x3 (Lib.firstT x % 8) (Lib.accLo (Lib.firstT x / 16)) (Lib.accHi (Lib.firstT x / 16)) = none → A = false) ∧ ∀ k, Lib.checkN (N + 1) x1 x2 x3 (Lib.firstT x % 8) (Lib.accLo (Lib.firstT x / 16)) (Lib.accHi (Lib.firstT x / 16)) = some k → Sk w b (off + k) (N + 1 - k) A) := by
  obtain ⟨x, hx, hc, hs⟩ := h.byte
  obtain ⟨t, ht, hv, hB⟩ := h
  have e0 : (t.get! 0).toNat = x := by
    have h1 := hB 0 (by omega)
    rw [Nat.add_zero, hc] at h1
    simp at h1
    omega
  refine ⟨x, (t.get! 1).toNat, (t.get! 2).toNat, (t.get! 3).toNat, ⟨hx, (t.get! 1).toNat_lt, (t.get! 2).toNat_lt, (t.get! 3).toNat_lt⟩, hc, fun h1 => hB 1 (by omega), fun h1 => hB 2 (by omega), fun h1 => hB 3 (by omega), hs, fun hge => ?_⟩
  have hne : t.data.toList ≠ [] := fun h => by
    have := Lib.size_eq t
    rw [h, List.length_nil] at this
    omega
  have hlead := Lib.validD_lead t.data.toList hne (by rw [Lib.getD_get!', e0]; exact hge)
  rw [Lib.getD_get!', Lib.getD_get!', Lib.getD_get!', Lib.getD_get!', e0, ← Lib.size_eq, hv, ht] at hlead
  refine ⟨fun hn => ?_, fun k hk => ?_⟩
  · rw [hn] at hlead
    exact hlead
  · rw [hk] at hlead
    exact ⟨t.extract k t.size, by rw [Lib.ext_size, ht], by rw [Lib.ext_list]; exact hlead.symm, hB.skip k⟩
end Go.Proofs.YtpiijmionafmcaaGreatDoor

/- unicode/utf8.Valid of bytes. -/

namespace Go.Proofs.YtpiijmionafmcaaGreatDoor
open Go.RowKit Go.Shelf

set_option maxRecDepth 100000 in
theorem Sk.on {w u : World} {b off N : Nat} {A : Bool} (h : Sk w b off N A) (hb : b < w.heap.size) (hu : Below w.heap.size w u) : Sk u b off N A := by
  obtain ⟨t, ht, hv, hB⟩ := h
  exact ⟨t, ht, hv, hB.on hb hu⟩
set_option maxRecDepth 100000 in
theorem Sk.zero {w : World} {b off : Nat} {A : Bool} (h : Sk w b off 0 A) : A = true ∧ ∀ o, Sk w b o 0 A := by
  obtain ⟨t, ht, hv, hB⟩ := h
  have ht0 : t.data.toList = [] := List.eq_nil_of_length_eq_zero (by rw [← Lib.size_eq]; omega)
  refine ⟨by rw [← hv, ht0, Lib.validD_nil], fun o => ⟨t, ht, hv, fun i hi => by omega⟩⟩
set_option maxRecDepth 100000 in
theorem Sk.at0 {w : World} {b off m : Nat} {A : Bool} (h : Sk w b off m A) (hm : m = 0) (o : Nat) : Sk w b o 0 A := by
  subst hm
  exact h.zero.2 o
set_option maxHeartbeats 16000000 in
set_option maxRecDepth 1000000 in
theorem valid_any (b off N cap : Nat) (A : Bool) (w : World) (hb : b < w.heap.size) (hk : Sk w b off N A) (hN : N ≤ 140737488355328) (hc : N ≤ cap) (hT : Tb w) :
    Calls Tryz.prog 66 #[.slice (some ⟨b, off, none⟩) N cap] w fun e w' => e = .returned (.bool A) ∧ Below w.heap.size w w' := by
  have HK := hidden hk
  clear hk
  go_enter Tryz.func66, Tryz.ntmps66
  go_wp2_with fail
  go_loopg [0] (N + 1) (fun gk s0 wr => Hid (Below w.heap.size w wr) ∧ ∃ o n, s0 = .slice (some ⟨b, o, none⟩) n n ∧ Hid (Sk w b o n A) ∧ n < gk ∧ n ≤ 140737488355328)
  case atStart => exact ⟨hidden (Below.refl _ _), off, N, rfl, HK, by omega, hN⟩
  case round =>
    obtain ⟨HB, o, n, rfl, HS, hg, hn⟩ := hrel
    clear HK hN hc
    by_cases h0 : 0 < n
    · obtain ⟨g', rfl⟩ : ∃ g', gk = g' + 1 := ⟨gk - 1, by omega⟩
      obtain ⟨m, rfl⟩ : ∃ m, n = m + 1 := ⟨n - 1, by omega⟩
      obtain ⟨x, hx, hcx, hs1⟩ := HS.out.byte
      replace hcx := (HB.out.cell (p := ⟨b, o, none⟩) hb).trans hcx
      by_cases ha : x < 128
      · as_aux_lemma =>
        have haI : (x : Int) < 128 := by omega
        have H1 := hidden (hs1 ha)
        clear hs1
        by_cases c8 : 8 < m
        · obtain ⟨k, rfl⟩ : ∃ k, m = k + 8 := ⟨m - 8, by omega⟩
          obtain ⟨a, la, cW, ka⟩ := H1.out.word hb
          have hand : bits .and .u64 (a : Int) 9259542123273814144 = ((a &&& 9259542123273814144 : Nat) : Int) := u64_and_nat a 9259542123273814144 la (by omega)
          obtain ⟨Z, hZ⟩ : ∃ Z, a &&& 9259542123273814144 = Z := ⟨_, rfl⟩
          rw [hZ] at hand ka
          have CW := hidden cW
          have KA := hidden ka
          clear cW ka hZ la HS
          have k0 : ¬ k = 0 := by omega
          have k8 : (8 : Int) < ((k + 8 : Nat) : Int) := by omega
          by_cases hz : Z = 0
          · have hzb : ((Z : Int) == 0) = true := by simp [hz]
            have H2 := hidden (KA.out hz)
            go_wp2_with (go_at_call 87; refine (CW.out wr HB.out).mono ?_; rintro e u ⟨rfl, q1, rfl⟩; refine Hid.out ?_)
            apply hidden
            have HB1 := hidden (below_draws HB.out q1)
            generalize wr.drewN q1 = wq at *
            clear CW KA HB hcx H1
            by_cases c16 : 16 < k
            · obtain ⟨j, rfl⟩ : ∃ j, k = j + 16 := ⟨k - 16, by omega⟩
              obtain ⟨a2, a3, l2, l3, cW2, cW3, k2⟩ := H2.out.words2 hb
              have hor2 : bits .or .u64 (a2 : Int) (a3 : Int) = ((a2 ||| a3 : Nat) : Int) := u64_or_nat a2 a3 l2 l3
              have lor2 : a2 ||| a3 < 18446744073709551616 := Nat.or_lt_two_pow (n := 64) l2 l3
              have hand2 : bits .and .u64 ((a2 ||| a3 : Nat) : Int) 9259542123273814144 = (((a2 ||| a3) &&& 9259542123273814144 : Nat) : Int) := u64_and_nat _ 9259542123273814144 lor2 (by omega)
              obtain ⟨O2, hO2⟩ : ∃ O2, a2 ||| a3 = O2 := ⟨_, rfl⟩
              rw [hO2] at hor2 hand2 k2
              obtain ⟨Z2, hZ2⟩ : ∃ Z2, O2 &&& 9259542123273814144 = Z2 := ⟨_, rfl⟩
              rw [hZ2] at hand2 k2
              have CW2 := hidden cW2
              have CW3 := hidden cW3
              have K2 := hidden k2
              clear lor2 hO2 hZ2 cW2 cW3 k2 l2 l3
              have j0 : ¬ j = 0 := by omega
              have j16b : decide ((16 : Int) < (j : Int) + 16) = true := decide_eq_true (by omega)
              have j16 : (16 : Int) < (j : Int) + 16 := by omega
              by_cases hz2 : Z2 = 0
              · have hz2b : ((Z2 : Int) == 0) = true := by simp [hz2]
                have H3 := hidden (K2.out hz2)
                go_wp2_with fail
                go_quiet (first | (go_at_call 87; with_reducible exact Calls.quiet_of (CW2.out _ (below_draws HB1.out _))) | (go_at_call 87; with_reducible exact Calls.quiet_of (CW3.out _ (below_draws HB1.out _))))
                have HB2 := hidden (below_draws HB1.out nq)
                generalize wq.drewN nq = wq2 at *
                clear CW2 CW3 K2 HB1 H2
                go_wp2_with fail
                go_loopg [0] (j + 1) (fun g2 s0 wr => Hid (Below w.heap.size w wr) ∧ ∃ o n, s0 = .slice (some ⟨b, o, none⟩) n n ∧ Hid (Sk w b o n A) ∧ n < g2 ∧ n ≤ j)
                case atStart => exact ⟨HB2, _, _, rfl, H3, by omega, by omega⟩
                case round =>
                 as_aux_lemma =>
                  obtain ⟨HB3, o3, n3, rfl, HS3, hg3, hn3⟩ := hrel
                  clear HB2 H3
                  by_cases c32 : 32 < n3
                  · obtain ⟨g3, rfl⟩ : ∃ g3, gk = g3 + 1 := ⟨gk - 1, by omega⟩
                    obtain ⟨i, rfl⟩ : ∃ i, n3 = i + 32 := ⟨n3 - 32, by omega⟩
                    obtain ⟨b0, b1, b2, b3, ⟨l0, l1, l2, l3⟩, cB0, cB1, cB2, cB3, k3⟩ := HS3.out.words4 hb
                    have ho1 : bits .or .u64 (b0 : Int) (b1 : Int) = ((b0 ||| b1 : Nat) : Int) := u64_or_nat b0 b1 l0 l1
                    have ho2 : bits .or .u64 (b2 : Int) (b3 : Int) = ((b2 ||| b3 : Nat) : Int) := u64_or_nat b2 b3 l2 l3
                    have lo1 : b0 ||| b1 < 18446744073709551616 := Nat.or_lt_two_pow (n := 64) l0 l1
                    have lo2 : b2 ||| b3 < 18446744073709551616 := Nat.or_lt_two_pow (n := 64) l2 l3
                    have ho3 : bits .or .u64 ((b0 ||| b1 : Nat) : Int) ((b2 ||| b3 : Nat) : Int) = (((b0 ||| b1) ||| (b2 ||| b3) : Nat) : Int) := u64_or_nat _ _ lo1 lo2
                    have lo3 : (b0 ||| b1) ||| (b2 ||| b3) < 18446744073709551616 := Nat.or_lt_two_pow (n := 64) lo1 lo2
                    have hand3 : bits .and .u64 (((b0 ||| b1) ||| (b2 ||| b3) : Nat) : Int) 9259542123273814144 = ((((b0 ||| b1) ||| (b2 ||| b3)) &&& 9259542123273814144 : Nat) : Int) := u64_and_nat _ 9259542123273814144 lo3 (by omega)
                    obtain ⟨P1, hP1⟩ : ∃ P1, b0 ||| b1 = P1 := ⟨_, rfl⟩
                    obtain ⟨P2, hP2⟩ : ∃ P2, b2 ||| b3 = P2 := ⟨_, rfl⟩
                    rw [hP1, hP2] at ho3 hand3 k3
                    rw [hP1] at ho1
                    rw [hP2] at ho2
                    obtain ⟨P3, hP3⟩ : ∃ P3, P1 ||| P2 = P3 := ⟨_, rfl⟩
                    rw [hP3] at ho3 hand3 k3
                    obtain ⟨Z3, hZ3⟩ : ∃ Z3, P3 &&& 9259542123273814144 = Z3 := ⟨_, rfl⟩
                    rw [hZ3] at hand3 k3
                    have CB0 := hidden cB0
                    have CB1 := hidden cB1
                    have CB2 := hidden cB2
                    have CB3 := hidden cB3
                    have K3 := hidden k3
                    clear lo1 lo2 lo3 hP1 hP2 hP3 hZ3 cB0 cB1 cB2 cB3 k3 l0 l1 l2 l3
                    have i0 : ¬ i = 0 := by omega
                    have i32b : decide ((32 : Int) < (i : Int) + 32) = true := decide_eq_true (by omega)
                    have i32 : (32 : Int) < (i : Int) + 32 := by omega
                    by_cases hz3 : Z3 = 0
                    · have hz3b : ((Z3 : Int) == 0) = true := by simp [hz3]
                      have H4 := hidden (K3.out hz3)
                      go_wp2_with fail
                      go_quiet (first | (go_at_call 87; with_reducible exact Calls.quiet_of (CB0.out _ (below_draws HB3.out _))) | (go_at_call 87; with_reducible exact Calls.quiet_of (CB1.out _ (below_draws HB3.out _))) | (go_at_call 87; with_reducible exact Calls.quiet_of (CB2.out _ (below_draws HB3.out _))) | (go_at_call 87; with_reducible exact Calls.quiet_of (CB3.out _ (below_draws HB3.out _))))
                      go_wp2
                      go_roundg g3
                      case measure => omega
                      case rel => exact ⟨hidden (below_draws HB3.out _), _, _, rfl, H4, by omega, by omega⟩
                    · have hz3b : ((Z3 : Int) == 0) = false := by simp; omega
                      go_wp2_with fail
                      go_quiet (first | (go_at_call 87; with_reducible exact Calls.quiet_of (CB0.out _ (below_draws HB3.out _))) | (go_at_call 87; with_reducible exact Calls.quiet_of (CB1.out _ (below_draws HB3.out _))) | (go_at_call 87; with_reducible exact Calls.quiet_of (CB2.out _ (below_draws HB3.out _))) | (go_at_call 87; with_reducible exact Calls.quiet_of (CB3.out _ (below_draws HB3.out _))))
                      go_wp2
                      go_roundg g'
                      case measure => omega
                      case rel => exact ⟨hidden (below_draws HB3.out _), _, _, rfl, HS3, by omega, by omega⟩
                  · have c32I : ¬ (32 : Int) < (n3 : Int) := by omega
                    have c32b : decide ((32 : Int) < (n3 : Int)) = false := decide_eq_false c32I
                    go_wp2_with fail
                    go_quiet (fail)
                    go_wp2
                    go_roundg g'
                    case measure => omega
                    case rel => exact ⟨hidden (below_draws HB3.out _), _, _, rfl, HS3, by omega, by omega⟩
              · have hz2b : ((Z2 : Int) == 0) = false := by simp; omega
                go_wp2_with fail
                go_quiet (first | (go_at_call 87; with_reducible exact Calls.quiet_of (CW2.out _ (below_draws HB1.out _))) | (go_at_call 87; with_reducible exact Calls.quiet_of (CW3.out _ (below_draws HB1.out _))))
                go_wp2
                go_roundg g'
                case measure => omega
                case rel => exact ⟨hidden (below_draws HB1.out _), _, _, rfl, H2, by omega, by omega⟩
            · have c16I : ¬ (16 : Int) < (k : Int) := by omega
              have c16b : decide ((16 : Int) < (k : Int)) = false := decide_eq_false c16I
              go_wp2_with fail
              go_quiet (fail)
              go_wp2
              go_roundg g'
              case measure => omega
              case rel => exact ⟨hidden (below_draws HB1.out _), _, _, rfl, H2, by omega, by omega⟩
          · have hzb : ((Z : Int) == 0) = false := by simp; omega
            go_wp2_with (go_at_call 87; refine (CW.out wr HB.out).mono ?_; rintro e u ⟨rfl, q1, rfl⟩)
            go_roundg g'
            case measure => omega
            case rel => exact ⟨hidden (below_draws HB.out q1), _, _, rfl, H1, by omega, by omega⟩
        · have c8I : ¬ (8 : Int) < (m : Int) := by omega
          go_wp2
          all_goals
            go_roundg g'
            case measure => omega
            case rel => first | exact ⟨HB, _, _, rfl, H1, by omega, by omega⟩ | exact ⟨HB, _, _, rfl, hidden (H1.out.at0 (by omega) _), by omega, by omega⟩
      · have hge : 128 ≤ x := by omega
        have haI : ¬ (x : Int) < 128 := by omega
        clear hs1
        obtain ⟨x', x1, x2, x3, ⟨_, l1, l2, l3⟩, hc0, hc1, hc2, hc3, _, hl⟩ := HS.out.lead
        obtain rfl : x' = x := by
          have e := (HB.out.cell (p := ⟨b, o, none⟩) hb).trans hc0
          rw [hcx] at e
          simp at e
          omega
        obtain ⟨hno, hyes⟩ := hl hge
        have hbn : ¬ b = wr.heap.size := by have := HB.out.size; omega
        have t0 := hT.1 x' hx
        have t1 := (hT.2 (Lib.firstT x' / 16) (by have : Lib.firstT x' < 256 := by (rcases Lib.firstT_cases x' with h | h | h | h | h | h | h | h | h <;> omega)
                                                  rcases Lib.firstT_cases x' with h | h | h | h | h | h | h | h | h <;> omega))
        have hXlt : Lib.firstT x' < 256 := by rcases Lib.firstT_cases x' with h | h | h | h | h | h | h | h | h <;> omega
        obtain ⟨X, hX⟩ : ∃ X, Lib.firstT x' = X := ⟨_, rfl⟩
        rw [hX] at t0 t1 hXlt hno hyes
        have h7 := and7 ⟨X, hXlt⟩
        simp only at h7
        have f0 : wr.cell? ⟨0, x', none⟩ = some (.int .u8 (X : Int)) := (HB.out.cell (p := ⟨0, x', none⟩) (World.block_lt_of_cell? w _ t0)).trans t0
        have ha0 : wr.cell? ⟨1, X / 16 * 2, none⟩ = some (.int .u8 (Lib.accLo (X / 16) : Int)) := by rw [Nat.mul_comm]; exact (HB.out.cell (p := ⟨1, 2 * (X / 16), none⟩) (World.block_lt_of_cell? w _ t1.1)).trans t1.1
        have ha1 : wr.cell? ⟨1, X / 16 * 2 + 1, none⟩ = some (.int .u8 (Lib.accHi (X / 16) : Int)) := by rw [Nat.mul_comm]; exact (HB.out.cell (p := ⟨1, 2 * (X / 16) + 1, none⟩) (World.block_lt_of_cell? w _ t1.2)).trans t1.2
        obtain ⟨LO, hLO⟩ : ∃ LO, Lib.accLo (X / 16) = LO := ⟨_, rfl⟩
        obtain ⟨HI, hHI⟩ : ∃ HI, Lib.accHi (X / 16) = HI := ⟨_, rfl⟩
        rw [hLO] at ha0 hno hyes
        rw [hHI] at ha1 hno hyes
        have hLOl : LO < 256 := by rw [← hLO]; unfold Lib.accLo; (repeat' split) <;> omega
        have hHIl : HI < 256 := by rw [← hHI]; unfold Lib.accHi; (repeat' split) <;> omega
        obtain ⟨SZ, hSZ⟩ : ∃ SZ, X % 8 = SZ := ⟨_, rfl⟩
        rw [hSZ] at hno hyes
        have HNO := hidden hno
        have HYES := hidden hyes
        clear t0 t1 hX hLO hHI hl hno hyes hc0 HS
        have HBA : Hid (∀ o, Below w.heap.size w (wr.alloc o)) := hidden fun o => HB.out.alloc HB.out.size o
        obtain ⟨wv, hwv⟩ : ∃ wv, wr.alloc (.cells #[.int .u8 (LO : Int), .int .u8 (HI : Int)] 116) = wv := ⟨_, rfl⟩
        have a0 : wv.cell? ⟨wr.heap.size, 0, none⟩ = some (.int .u8 (LO : Int)) := by rw [← hwv]; simp
        have a1 : wv.cell? ⟨wr.heap.size, 1, none⟩ = some (.int .u8 (HI : Int)) := by rw [← hwv]; simp
        have HBV : Hid (Below w.heap.size w wv) := hidden (by rw [← hwv]; exact HBA.out _)
        by_cases s2 : SZ = 2
        · as_aux_lemma =>
          subst s2
          have hSZz : (X : Int) % 8 = 2 := by omega
          go_wp2_with fail
          first | rw [hwv] | skip
          by_cases q0 : m + 1 < 2
          · have q0z : (m : Int) + 1 < 2 := by omega
            have q0b : decide ((m : Int) + 1 < 2) = true := decide_eq_true q0z
            have hA := HNO.out (by unfold Lib.checkN; rw [if_pos rfl, if_pos (by omega)])
            go_quiet (fail)
            go_wp2
            all_goals
              go_ret
              exact ⟨by first | rfl | (rw [hA]; rfl), below_draws HBV.out _⟩
          · obtain ⟨m', rfl⟩ : ∃ m', m = m' + 1 := ⟨m - 1, by omega⟩
            have q0z : ¬ ((m' : Int) + 1 + 1 < 2) := by omega
            have q0b : decide ((m' : Int) + 1 + 1 < 2) = false := decide_eq_false q0z
            have hz1 : (1 : Int) < (m' : Int) + 1 + 1 := by omega
            have hp1 : 1 < m' + 1 + 1 := by omega
            have c1 := (HBV.out.cell (p := ⟨b, o + 1, none⟩) hb).trans (hc1 (by omega))
            by_cases q1 : x1 < LO
            · have q1z : (x1 : Int) < (LO : Int) := by omega
              have q1b : decide ((x1 : Int) < (LO : Int)) = true := decide_eq_true q1z
              have hA := HNO.out (by unfold Lib.checkN; rw [if_pos rfl, if_pos (by omega)])
              go_quiet (fail)
              go_wp2
              all_goals
                go_ret
                exact ⟨by first | rfl | (rw [hA]; rfl), below_draws HBV.out _⟩
            · have q1z : ¬ ((x1 : Int) < (LO : Int)) := by omega
              have q1b : decide ((x1 : Int) < (LO : Int)) = false := decide_eq_false q1z
              by_cases q2 : HI < x1
              · have q2z : (HI : Int) < (x1 : Int) := by omega
                have q2b : decide ((HI : Int) < (x1 : Int)) = true := decide_eq_true q2z
                have hA := HNO.out (by unfold Lib.checkN; rw [if_pos rfl, if_pos (by omega)])
                go_quiet (fail)
                go_wp2
                all_goals
                  go_ret
                  exact ⟨by first | rfl | (rw [hA]; rfl), below_draws HBV.out _⟩
              · have q2z : ¬ ((HI : Int) < (x1 : Int)) := by omega
                have q2b : decide ((HI : Int) < (x1 : Int)) = false := decide_eq_false q2z
                have hY := HYES.out 2 (by unfold Lib.checkN; rw [if_pos rfl, if_neg (by omega)])
                have H2 : Hid (Sk w b (o + 2) m' A) := hidden (by rw [show m' = m' + 1 + 1 - 2 by omega]; exact hY)
                clear hY
                go_quiet (fail)
                go_wp2
                all_goals
                  go_roundg g'
                  case measure => omega
                  case rel => first | exact ⟨hidden (below_draws HBV.out _), _, _, rfl, H2, by omega, by omega⟩ | exact ⟨hidden (below_draws HBV.out _), _, _, rfl, hidden (H2.out.at0 (by omega) _), by omega, by omega⟩
        by_cases s3 : SZ = 3
        · as_aux_lemma =>
          subst s3
          have hSZz : (X : Int) % 8 = 3 := by omega
          go_wp2_with fail
          first | rw [hwv] | skip
          by_cases q0 : m + 1 < 3
          · have q0z : (m : Int) + 1 < 3 := by omega
            have q0b : decide ((m : Int) + 1 < 3) = true := decide_eq_true q0z
            have hA := HNO.out (by unfold Lib.checkN; rw [if_neg (by decide), if_pos rfl, if_pos (by omega)])
            go_quiet (fail)
            go_wp2
            all_goals
              go_ret
              exact ⟨by first | rfl | (rw [hA]; rfl), below_draws HBV.out _⟩
          · obtain ⟨m', rfl⟩ : ∃ m', m = m' + 2 := ⟨m - 2, by omega⟩
            have q0z : ¬ ((m' : Int) + 2 + 1 < 3) := by omega
            have q0b : decide ((m' : Int) + 2 + 1 < 3) = false := decide_eq_false q0z
            have hz1 : (1 : Int) < (m' : Int) + 2 + 1 := by omega
            have hp1 : 1 < m' + 2 + 1 := by omega
            have hz2 : (2 : Int) < (m' : Int) + 2 + 1 := by omega
            have hp2 : 2 < m' + 2 + 1 := by omega
            have c1 := (HBV.out.cell (p := ⟨b, o + 1, none⟩) hb).trans (hc1 (by omega))
            have c2 := (HBV.out.cell (p := ⟨b, o + 2, none⟩) hb).trans (hc2 (by omega))
            by_cases q1 : x1 < LO
            · have q1z : (x1 : Int) < (LO : Int) := by omega
              have q1b : decide ((x1 : Int) < (LO : Int)) = true := decide_eq_true q1z
              have hA := HNO.out (by unfold Lib.checkN; rw [if_neg (by decide), if_pos rfl, if_pos (by omega)])
              go_quiet (fail)
              go_wp2
              all_goals
                go_ret
                exact ⟨by first | rfl | (rw [hA]; rfl), below_draws HBV.out _⟩
            · have q1z : ¬ ((x1 : Int) < (LO : Int)) := by omega
              have q1b : decide ((x1 : Int) < (LO : Int)) = false := decide_eq_false q1z
              by_cases q2 : HI < x1
              · have q2z : (HI : Int) < (x1 : Int) := by omega
                have q2b : decide ((HI : Int) < (x1 : Int)) = true := decide_eq_true q2z
                have hA := HNO.out (by unfold Lib.checkN; rw [if_neg (by decide), if_pos rfl, if_pos (by omega)])
                go_quiet (fail)
                go_wp2
                all_goals
                  go_ret
                  exact ⟨by first | rfl | (rw [hA]; rfl), below_draws HBV.out _⟩
              · have q2z : ¬ ((HI : Int) < (x1 : Int)) := by omega
                have q2b : decide ((HI : Int) < (x1 : Int)) = false := decide_eq_false q2z
                by_cases q3 : x2 < 128
                · have q3z : (x2 : Int) < 128 := by omega
                  have q3b : decide ((x2 : Int) < 128) = true := decide_eq_true q3z
                  have hA := HNO.out (by unfold Lib.checkN; rw [if_neg (by decide), if_pos rfl, if_pos (by omega)])
                  go_quiet (fail)
                  go_wp2
                  all_goals
                    go_ret
                    exact ⟨by first | rfl | (rw [hA]; rfl), below_draws HBV.out _⟩
                · have q3z : ¬ ((x2 : Int) < 128) := by omega
                  have q3b : decide ((x2 : Int) < 128) = false := decide_eq_false q3z
                  by_cases q4 : 191 < x2
                  · have q4z : (191 : Int) < (x2 : Int) := by omega
                    have q4b : decide ((191 : Int) < (x2 : Int)) = true := decide_eq_true q4z
                    have hA := HNO.out (by unfold Lib.checkN; rw [if_neg (by decide), if_pos rfl, if_pos (by omega)])
                    go_quiet (fail)
                    go_wp2
                    all_goals
                      go_ret
                      exact ⟨by first | rfl | (rw [hA]; rfl), below_draws HBV.out _⟩
                  · have q4z : ¬ ((191 : Int) < (x2 : Int)) := by omega
                    have q4b : decide ((191 : Int) < (x2 : Int)) = false := decide_eq_false q4z
                    have hY := HYES.out 3 (by unfold Lib.checkN; rw [if_neg (by decide), if_pos rfl, if_neg (by omega)])
                    have H2 : Hid (Sk w b (o + 3) m' A) := hidden (by rw [show m' = m' + 2 + 1 - 3 by omega]; exact hY)
                    clear hY
                    go_quiet (fail)
                    go_wp2
                    all_goals
                      go_roundg g'
                      case measure => omega
                      case rel => first | exact ⟨hidden (below_draws HBV.out _), _, _, rfl, H2, by omega, by omega⟩ | exact ⟨hidden (below_draws HBV.out _), _, _, rfl, hidden (H2.out.at0 (by omega) _), by omega, by omega⟩
        by_cases s4 : SZ = 4
        · as_aux_lemma =>
          subst s4
          have hSZz : (X : Int) % 8 = 4 := by omega
          go_wp2_with fail
          first | rw [hwv] | skip
          by_cases q0 : m + 1 < 4
          · have q0z : (m : Int) + 1 < 4 := by omega
            have q0b : decide ((m : Int) + 1 < 4) = true := decide_eq_true q0z
            have hA := HNO.out (by unfold Lib.checkN; rw [if_neg (by decide), if_neg (by decide), if_pos rfl, if_pos (by omega)])
            go_quiet (fail)
            go_wp2
            all_goals
              go_ret
              exact ⟨by first | rfl | (rw [hA]; rfl), below_draws HBV.out _⟩
          · obtain ⟨m', rfl⟩ : ∃ m', m = m' + 3 := ⟨m - 3, by omega⟩
            have q0z : ¬ ((m' : Int) + 3 + 1 < 4) := by omega
            have q0b : decide ((m' : Int) + 3 + 1 < 4) = false := decide_eq_false q0z
            have hz1 : (1 : Int) < (m' : Int) + 3 + 1 := by omega
            have hp1 : 1 < m' + 3 + 1 := by omega
            have hz2 : (2 : Int) < (m' : Int) + 3 + 1 := by omega
            have hp2 : 2 < m' + 3 + 1 := by omega
            have hz3 : (3 : Int) < (m' : Int) + 3 + 1 := by omega
            have hp3 : 3 < m' + 3 + 1 := by omega
            have c1 := (HBV.out.cell (p := ⟨b, o + 1, none⟩) hb).trans (hc1 (by omega))
            have c2 := (HBV.out.cell (p := ⟨b, o + 2, none⟩) hb).trans (hc2 (by omega))
            have c3 := (HBV.out.cell (p := ⟨b, o + 3, none⟩) hb).trans (hc3 (by omega))
            by_cases q1 : x1 < LO
            · have q1z : (x1 : Int) < (LO : Int) := by omega
              have q1b : decide ((x1 : Int) < (LO : Int)) = true := decide_eq_true q1z
              have hA := HNO.out (by unfold Lib.checkN; rw [if_neg (by decide), if_neg (by decide), if_pos rfl, if_pos (by omega)])
              go_quiet (fail)
              go_wp2
              all_goals
                go_ret
                exact ⟨by first | rfl | (rw [hA]; rfl), below_draws HBV.out _⟩
            · have q1z : ¬ ((x1 : Int) < (LO : Int)) := by omega
              have q1b : decide ((x1 : Int) < (LO : Int)) = false := decide_eq_false q1z
              by_cases q2 : HI < x1
              · have q2z : (HI : Int) < (x1 : Int) := by omega
                have q2b : decide ((HI : Int) < (x1 : Int)) = true := decide_eq_true q2z
                have hA := HNO.out (by unfold Lib.checkN; rw [if_neg (by decide), if_neg (by decide), if_pos rfl, if_pos (by omega)])
                go_quiet (fail)
                go_wp2
                all_goals
                  go_ret
                  exact ⟨by first | rfl | (rw [hA]; rfl), below_draws HBV.out _⟩
              · have q2z : ¬ ((HI : Int) < (x1 : Int)) := by omega
                have q2b : decide ((HI : Int) < (x1 : Int)) = false := decide_eq_false q2z
                by_cases q3 : x2 < 128
                · have q3z : (x2 : Int) < 128 := by omega
                  have q3b : decide ((x2 : Int) < 128) = true := decide_eq_true q3z
                  have hA := HNO.out (by unfold Lib.checkN; rw [if_neg (by decide), if_neg (by decide), if_pos rfl, if_pos (by omega)])
                  go_quiet (fail)
                  go_wp2
                  all_goals
                    go_ret
                    exact ⟨by first | rfl | (rw [hA]; rfl), below_draws HBV.out _⟩
                · have q3z : ¬ ((x2 : Int) < 128) := by omega
                  have q3b : decide ((x2 : Int) < 128) = false := decide_eq_false q3z
                  by_cases q4 : 191 < x2
                  · have q4z : (191 : Int) < (x2 : Int) := by omega
                    have q4b : decide ((191 : Int) < (x2 : Int)) = true := decide_eq_true q4z
                    have hA := HNO.out (by unfold Lib.checkN; rw [if_neg (by decide), if_neg (by decide), if_pos rfl, if_pos (by omega)])
                    go_quiet (fail)
                    go_wp2
                    all_goals
                      go_ret
                      exact ⟨by first | rfl | (rw [hA]; rfl), below_draws HBV.out _⟩
                  · have q4z : ¬ ((191 : Int) < (x2 : Int)) := by omega
                    have q4b : decide ((191 : Int) < (x2 : Int)) = false := decide_eq_false q4z
                    by_cases q5 : x3 < 128
                    · have q5z : (x3 : Int) < 128 := by omega
                      have q5b : decide ((x3 : Int) < 128) = true := decide_eq_true q5z
                      have hA := HNO.out (by unfold Lib.checkN; rw [if_neg (by decide), if_neg (by decide), if_pos rfl, if_pos (by omega)])
                      go_quiet (fail)
                      go_wp2
                      all_goals
                        go_ret
                        exact ⟨by first | rfl | (rw [hA]; rfl), below_draws HBV.out _⟩
                    · have q5z : ¬ ((x3 : Int) < 128) := by omega
                      have q5b : decide ((x3 : Int) < 128) = false := decide_eq_false q5z
                      by_cases q6 : 191 < x3
                      · have q6z : (191 : Int) < (x3 : Int) := by omega
                        have q6b : decide ((191 : Int) < (x3 : Int)) = true := decide_eq_true q6z
                        have hA := HNO.out (by unfold Lib.checkN; rw [if_neg (by decide), if_neg (by decide), if_pos rfl, if_pos (by omega)])
                        go_quiet (fail)
                        go_wp2
                        all_goals
                          go_ret
                          exact ⟨by first | rfl | (rw [hA]; rfl), below_draws HBV.out _⟩
                      · have q6z : ¬ ((191 : Int) < (x3 : Int)) := by omega
                        have q6b : decide ((191 : Int) < (x3 : Int)) = false := decide_eq_false q6z
                        have hY := HYES.out 4 (by unfold Lib.checkN; rw [if_neg (by decide), if_neg (by decide), if_pos rfl, if_neg (by omega)])
                        have H2 : Hid (Sk w b (o + 4) m' A) := hidden (by rw [show m' = m' + 3 + 1 - 4 by omega]; exact hY)
                        clear hY
                        go_quiet (fail)
                        go_wp2
                        all_goals
                          go_roundg g'
                          case measure => omega
                          case rel => first | exact ⟨hidden (below_draws HBV.out _), _, _, rfl, H2, by omega, by omega⟩ | exact ⟨hidden (below_draws HBV.out _), _, _, rfl, hidden (H2.out.at0 (by omega) _), by omega, by omega⟩
        have hA := HNO.out (by unfold Lib.checkN; rw [if_neg s2, if_neg s3, if_neg s4])
        have e2 : ¬ ((X : Int) % 8 = 2) := by omega
        have e3 : ¬ ((X : Int) % 8 = 3) := by omega
        have e4 : ¬ ((X : Int) % 8 = 4) := by omega
        have e2b : (((X : Int) % 8) == 2) = false := by simp; omega
        have e3b : (((X : Int) % 8) == 3) = false := by simp; omega
        have e4b : (((X : Int) % 8) == 4) = false := by simp; omega
        go_wp2
        all_goals
          go_ret
          exact ⟨by first | rfl | (rw [hA]; rfl), HBV.out⟩
    · obtain rfl : n = 0 := by omega
      have h0z : ¬ ((0 : Int) < ((0 : Nat) : Int)) := by omega
      go_wp2
      go_ret
      exact ⟨by rw [HS.out.zero.1]; rfl, HB.out⟩
end Go.Proofs.YtpiijmionafmcaaGreatDoor

/- unicode/utf8.Valid of any bytes that came in. -/

namespace Go.Proofs.YtpiijmionafmcaaGreatDoor
open Go.RowKit Go.Shelf

set_option maxRecDepth 100000 in
theorem str_get {l : List Int} (hl : Wf l) {i : Nat} (hi : i < l.length) : (((strOfNums l).get! i).toNat : Int) = l.getD i 0 := by
  rw [← Lib.getD_get!', strOfNums_data]
  have h := hl (l[i]) (List.getElem_mem hi)
  simp only [List.getD_eq_getElem?_getD, List.getElem?_map, List.getElem?_eq_getElem hi, Option.map_some, Option.getD_some]
  rw [UInt8.toNat_ofNat']
  omega
set_option maxRecDepth 100000 in
theorem valid_empty (ao : Option Addr) (cap : Nat) (w : World) (hn : ao = none → cap = 0) : Calls Tryz.prog 66 #[.slice ao 0 cap] w fun e w' => e = .returned (.bool true) ∧ Below w.heap.size w w' := by
  cases ao with
  | none =>
    obtain rfl := hn rfl
    go_enter Tryz.func66, Tryz.ntmps66
    go_wp2_with fail
    go_loopw [0] (fun y wr => y = .slice none 0 0 ∧ wr = w) (fun _ _ => 0)
    case atStart => exact ⟨rfl, rfl⟩
    case round =>
      obtain ⟨rfl, rfl⟩ := hrel
      go_wp2
      go_ret
      exact ⟨rfl, Below.refl _ _⟩
  | some ad =>
    go_enter Tryz.func66, Tryz.ntmps66
    go_wp2_with fail
    go_loopw [0] (fun y wr => y = .slice (some ad) 0 0 ∧ wr = w) (fun _ _ => 0)
    case atStart => exact ⟨rfl, rfl⟩
    case round =>
      obtain ⟨rfl, rfl⟩ := hrel
      go_wp2
      go_ret
      exact ⟨rfl, Below.refl _ _⟩
set_option maxRecDepth 100000 in
theorem validB : ValidB Tb Vl := by
  intro w ao n cap l hT hs
  rcases hs.hat with h0 | ⟨b, off, rfl, hlt, hc⟩
  · subst h0
    obtain rfl : l = [] := List.eq_nil_of_length_eq_zero hs.hlen
    have e : Vl (strOfNums []) = true := by
      unfold Vl
      rw [strOfNums_data]
      exact Lib.validD_nil
    rw [e]
    exact valid_empty ao cap w hs.hnil
  · refine valid_any b off n cap (Vl (strOfNums l)) w hlt ⟨strOfNums l, ?_, rfl, fun i hi => ?_⟩ hs.hroom hs.hcap hT
    · rw [strOfNums_size]; exact hs.hlen
    · rw [strOfNums_size, hs.hlen] at hi
      rw [hc i hi, str_get hs.wf (by rw [hs.hlen]; exact hi)]
end Go.Proofs.YtpiijmionafmcaaGreatDoor
