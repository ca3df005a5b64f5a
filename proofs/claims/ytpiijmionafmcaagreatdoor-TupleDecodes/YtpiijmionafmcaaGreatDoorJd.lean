/- The document's numbers; how long items' bytes are. -/
import Derived.Test.YtpiijmionafmcaaGreatDoorSmA
import Derived.Test.YtpiijmionafmcaaGreatDoorWeigh
import Derived.Test.YtpiijmionafmcaaGreatDoorEnc5
import Derived.Handy
import Derived.Test.YtpiijmionafmcaaGreatDoorTuR
namespace Go.Proofs.YtpiijmionafmcaaGreatDoor
open Go.RowKit

set_option maxRecDepth 100000 in
theorem fB_not : ∀ (k : Nat) (m n : Int), k ≤ 8 → 0 ≤ m → m ≤ 9223372036854775807 → m = -n - 1 → fB k (n % 18446744073709551616) = (fB k m).map (255 - ·)
  | 0, _, _, _, _, _, _ => rfl
  | i + 1, m, n, hk, h0, h1, h2 => by
    rw [fB, fB, List.map_cons, fB_not i m n (by omega) h0 h1 h2]
    congr 1
    have : i = 0 ∨ i = 1 ∨ i = 2 ∨ i = 3 ∨ i = 4 ∨ i = 5 ∨ i = 6 ∨ i = 7 := by omega
    rcases this with rfl | rfl | rfl | rfl | rfl | rfl | rfl | rfl <;> simp <;> omega
set_option maxRecDepth 100000 in
theorem intB_neg (n : Int) (h0 : -9223372036854775808 ≤ n) (hn : n < 0) : intB n = (127 - (wd (-n - 1) : Int)) :: (fB (wd (-n - 1)) (-n - 1)).map (255 - ·) := by
  unfold intB
  rw [if_pos hn, fB_not (wd (-n - 1)) (-n - 1) n (wd_le _ (by omega)) (by omega) (by omega) rfl]
set_option maxRecDepth 100000 in
theorem xor255 (x : Int) (h0 : 0 ≤ x) (h1 : x ≤ 255) : bits .xor .u8 x 255 = 255 - x := by
  have h : ∀ a : Fin 256, bits .xor .u8 ((a.val : Nat) : Int) 255 = 255 - ((a.val : Nat) : Int) := by decide +kernel
  have := h ⟨x.toNat, by omega⟩
  simpa [Int.toNat_of_nonneg h0] using this
set_option maxRecDepth 100000 in
theorem wd_lt_iff (n : Int) (j : Nat) (h0 : 0 ≤ n) (h1 : n ≤ 18446744073709551615) (hj : j ≤ 8) : j < wd n ↔ 0 < n / 256 ^ j := by
  have h := wd_iff n j h0 h1 hj
  have hp : (0 : Int) < 256 ^ j := Int.pow_pos (by omega)
  have h2 : 0 < n / 256 ^ j ↔ 256 ^ j ≤ n := by
    constructor
    · intro h3
      have := Int.mul_ediv_add_emod n (256 ^ j)
      have h4 := Int.emod_nonneg n (show (256 : Int) ^ j ≠ 0 by omega)
      have h5 : 256 ^ j * 1 ≤ 256 ^ j * (n / 256 ^ j) := Int.mul_le_mul_of_nonneg_left (by omega) (by omega)
      omega
    · intro h3
      have : 1 ≤ n / 256 ^ j := Int.le_ediv_of_mul_le hp (by omega)
      omega
  omega
set_option maxRecDepth 100000 in
/-- How long items' bytes are, by their weight. -/
theorem EI_len : ∀ (l : Its) (n : Int), l.Ok → 0 ≤ n → wgh l n ≤ 100000 → ((EI l).length : Int) + 200 * n ≤ 200 * wgh l n
  | .nil, n, _, _, _ => by simp [EI, wgh]
  | .cons k m t s r, n, ho, h0, h => by
    have hn : n ≤ 100000 := by
      by_cases e : n ≤ 100000
      · exact e
      · rw [wgh, if_neg e] at h
        exact h
    rw [wgh, if_pos hn] at h ⊢
    have hm := wgh_mono s (n + 1 + ((t.size / 64 : Nat) : Int))
    have hr := EI_len r (wgh s (n + 1 + ((t.size / 64 : Nat) : Int))) ho.2.2.2.2.2 (by omega) h
    have hr2 := wgh_mono r (wgh s (n + 1 + ((t.size / 64 : Nat) : Int)))
    have hs := EI_len s (n + 1 + ((t.size / 64 : Nat) : Int)) ho.2.2.2.2.1 (by omega) (by omega)
    have hp : (pay k m t s).length ≤ 2 * t.size + 12 + (EI s).length := by
      unfold pay
      have h1 := intB_length m ho.2.1.1 ho.2.1.2
      have h2 := (oB_length (bL t)).2
      rw [bL_length] at h2
      split
      · omega
      · split
        · rw [fB_length]; omega
        · split
          · omega
          · split
            · simp only [List.length_append, List.length_cons, List.length_nil]; omega
            · simp
    rw [EI_cons, List.length_append, List.length_cons]
    omega
end Go.Proofs.YtpiijmionafmcaaGreatDoor

/- espalierref02.width. -/

namespace Go.Proofs.YtpiijmionafmcaaGreatDoor
open Go.RowKit

set_option maxHeartbeats 1000000 in
set_option maxRecDepth 100000 in
theorem width_any (n : Int) (w : World) (h0 : 0 ≤ n) (h1 : n ≤ 18446744073709551615) : Calls Tryz.prog 67 #[.int .u64 n] w fun e w' => e = .returned (.int .i64 (wd n)) ∧ w' = w := by
  have hk := wd_le n h1
  have HW : Hid (∀ j, j ≤ wd n → (j < wd n ↔ 0 < n / 256 ^ j)) := hidden (fun j hj => wd_lt_iff n j h0 h1 (by omega))
  obtain ⟨K, hK⟩ : ∃ K, wd n = K := ⟨_, rfl⟩
  rw [hK] at HW hk ⊢
  clear hK
  have HB : Hid (∀ j : Nat, 0 ≤ n / 256 ^ j ∧ n / 256 ^ j ≤ 18446744073709551615) := hidden (fun j => by
    have hp : (0 : Int) < 256 ^ j := Int.pow_pos (by omega)
    refine ⟨Int.ediv_nonneg h0 (by omega), Int.le_trans (Int.ediv_le_self _ h0) h1⟩)
  have HP : Hid (∀ j : Nat, n / 256 ^ j / 256 = n / 256 ^ (j + 1)) := hidden (pow256 n)
  have HZ : Hid (n / 256 ^ 0 = n) := hidden (by simp)
  clear h0 h1
  go_enter Tryz.func67, Tryz.ntmps67
  go_wp2_with fail
  go_loop [0, 3] (fun x k => ∃ (j : Nat) (v : Int), j ≤ K ∧ x = .int .u64 v ∧ k = .int .i64 (j : Int) ∧ Hid (v = n / 256 ^ j)) (fun _ k => 9 - (RowKit.intOf k).toNat)
  case atStart => exact ⟨0, n, by omega, rfl, rfl, hidden HZ.out.symm⟩
  case round =>
    obtain ⟨j, v, hj, rfl, rfl, HV⟩ := hrel
    obtain ⟨v0, v1⟩ : 0 ≤ v ∧ v ≤ 18446744073709551615 := by rw [HV.out]; exact HB.out j
    have jI : (j : Int) ≤ 8 := by omega
    by_cases hv : 0 < v
    · have hjK : j < K := (HW.out j hj).2 (by rw [← HV.out]; exact hv)
      have q1 : Int.tdiv v 256 = v / 256 := Int.tdiv_eq_ediv_of_nonneg v0
      have HN : Hid (v / 256 = n / 256 ^ (j + 1)) := hidden (by rw [← HP.out, HV.out])
      obtain ⟨q, hq⟩ : ∃ q, v / 256 = q := ⟨_, rfl⟩
      rw [hq] at q1 HN
      have q2 : 0 ≤ q := by omega
      have q3 : q ≤ 18446744073709551615 := by omega
      have q4 : IntKind.u64.wrap q = q := by rw [IntKind.wrap_u64]; omega
      clear hq
      go_wp2
      go_round
      case rel => exact ⟨j + 1, q, by omega, by first | rfl | go_num, by go_num, HN⟩
      case measure => simp [RowKit.intOf]; omega
    · obtain rfl : j = K := by
        by_cases e : j < K
        · have := (HW.out j hj).1 e
          rw [← HV.out] at this
          omega
        · omega
      go_wp2
      go_ret
      exact ⟨rfl, rfl⟩
end Go.Proofs.YtpiijmionafmcaaGreatDoor

/- The document's decodeInt. -/

namespace Go.Proofs.YtpiijmionafmcaaGreatDoor
open Go.RowKit

/-- What decode gives of a kind: the number, the place behind it, the error. -/
def rdV (k : Int) (t : Int × Int × Int) : Value := .agg #[.int .i64 (if t.2.2 = 0 then k else 0), .int .i64 t.1, .string ⟨#[]⟩, .slice none 0 0, .int .i64 t.2.2, .int .i64 t.2.1]
set_option maxRecDepth 100000 in
theorem rdV_bad (k : Int) : rdV k (0, 0, 21) = .agg #[.int .i64 0, .int .i64 0, .string ⟨#[]⟩, .slice none 0 0, .int .i64 21, .int .i64 0] := rfl
set_option maxRecDepth 100000 in
theorem not8 (d : Int) (h0 : 0 ≤ d) (h1 : d ≤ 255) : bits .xor .u8 d 255 = 255 - d := by
  obtain ⟨k, rfl⟩ : ∃ k : Nat, d = (k : Int) := ⟨d.toNat, by omega⟩
  have h : ∀ a : Fin 256, bits .xor .u8 ((a.val : Nat) : Int) 255 = 255 - ((a.val : Nat) : Int) := by decide +kernel
  exact h ⟨k, by omega⟩
/-- The bytes' number, or what is left of it. -/
def mI (bel : Bool) (t : List Int) (i : Nat) : Int := if bel then 256 ^ i - 1 - rdB (t.take i) else rdB (t.take i)
set_option maxRecDepth 100000 in
theorem mI_zero (bel : Bool) (t : List Int) : mI bel t 0 = 0 := by cases bel <;> simp [mI, rdB]
set_option maxRecDepth 100000 in
theorem mI_succ (bel : Bool) (t : List Int) (i : Nat) (hi : i < t.length) : mI bel t (i + 1) = 256 * mI bel t i + (if bel then 255 - t.getD i 0 else t.getD i 0) := by
  have e : t.take (i + 1) = t.take i ++ [t.getD i 0] := by
    rw [List.take_add_one, List.getElem?_eq_getElem hi]
    simp [List.getD, List.getElem?_eq_getElem hi]
  cases bel
  · simp only [mI, e, rdB_snoc, Bool.false_eq_true, if_false]
    omega
  · simp only [mI, e, rdB_snoc, if_true, Int.pow_succ]
    omega
set_option maxRecDepth 100000 in
theorem mI_bound (bel : Bool) (t : List Int) (ht : Wf t) (i : Nat) (hi : i ≤ t.length) : 0 ≤ mI bel t i ∧ mI bel t i < 256 ^ i := by
  have h := rdB_bound (t.take i) (fun x hx => ht x (List.mem_of_mem_take hx))
  rw [show (t.take i).length = i by simp; omega] at h
  cases bel
  · simpa [mI] using h
  · simp only [mI, if_true]
    omega
set_option maxRecDepth 100000 in
theorem pow8 (i : Nat) (h8 : i ≤ 8) : (256 : Int) ^ i ≤ 18446744073709551616 ∧ (i ≤ 7 → (256 : Int) ^ i ≤ 72057594037927936) := by
  have : i = 0 ∨ i = 1 ∨ i = 2 ∨ i = 3 ∨ i = 4 ∨ i = 5 ∨ i = 6 ∨ i = 7 ∨ i = 8 := by omega
  rcases this with rfl | rfl | rfl | rfl | rfl | rfl | rfl | rfl | rfl <;> exact ⟨by decide, by decide⟩
set_option maxRecDepth 100000 in
/-- rdI, both ways at once. -/
theorem rdI_m {c : Int} {k : Nat} (bel : Bool) (t : List Int) (p : Int) (hb : bel = decide (c < 128)) (hk : (if bel then 127 - c else c - 128) = (k : Int)) :
    rdI (c :: t) p = if 8 < k ∨ t.length < k then (0, 0, 21) else if 9223372036854775807 < mI bel t k ∨ wd (mI bel t k) ≠ k then (0, 0, 21) else (if bel then -(mI bel t k) - 1 else mI bel t k, p + 1 + k, 0) := by
  by_cases h : c < 128
  · obtain rfl : bel = true := by rw [hb]; simpa using h
    rw [rdI_b t p h (by simpa using hk)]
    by_cases h0 : k = 0
    · subst h0
      have e : mI true t 0 = 0 := mI_zero _ _
      rw [e]
      simp [wd, show Lib.bitLen 0 = 0 by first | rfl | decide]
    · rw [if_neg h0]
      simp [mI]
  · obtain rfl : bel = false := by rw [hb]; simpa using h
    rw [rdI_f t p h (by simpa using hk)]
    by_cases h0 : k = 0
    · subst h0
      have e : mI false t 0 = 0 := mI_zero _ _
      rw [e]
      simp [wd, show Lib.bitLen 0 = 0 by first | rfl | decide]
    · rw [if_neg h0]
      simp [mI]
set_option maxRecDepth 100000 in
set_option maxHeartbeats 4000000 in
theorem rdecInt_any (ao : Option Addr) (n cap : Nat) (l : List Int) (p : Nat) (w : World) (hs : Sl w ao n cap l) (hp : p ≤ n) :
    Calls Tryz.prog 42 #[.slice ao n cap, .int .i64 (p : Int)] w fun e w' => e = .returned (rdV 3 (rdI (l.drop p) p)) ∧ Below w.heap.size w w' := by
  have hlen := hs.hlen
  have hroom := hs.hroom
  by_cases hpn : p < n
  · rcases hs.hat with h | ⟨b, off, rfl, hbb, hc⟩
    · omega
    have hck := hc p hpn
    have hbn : ¬ b = w.heap.size := by omega
    have hc8 := hs.wf (l.getD p 0) (getD_mem l p (by omega))
    have HD := drop_cons l p (by omega)
    obtain ⟨t, ht⟩ : ∃ t, l.drop (p + 1) = t := ⟨_, rfl⟩
    have hwt : Wf t := fun x hx => hs.wf x (List.mem_of_mem_drop (by rw [ht]; exact hx))
    have htl : t.length = n - (p + 1) := by rw [← ht]; simp; omega
    have HT : Hid (∀ i, i < t.length → w.cell? ⟨b, off + (p + 1 + i), none⟩ = some (.int .u8 (t.getD i 0)) ∧ 0 ≤ t.getD i 0 ∧ t.getD i 0 ≤ 255) := hidden (fun i hi => by
      have e : t.getD i 0 = l.getD (p + 1 + i) 0 := by rw [← ht]; simp [List.getD]
      refine ⟨by rw [e]; exact hc (p + 1 + i) (by omega), ?_⟩
      have := hwt (t.getD i 0) (getD_mem t i hi)
      omega)
    rw [HD, ht]
    clear hc hs HD ht
    generalize l.getD p 0 = c at *
    obtain ⟨bel, hbel⟩ : ∃ bel, bel = decide (c < 128) := ⟨_, rfl⟩
    obtain ⟨k, hk⟩ : ∃ k : Nat, (if bel then 127 - c else c - 128) = (k : Int) := by
      by_cases h : c < 128
      · exact ⟨(127 - c).toNat, by rw [hbel, decide_eq_true h]; simp; omega⟩
      · exact ⟨(c - 128).toNat, by rw [hbel, decide_eq_false h]; simp; omega⟩
    rw [rdI_m bel t p hbel hk, htl]
    have hkI : (k : Int) ≤ 128 := by
      rw [← hk]; split <;> omega
    have HMB : Hid (∀ i, i ≤ k → k ≤ 8 → k ≤ t.length → 0 ≤ mI bel t i ∧ mI bel t i ≤ 18446744073709551615 ∧ (i < k → 0 ≤ mI bel t i ∧ mI bel t i ≤ 72057594037927935)) := hidden (fun i hi h8 hl => by
      have h1 := mI_bound bel t hwt i (by omega)
      have h2 := pow8 i (by omega)
      refine ⟨h1.1, by omega, fun hlt => ⟨h1.1, ?_⟩⟩
      have := h2.2 (by omega)
      omega)
    cases bel
    case false =>
      have hcn : ¬ c < 128 := by simpa using hbel.symm
      have hk1 : c - 128 = (k : Int) := by simpa using hk
      have hk2 : ¬ (k : Int) < 0 := by omega
      clear hk hbel
      by_cases hbad : 8 < k ∨ n - (p + 1) < k
      · rw [if_pos hbad, rdV_bad]
        clear HMB HT hwt htl
        by_cases h8 : 8 < k
        · have h8I : (8 : Int) < (k : Int) := by omega
          go_enter Tryz.func42, Tryz.ntmps42
          go_wp2
          exact bodyPost_ret (v := .agg #[.int .i64 0, .int .i64 0, .string ⟨#[]⟩, .slice none 0 0, .int .i64 21, .int .i64 0]) (by simp [results, Tryz.results42, go_sem]) rfl ⟨rfl, (Below.refl _ _).alloc (Nat.le_refl _) _⟩
        · have h8I : ¬ (8 : Int) < (k : Int) := by omega
          have hnI : (n : Int) < (p : Int) + 1 + (k : Int) := by omega
          go_enter Tryz.func42, Tryz.ntmps42
          go_wp2
          exact bodyPost_ret (v := .agg #[.int .i64 0, .int .i64 0, .string ⟨#[]⟩, .slice none 0 0, .int .i64 21, .int .i64 0]) (by simp [results, Tryz.results42, go_sem]) rfl ⟨rfl, (Below.refl _ _).alloc (Nat.le_refl _) _⟩
      · rw [if_neg hbad]
        obtain ⟨R, hR⟩ : ∃ R, rdV 3 (if 9223372036854775807 < mI false t k ∨ wd (mI false t k) ≠ k then (0, 0, 21) else (if false = true then -(mI false t k) - 1 else mI false t k, (p : Int) + 1 + k, 0)) = R := ⟨_, rfl⟩
        rw [hR]
        have HR := hidden hR
        clear hR
        have h8I : ¬ (8 : Int) < (k : Int) := by omega
        have hnI : ¬ (n : Int) < (p : Int) + 1 + (k : Int) := by omega
        go_enter Tryz.func42, Tryz.ntmps42
        go_wp2_with fail
        go_loop [7, 8] (fun x y => ∃ i : Nat, i ≤ k ∧ x = .int .u64 (mI false t i) ∧ y = .int .i64 (i : Int)) (fun _ y => k - (RowKit.intOf y).toNat)
        case atStart => exact ⟨0, by omega, by rw [mI_zero], rfl⟩
        case round =>
          obtain ⟨i, hi, rfl, rfl⟩ := hrel
          by_cases hlt : i < k
          · have hltI : (i : Int) < (k : Int) := by omega
            obtain ⟨hcell, d0, d1⟩ := HT.out i (by omega)
            obtain ⟨_, _, hb3⟩ := HMB.out i hi (by omega) (by omega)
            obtain ⟨m0, m1⟩ := hb3 hlt
            obtain ⟨M, hM⟩ : ∃ M, mI false t i = M := ⟨_, rfl⟩
            obtain ⟨d, hdd⟩ : ∃ d, t.getD i 0 = d := ⟨_, rfl⟩
            rw [hM] at m0 m1 ⊢
            rw [hdd] at hcell d0 d1
            have HS : Hid (mI false t (i + 1) = 256 * M + d) := hidden (by rw [mI_succ false t i (by omega), hM, hdd]; rfl)
            clear hb3 hM hdd
            go_wp2
            go_round
            case rel => exact ⟨i + 1, by omega, by rw [HS.out], by go_num⟩
            case measure => simp [RowKit.intOf]; omega
          · obtain rfl : i = k := by omega
            have hge : ¬ (i : Int) < (i : Int) := by omega
            obtain ⟨m0, m1, _⟩ := HMB.out i (Nat.le_refl _) (by omega) (by omega)
            obtain ⟨M, hM⟩ : ∃ M, mI false t i = M := ⟨_, rfl⟩
            rw [hM] at m0 m1 ⊢
            have HW : Hid (∀ u, Calls Tryz.prog 67 #[.int .u64 M] u fun e w' => e = .returned (.int .i64 (wd M)) ∧ w' = u) := hidden fun u => width_any M u m0 m1
            obtain ⟨v, hv⟩ : ∃ v, wd M = v := ⟨_, rfl⟩
            rw [hv] at HW
            have hR := HR.out
            rw [hM, hv] at hR
            clear HR hM hv
            by_cases hwd : v = i
            · subst hwd
              have ew : ((v : Int) == (v : Int)) = true := by simp
              by_cases hbig : 9223372036854775807 < M
              · have hbI : (9223372036854775808 : Int) ≤ M := by omega
                rw [if_pos (.inl hbig), rdV_bad] at hR
                subst hR
                go_wp2_with (go_at_call 67; refine same_call (HW.out _) ?_)
                exact bodyPost_ret (v := .agg #[.int .i64 0, .int .i64 0, .string ⟨#[]⟩, .slice none 0 0, .int .i64 21, .int .i64 0]) (by simp [results, Tryz.results42, go_sem]) rfl ⟨rfl, (Below.refl _ _).alloc (Nat.le_refl _) _⟩
              · have hbI : ¬ (9223372036854775808 : Int) ≤ M := by omega
                rw [if_neg (by omega)] at hR
                subst hR
                have hw64 : IntKind.i64.wrap M = M := by rw [IntKind.wrap_i64]; omega
                go_wp2_with (go_at_call 67; refine same_call (HW.out _) ?_)
                exact bodyPost_ret (v := .agg #[.int .i64 3, .int .i64 M, .string ⟨#[]⟩, .slice none 0 0, .int .i64 0, .int .i64 ((p : Int) + 1 + v)]) (by simp [results, Tryz.results42, go_sem]) rfl ⟨rfl, ((Below.refl _ _).alloc (Nat.le_refl _) _).alloc (by simp) _⟩
            · have ew : ((v : Int) == (i : Int)) = false := by simp; omega
              have ew2 : ¬ (v : Int) = (i : Int) := by omega
              rw [if_pos (.inr hwd), rdV_bad] at hR
              subst hR
              go_wp2_with (go_at_call 67; refine same_call (HW.out _) ?_)
              exact bodyPost_ret (v := .agg #[.int .i64 0, .int .i64 0, .string ⟨#[]⟩, .slice none 0 0, .int .i64 21, .int .i64 0]) (by simp [results, Tryz.results42, go_sem]) rfl ⟨rfl, (Below.refl _ _).alloc (Nat.le_refl _) _⟩
    case true =>
      have hcn : c < 128 := by simpa using hbel.symm
      obtain ⟨K0, hK0⟩ : ∃ K0, c - 128 = K0 := ⟨_, rfl⟩
      have hk2 : K0 < 0 := by omega
      have hk1 : -K0 - 1 = (k : Int) := by have : 127 - c = (k : Int) := by simpa using hk
                                           omega
      clear hk hbel
      by_cases hbad : 8 < k ∨ n - (p + 1) < k
      · rw [if_pos hbad, rdV_bad]
        clear HMB HT hwt htl
        by_cases h8 : 8 < k
        · have h8I : (8 : Int) < (k : Int) := by omega
          go_enter Tryz.func42, Tryz.ntmps42
          go_wp2
          exact bodyPost_ret (v := .agg #[.int .i64 0, .int .i64 0, .string ⟨#[]⟩, .slice none 0 0, .int .i64 21, .int .i64 0]) (by simp [results, Tryz.results42, go_sem]) rfl ⟨rfl, (Below.refl _ _).alloc (Nat.le_refl _) _⟩
        · have h8I : ¬ (8 : Int) < (k : Int) := by omega
          have hnI : (n : Int) < (p : Int) + 1 + (k : Int) := by omega
          go_enter Tryz.func42, Tryz.ntmps42
          go_wp2
          exact bodyPost_ret (v := .agg #[.int .i64 0, .int .i64 0, .string ⟨#[]⟩, .slice none 0 0, .int .i64 21, .int .i64 0]) (by simp [results, Tryz.results42, go_sem]) rfl ⟨rfl, (Below.refl _ _).alloc (Nat.le_refl _) _⟩
      · rw [if_neg hbad]
        obtain ⟨R, hR⟩ : ∃ R, rdV 3 (if 9223372036854775807 < mI true t k ∨ wd (mI true t k) ≠ k then (0, 0, 21) else (if true = true then -(mI true t k) - 1 else mI true t k, (p : Int) + 1 + k, 0)) = R := ⟨_, rfl⟩
        rw [hR]
        have HR := hidden hR
        clear hR
        have h8I : ¬ (8 : Int) < (k : Int) := by omega
        have hnI : ¬ (n : Int) < (p : Int) + 1 + (k : Int) := by omega
        go_enter Tryz.func42, Tryz.ntmps42
        go_wp2_with fail
        go_loop [7, 8] (fun x y => ∃ i : Nat, i ≤ k ∧ x = .int .u64 (mI true t i) ∧ y = .int .i64 (i : Int)) (fun _ y => k - (RowKit.intOf y).toNat)
        case atStart => exact ⟨0, by omega, by rw [mI_zero], rfl⟩
        case round =>
          obtain ⟨i, hi, rfl, rfl⟩ := hrel
          by_cases hlt : i < k
          · have hltI : (i : Int) < (k : Int) := by omega
            obtain ⟨hcell, d0, d1⟩ := HT.out i (by omega)
            obtain ⟨_, _, hb3⟩ := HMB.out i hi (by omega) (by omega)
            obtain ⟨m0, m1⟩ := hb3 hlt
            obtain ⟨M, hM⟩ : ∃ M, mI true t i = M := ⟨_, rfl⟩
            obtain ⟨d, hdd⟩ : ∃ d, t.getD i 0 = d := ⟨_, rfl⟩
            rw [hM] at m0 m1 ⊢
            rw [hdd] at hcell d0 d1
            have hd : bits .xor .u8 d 255 = 255 - d := not8 d d0 d1
            have HS : Hid (mI true t (i + 1) = 256 * M + (255 - d)) := hidden (by rw [mI_succ true t i (by omega), hM, hdd]; rfl)
            clear hb3 hM hdd
            go_wp2
            go_round
            case rel => exact ⟨i + 1, by omega, by rw [HS.out], by go_num⟩
            case measure => simp [RowKit.intOf]; omega
          · obtain rfl : i = k := by omega
            have hge : ¬ (i : Int) < (i : Int) := by omega
            obtain ⟨m0, m1, _⟩ := HMB.out i (Nat.le_refl _) (by omega) (by omega)
            obtain ⟨M, hM⟩ : ∃ M, mI true t i = M := ⟨_, rfl⟩
            rw [hM] at m0 m1 ⊢
            have HW : Hid (∀ u, Calls Tryz.prog 67 #[.int .u64 M] u fun e w' => e = .returned (.int .i64 (wd M)) ∧ w' = u) := hidden fun u => width_any M u m0 m1
            obtain ⟨v, hv⟩ : ∃ v, wd M = v := ⟨_, rfl⟩
            rw [hv] at HW
            have hR := HR.out
            rw [hM, hv] at hR
            clear HR hM hv
            by_cases hwd : v = i
            · subst hwd
              have ew : ((v : Int) == (v : Int)) = true := by simp
              by_cases hbig : 9223372036854775807 < M
              · have hbI : (9223372036854775808 : Int) ≤ M := by omega
                rw [if_pos (.inl hbig), rdV_bad] at hR
                subst hR
                go_wp2_with (go_at_call 67; refine same_call (HW.out _) ?_)
                exact bodyPost_ret (v := .agg #[.int .i64 0, .int .i64 0, .string ⟨#[]⟩, .slice none 0 0, .int .i64 21, .int .i64 0]) (by simp [results, Tryz.results42, go_sem]) rfl ⟨rfl, (Below.refl _ _).alloc (Nat.le_refl _) _⟩
              · have hbI : ¬ (9223372036854775808 : Int) ≤ M := by omega
                rw [if_neg (by omega)] at hR
                subst hR
                have hw64 : IntKind.i64.wrap M = M := by rw [IntKind.wrap_i64]; omega
                go_wp2_with (go_at_call 67; refine same_call (HW.out _) ?_)
                exact bodyPost_ret (v := .agg #[.int .i64 3, .int .i64 (-M - 1), .string ⟨#[]⟩, .slice none 0 0, .int .i64 0, .int .i64 ((p : Int) + 1 + v)]) (by simp [results, Tryz.results42, go_sem]) rfl ⟨rfl, ((Below.refl _ _).alloc (Nat.le_refl _) _).alloc (by simp) _⟩
            · have ew : ((v : Int) == (i : Int)) = false := by simp; omega
              have ew2 : ¬ (v : Int) = (i : Int) := by omega
              rw [if_pos (.inr hwd), rdV_bad] at hR
              subst hR
              go_wp2_with (go_at_call 67; refine same_call (HW.out _) ?_)
              exact bodyPost_ret (v := .agg #[.int .i64 0, .int .i64 0, .string ⟨#[]⟩, .slice none 0 0, .int .i64 21, .int .i64 0]) (by simp [results, Tryz.results42, go_sem]) rfl ⟨rfl, (Below.refl _ _).alloc (Nat.le_refl _) _⟩
  · obtain rfl : p = n := by omega
    have e : rdI (l.drop p) p = (0, 0, 21) := by rw [List.drop_eq_nil_of_le (by omega)]; rfl
    rw [e, rdV_bad]
    clear hs e
    go_enter Tryz.func42, Tryz.ntmps42
    go_wp2
    exact bodyPost_ret (v := .agg #[.int .i64 0, .int .i64 0, .string ⟨#[]⟩, .slice none 0 0, .int .i64 21, .int .i64 0]) (by simp [results, Tryz.results42, go_sem]) rfl ⟨rfl, (Below.refl _ _).alloc (Nat.le_refl _) _⟩
end Go.Proofs.YtpiijmionafmcaaGreatDoor
