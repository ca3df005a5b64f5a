/- The document's Fixed and Uint come to the same bytes. -/
import Derived.Test.YtiemnbanehdmnaaGreatDoorJa
import Derived.Test.YtiemnbanehdmnaaGreatDoorJe
import Derived.Test.YtiemnbanehdmnaaGreatDoorJb
import Derived.Test.YtiemnbanehdmnaaGreatDoorJc
import Derived.Test.YtiemnbanehdmnaaGreatDoorJf
namespace Go.Proofs.YtiemnbanehdmnaaGreatDoor
open Go.RowKit

set_option maxRecDepth 100000 in
set_option maxHeartbeats 400000 in
theorem refUint_any (n : Int) (w : World) (h0 : 0 ≤ n) (hn : n < 18446744073709551616) :
    Calls Tryz.prog 94 #[.int .u64 n] w fun e w' => ∃ v, e = .returned v ∧ OwnB w' w.heap.size v (uB n) ∧ Below w.heap.size w w' := by
  go_enter Tryz.func94, Tryz.ntmps94
  go_wp2_with fail
  go_loopw [0, 3] (fun x v wr => ∃ (m : Int) (acc : List Int), 0 ≤ m ∧ m < 18446744073709551616 ∧ x = .int .u64 m ∧ acc ++ uB m = uB n ∧ OwnB wr w.heap.size v acc ∧ Below w.heap.size w wr) (fun x _ _ => (intOf x).toNat)
  case atStart => exact ⟨n, [], h0, hn, rfl, rfl, OwnB.nil _ _, Below.refl _ _⟩
  case round =>
    obtain ⟨m, acc, hm0, hm, rfl, hac, hown, hb⟩ := hrel
    have HA : Hid (acc ++ uB m = uB n) := hac
    clear hac
    have hsz := hb.size
    have hlen : acc.length + 1 ≤ 10 := by
      have h1 := congrArg List.length HA.out
      have h2 := uB_length m
      have h3 := uB_length n
      simp only [List.length_append] at h1
      omega
    by_cases hlt : m < 128
    · go_wp2_with (at_builtin; refine app_bytes _ rfl _ _ rfl w.heap.size acc _ rfl (hown.alloc _) _ 1 1 [m] rfl rfl (one_cell _ _) (by omega) (by simp; omega) ?_)
      intro v' w2 hown2 hb2
      rw [← uB_small hlt, HA.out] at hown2
      have R : Below w.heap.size w w2 := (hb.alloc hsz _).trans hb2
      clear hb2
      go_wp2
      go_ret
      exact ⟨_, rfl, hown2, R⟩
    · have hgt : 127 < m := by omega
      go_wp2_with (at_builtin; refine app_bytes _ rfl _ _ rfl w.heap.size acc _ rfl (hown.alloc _) _ 1 1 [128 + m % 128] rfl rfl (one_cell _ _) (by omega) (by simp; omega) ?_)
      intro v' w2 hown2 hb2
      have R : Below w.heap.size w w2 := (hb.alloc hsz _).trans hb2
      rw [Int.add_comm 128 (m % 128)] at hown2
      clear hb2
      go_wp2
      go_roundw
      case rel => exact ⟨m / 128, acc ++ [m % 128 + 128], by omega, by omega, rfl, by rw [← HA.out, uB_step (by omega) hm]; simp, hown2, R⟩
      case measure => simp [intOf]; omega

set_option maxRecDepth 100000 in
theorem refFixed_no (n x : Int) (w : World) (h : x < 1 ∨ 8 < x) :
    Calls Tryz.prog 50 #[.int .u64 n, .int .i64 x] w fun e w' => e = .returned (.slice none 0 0) ∧ w' = w := by
  rcases h with h | h
  · go_enter Tryz.func50, Tryz.ntmps50
    go_wp2
    go_ret
    exact ⟨rfl, rfl⟩
  · have h' : ¬ x < 1 := by omega
    go_enter Tryz.func50, Tryz.ntmps50
    go_wp2
    go_ret
    exact ⟨rfl, rfl⟩

set_option maxRecDepth 100000 in
set_option maxHeartbeats 1000000 in
theorem refFixed_yes (n x : Int) (w : World) (h0 : 0 ≤ n) (hn : n < 18446744073709551616) (h1 : 1 ≤ x) (h2 : x ≤ 8) :
    Calls Tryz.prog 50 #[.int .u64 n, .int .i64 x] w fun e w' => ∃ v, e = .returned v ∧ OwnB w' w.heap.size v (fB x.toNat n) ∧ Below w.heap.size w w' := by
  obtain ⟨width, rfl⟩ := Int.eq_ofNat_of_zero_le (show 0 ≤ x by omega)
  rw [Int.toNat_natCast]
  go_enter Tryz.func50, Tryz.ntmps50
  go_wp2_with fail
  go_loopw [5, 6] (fun v i wr => ∃ (k : Nat) (acc : List Int), k ≤ width ∧ i = .int .i64 ((k : Int) - 1) ∧ acc ++ fB k n = fB width n ∧ OwnB wr w.heap.size v acc ∧ Below w.heap.size w wr) (fun _ i _ => (intOf i + 1).toNat)
  case atStart => exact ⟨width, [], Nat.le_refl _, rfl, rfl, OwnB.nil _ _, Below.refl _ _⟩
  case round =>
    obtain ⟨k, acc, hk, rfl, hac, hown, hb⟩ := hrel
    have HA := hidden hac
    clear hac
    have hsz := hb.size
    have hlen : acc.length ≤ 8 := by
      have h1 := congrArg List.length HA.out
      simp only [List.length_append, fB_length] at h1
      omega
    by_cases hk0 : k = 0
    · subst hk0
      have e : acc = fB width n := by have := HA.out; simpa [fB] using this
      rw [e] at hown
      clear e HA
      go_wp2
      go_ret
      exact ⟨_, rfl, hown, hb⟩
    · obtain ⟨j, rfl⟩ : ∃ j, k = j + 1 := ⟨k - 1, by omega⟩
      go_wp2_with fail
      go_loopw [7, 8] (fun x i w' => ∃ t : Nat, t ≤ j ∧ i = .int .i64 t ∧ x = .int .u64 (n / 256 ^ t) ∧ w' = wr) (fun _ i _ => j - (intOf i).toNat)
      case atStart => exact ⟨0, by omega, rfl, by simp, rfl⟩
      case round =>
        obtain ⟨t, ht, rfl, rfl, rfl⟩ := hrel
        have hpos : 0 ≤ n / 256 ^ t := Int.ediv_nonneg h0 (Int.le_of_lt (Int.pow_pos (by omega)))
        have hle : n / 256 ^ t ≤ n := Int.ediv_le_self _ h0
        have HP := hidden (pow256 n t)
        by_cases hlt : t < j
        · generalize n / 256 ^ t = y at *
          go_wp2
          go_roundw
          case rel => exact ⟨t + 1, by omega, by go_num, by rw [← HP.out], trivial⟩
          case measure => simp [intOf]; omega
        · obtain rfl : t = j := by omega
          generalize hy : n / 256 ^ t = y at *
          have HY := hidden hy
          clear hy
          go_wp2_with (at_builtin; refine app_bytes _ rfl _ _ rfl w.heap.size acc _ rfl (hown.alloc _) _ 1 1 [y % 256] rfl rfl (one_cell _ _) (by omega) (by simp; omega) ?_)
          intro v2 w2 hown2 hb2
          have R2 : Below w.heap.size w w2 := (hb.alloc hsz _).trans hb2
          clear hb2 hown
          go_wp2
          go_roundw
          case rel => exact ⟨t, acc ++ [y % 256], by omega, by go_num, by rw [← HA.out, fB, HY.out]; simp, hown2, R2⟩
          case measure => simp [intOf]
end Go.Proofs.YtiemnbanehdmnaaGreatDoor

/- The document's add and rest (layer 7). -/

namespace Go.Proofs.YtiemnbanehdmnaaGreatDoor
open Go.RowKit

set_option maxRecDepth 100000 in
/-- Bytes that were made later lie elsewhere. -/
theorem own_far {w w' : World} {B C : Nat} {v : Value} {l m : List Int} {ao : Option Addr} {n c : Nat} (h : OwnB w B v l) (k : OwnB w' C (.slice ao n c) m) (hz : w.heap.size ≤ C) : Far ao n v := by
  right
  intro p hp e
  have h1 : p.block < w.heap.size := (World.ownsRow.lt h p.block e).2
  rcases k.2 with ⟨e2, _⟩ | ⟨g, cap, cur, e2, hg, _⟩
  · injection e2 with e3
    rw [e3] at hp
    cases hp
  · injection e2 with e3
    rw [e3] at hp
    injection hp with hp
    subst hp
    simp only at h1
    omega
set_option maxRecDepth 100000 in
/-- Bytes that lay there ahead lie elsewhere. -/
theorem sl_far {w w' : World} {B : Nat} {v : Value} {l m : List Int} {ao : Option Addr} {n c : Nat} (hs : Sl w ao n c m) (h : OwnB w' B v l) (hz : w.heap.size ≤ B) : Far ao n v := by
  rcases hs.hat with h0 | ⟨b, off, rfl, hlt, _⟩
  · exact .inl h0
  · exact h.far fun p hp => by injection hp with hp; subst hp; exact Nat.lt_of_lt_of_le hlt hz

set_option maxRecDepth 100000 in
set_option maxHeartbeats 1000000 in
theorem radd_any (v : Value) (B : Nat) (l r : List Int) (ao : Option Addr) (n c : Nat) (w : World) (ho : OwnB w B v l) (hs : Sl w ao n c r) (hf : Far ao n v) (hl : l.length + n ≤ 140737488355328) (hB : B ≤ w.heap.size) :
    Calls Tryz.prog 51 #[v, .slice ao n c] w fun e w' => ∃ v', e = .returned v' ∧ Hid (OwnB w' B v' (l ++ r)) ∧ Hid (Gr w v w' v') := by
  have HS := hidden hs
  have HF := hidden hf
  have HO := hidden ho
  have hlen := hs.hlen
  have hn := hs.hroom
  clear hs hf ho
  go_enter Tryz.func51, Tryz.ntmps51
  go_wp2_with fail
  go_loopw [0, 5] (fun b i wr => ∃ k : Nat, k ≤ n ∧ i = .int .i64 k ∧ Hid (OwnB wr B b (l ++ r.take k)) ∧ Hid (Gr w v wr b)) (fun _ i _ => n - (intOf i).toNat)
  case atStart => exact ⟨0, by omega, rfl, by simpa using HO, hidden (Gr.refl _ _)⟩
  case round =>
    obtain ⟨k, hk, rfl, HOK, HG⟩ := hrel
    clear HO
    have hki : (k : Int) ≤ 140737488355328 := by omega
    by_cases hlt : k < n
    · have hltI : (k : Int) < (n : Int) := by omega
      have HSK := hidden (HS.out.gr HG.out HF.out)
      have hwf := HSK.out.wf.getD k
      rcases HSK.out.hat with h | ⟨b', off', rfl, hbb', hc'⟩
      · omega
      have hcj := hc' k hlt
      have hts := take_snoc r k (by omega)
      obtain ⟨y, hy⟩ : ∃ y, r.getD k 0 = y := ⟨_, rfl⟩
      rw [hy] at hcj hts hwf
      have HT := hidden hts
      have hBr : B ≤ wr.heap.size := Nat.le_trans hB HG.out.grow.size
      have hll : (l ++ r.take k).length + 1 ≤ 140737488355328 := by simp only [List.length_append, List.length_take]; omega
      have HLL := hidden hll
      clear hc' hts hy hll
      go_wp2_with (at_builtin; refine app_sl _ rfl _ _ rfl B (l ++ r.take k) [y] _ (some ⟨wr.heap.size, 0, none⟩) 1 1 rfl rfl (HOK.out.alloc _) (sl_one wr y hwf) HLL.out (by simp; omega) ?_; refine Hid.out ?_)
      apply hidden
      intro v2 w2 ho2 g2
      have HO2 : Hid (OwnB w2 B v2 (l ++ r.take (k + 1))) := hidden (by rw [HT.out]; simpa [List.append_assoc] using ho2)
      have HG2 := hidden ((HG.out.trans (Gr.alloc _ _ _)).trans g2)
      clear ho2 g2 HOK HG hcj HSK HT HLL
      go_wp2
      go_roundw
      case rel => exact ⟨k + 1, by omega, by go_num, HO2, HG2⟩
      case measure => simp [intOf]; omega
    · have e : r.take k = r := List.take_of_length_le (by omega)
      rw [e] at HOK
      go_wp2
      go_ret
      exact ⟨_, rfl, HOK, HG⟩
set_option maxRecDepth 100000 in
/-- The same, said of what was there ahead. -/
theorem radd_to (v : Value) (B : Nat) (l r : List Int) (ao : Option Addr) (n c : Nat) (w : World) (ho : OwnB w B v l) (hs : Sl w ao n c r) (hf : Far ao n v) (hl : l.length + n ≤ 140737488355328) (hB : B ≤ w.heap.size) :
    Calls Tryz.prog 51 #[v, .slice ao n c] w fun e w' => ∃ v', e = .returned v' ∧ Hid (OwnB w' B v' (l ++ r)) ∧ Hid (Below B w w') :=
  (radd_any v B l r ao n c w ho hs hf hl hB).mono fun e w' h => by
    obtain ⟨v', h1, h2, h3⟩ := h
    exact ⟨v', h1, h2, hidden (h3.out.below ho hB)⟩

set_option maxRecDepth 100000 in
theorem rrest_whole (k i : Int) (ao : Option Addr) (n c m : Nat) (w : World) (h : k = 3 ∧ i = 0) :
    Calls Tryz.prog 93 #[.int .i64 k, .int .i64 i, .slice ao n c, .int .i64 (m : Int)] w fun e w' => e = .returned (.slice ao n c) ∧ w' = w := by
  obtain ⟨rfl, rfl⟩ := h
  go_enter Tryz.func93, Tryz.ntmps93
  go_wp2
  go_ret
  exact ⟨rfl, rfl⟩

set_option maxRecDepth 100000 in
theorem rrest_cut (k i : Int) (ao : Option Addr) (n c m : Nat) (l : List Int) (w : World) (h : ¬ (k = 3 ∧ i = 0)) (hs : Sl w ao n c l) (hm : m ≤ n) :
    Calls Tryz.prog 93 #[.int .i64 k, .int .i64 i, .slice ao n c, .int .i64 (m : Int)] w fun e w' => (∃ a' c', e = .returned (.slice a' (n - m) c') ∧ Hid (Sl w a' (n - m) c' (l.drop m))) ∧ w' = w := by
  have hf := sl_from hs m hm
  have hc := hs.hcap
  have hr := hs.hroom
  have hll := hs.hlen
  have hmI : (m : Int) ≤ (n : Int) := by omega
  have hlc : m ≤ c := by omega
  have hlcI : (m : Int) ≤ (c : Int) := by omega
  have hlt : ¬ (n : Int) < (m : Int) := by omega
  have i1 : (m : Int) ≤ 140737488355328 := by omega
  clear hs
  by_cases h3 : k = 3
  · have hi : ¬ i = 0 := fun e => h ⟨h3, e⟩
    have hib : (i == 0) = false := by simpa using hi
    subst h3
    clear h hi
    rcases hf with ⟨rfl, rfl, rfl⟩ | ⟨a, rfl, ⟨e, hS⟩ | ⟨e, hS⟩⟩
    · obtain rfl : m = 0 := by omega
      have HE : Hid (Sl w none 0 0 (l.drop 0)) := hidden (by rw [show l.drop 0 = [] from List.eq_nil_of_length_eq_zero (by simpa using hll)]; exact Sl.nil_any _ _ _ (fun _ => rfl))
      go_enter Tryz.func93, Tryz.ntmps93
      go_wp2
      go_ret
      exact ⟨⟨_, _, rfl, HE⟩, rfl⟩
    · have HS := hidden hS
      subst e
      obtain rfl : n = c := by omega
      clear hS
      go_enter Tryz.func93, Tryz.ntmps93
      go_wp2
      go_ret
      exact ⟨⟨_, _, rfl, by simpa using HS⟩, rfl⟩
    · have HS := hidden hS
      have hcn2 : c - m ≠ 0 := by omega
      have hcn3 : m < c := by omega
      have hcn4 : (m : Int) < (c : Int) := by omega
      clear hS
      go_enter Tryz.func93, Tryz.ntmps93
      go_wp2
      go_ret
      exact ⟨⟨_, _, rfl, by simpa using HS⟩, rfl⟩
  · have hkb : (k == 3) = false := by simpa using h3
    clear h h3
    rcases hf with ⟨rfl, rfl, rfl⟩ | ⟨a, rfl, ⟨e, hS⟩ | ⟨e, hS⟩⟩
    · obtain rfl : m = 0 := by omega
      have HE : Hid (Sl w none 0 0 (l.drop 0)) := hidden (by rw [show l.drop 0 = [] from List.eq_nil_of_length_eq_zero (by simpa using hll)]; exact Sl.nil_any _ _ _ (fun _ => rfl))
      go_enter Tryz.func93, Tryz.ntmps93
      go_wp2
      go_ret
      exact ⟨⟨_, _, rfl, HE⟩, rfl⟩
    · have HS := hidden hS
      subst e
      obtain rfl : n = c := by omega
      clear hS
      go_enter Tryz.func93, Tryz.ntmps93
      go_wp2
      go_ret
      exact ⟨⟨_, _, rfl, by simpa using HS⟩, rfl⟩
    · have HS := hidden hS
      have hcn2 : c - m ≠ 0 := by omega
      have hcn3 : m < c := by omega
      have hcn4 : (m : Int) < (c : Int) := by omega
      clear hS
      go_enter Tryz.func93, Tryz.ntmps93
      go_wp2
      go_ret
      exact ⟨⟨_, _, rfl, by simpa using HS⟩, rfl⟩
end Go.Proofs.YtiemnbanehdmnaaGreatDoor

/- The document's bytes of a cell (layer 7). -/

namespace Go.Proofs.YtiemnbanehdmnaaGreatDoor
open Go.RowKit

set_option maxRecDepth 100000 in
theorem own_one8 (w : World) (x : Int) : OwnB (w.alloc (.cells #[.int .u8 x] 5)) w.heap.size (.slice (some ⟨w.heap.size, 0, none⟩) 1 1) [x] :=
  own_of_heap (l := [x]) (heap_alloc_last w _) (Nat.le_refl _) (by unfold maxLen; simp)

set_option maxRecDepth 100000 in
set_option maxHeartbeats 4000000 in
theorem rbytes_any (k i : Int) (c : Cl) (ka va : Option Addr) (kc vc m : Nat) (w : World) (h1 : Sl w ka c.key.length kc c.key) (h2 : Sl w va c.val.length vc c.val) (hm : ¬ (k = 3 ∧ i = 0) → m ≤ c.key.length) (hl : c.key.length + c.val.length ≤ 35184372088832) :
    Calls Tryz.prog 52 #[.int .i64 k, .int .i64 i, .agg #[.slice ka c.key.length kc, .int .i64 c.kd, .slice va c.val.length vc, .int .i64 c.pg, .int .i64 c.ct], .int .i64 (m : Int)] w fun e w' => ∃ v, e = .returned v ∧ Hid (OwnB w' w.heap.size v (qB (if k = 3 ∧ i = 0 then 0 else m) c)) ∧ Hid (Below w.heap.size w w') := by
  obtain ⟨key, kd, val, pg, ct⟩ := c
  simp only at h1 h2 hm hl ⊢
  obtain ⟨kn, hkn⟩ : ∃ kn, key.length = kn := ⟨_, rfl⟩
  obtain ⟨vn, hvn⟩ : ∃ vn, val.length = vn := ⟨_, rfl⟩
  rw [hkn] at h1 hm hl ⊢
  rw [hvn] at h2 hl ⊢
  obtain ⟨x, hx⟩ : ∃ x, w.alloc (.cells #[.slice ka kn kc, .int .i64 kd, .slice va vn vc, .int .i64 pg, .int .i64 ct] 49) = x := ⟨_, rfl⟩
  have hbx : Below w.heap.size w x := by rw [← hx]; exact bl_al (Below.refl _ _) (Nat.le_refl _) _
  have hb5 : C5 x w.heap.size (.slice ka kn kc) (.int .i64 kd) (.slice va vn vc) (.int .i64 pg) (.int .i64 ct) := by rw [← hx]; exact C5.box w _ _ _ _ _
  obtain ⟨M, hM⟩ : ∃ M, (if k = 3 ∧ i = 0 then 0 else m) = M := ⟨_, rfl⟩
  rw [hM]
  have hMk : M ≤ kn := by rw [← hM]; split <;> rename_i h <;> first | omega | exact hm h
  have HR : Hid (Calls Tryz.prog 93 #[.int .i64 k, .int .i64 i, .slice ka kn kc, .int .i64 (m : Int)] x fun e w' => (∃ a' c', e = .returned (.slice a' (kn - M) c') ∧ Hid (Sl x a' (kn - M) c' (key.drop M))) ∧ w' = x) := hidden (by
    have h1x := h1.on (Nat.le_refl _) hbx
    by_cases h : k = 3 ∧ i = 0
    · rw [if_pos h] at hM
      subst hM
      refine (rrest_whole k i ka kn kc m x h).mono ?_
      rintro e w' ⟨rfl, rfl⟩
      exact ⟨⟨_, _, rfl, hidden (by simpa using h1x)⟩, rfl⟩
    · rw [if_neg h] at hM
      subst hM
      exact rrest_cut k i ka kn kc m key x h h1x (hm h))
  obtain ⟨s, hs⟩ : ∃ s, w.heap.size = s := ⟨_, rfl⟩
  rw [hs] at hb5
  have hsx : s < x.heap.size := lt_some hb5
  have HBX := hidden hbx
  have HB5 := hidden hb5
  have HV := hidden (h2.on (Nat.le_refl _) hbx)
  obtain ⟨N, hN⟩ : ∃ N, kn - M = N := ⟨_, rfl⟩
  have hNk : N ≤ kn := by omega
  have hQ : ∀ T, (if kd = 1 then uB (vn : Int) ++ val else uB (pg % 18446744073709551616) ++ uB (ct % 18446744073709551616)) = T → qB M ⟨key, kd, val, pg, ct⟩ = [kd % 256] ++ uB (N : Int) ++ key.drop M ++ T := by
    intro T hT
    unfold qB
    simp only
    rw [hvn, hT, hkn, hN]
    simp only [List.append_assoc]
  have HQ := hidden hQ
  rw [hN] at HR
  obtain ⟨R, hR⟩ : ∃ R, key.drop M = R := ⟨_, rfl⟩
  rw [hR] at HR HQ
  have HRL : Hid (R.length = N) := hidden (by rw [← hR, List.length_drop, hkn, hN])
  obtain ⟨QQ, hQQ⟩ : ∃ Q, qB M ⟨key, kd, val, pg, ct⟩ = Q := ⟨_, rfl⟩
  rw [hQQ] at HQ ⊢
  obtain ⟨b0, b1, b2, b3, b4⟩ := hb5.cells
  have i1 : (N : Int) ≤ 35184372088832 := by omega
  have i2 : (vn : Int) ≤ 35184372088832 := by omega
  clear h1 h2 hm hM hbx hb5 hR hQ hN hMk hQQ
  go_enter Tryz.func52, Tryz.ntmps52
  go_wp2_with (first | (go_at_call 93; refine HR.out.mono ?_; rintro e w1 ⟨⟨a1, c1, rfl, HS1⟩, rfl⟩; refine Hid.out ?_))
  apply hidden
  clear HR hx
  obtain ⟨y, hy⟩ : ∃ y, w1.alloc (.cells #[.int .u8 (kd % 256)] 5) = y := ⟨_, rfl⟩
  have hby : Below w1.heap.size w1 y := by rw [← hy]; exact bl_al (Below.refl _ _) (Nat.le_refl _) _
  have HOY : Hid (OwnB y w1.heap.size (.slice (some ⟨w1.heap.size, 0, none⟩) 1 1) [kd % 256]) := hidden (by rw [← hy]; exact own_one8 w1 _)
  have HBY := hidden hby
  have hBy : w1.heap.size ≤ y.heap.size := hby.size
  have hNw : IntKind.u64.wrap (N : Int) = (N : Int) := by rw [IntKind.wrap_u64]; omega
  have HU := hidden (refUint_any (N : Int) y (by omega) (by omega))
  clear hby
  go_wp2_with (first | (go_at_call 94; refine HU.out.mono ?_; rintro e w2 ⟨u2, rfl, ho2, hb2⟩; refine Hid.out ?_))
  apply hidden
  obtain ⟨ua, um, uc, rfl, us2, hum⟩ := ho2.slu (by omega) (by omega)
  have HO2 := hidden (HOY.out.on (Nat.le_refl _) hb2)
  have HF2 := hidden (own_far HOY.out ho2 (Nat.le_refl _))
  have HB2 := hidden (bl_go HBY.out (Nat.le_refl _) hb2)
  have hB2 : w1.heap.size ≤ w2.heap.size := Nat.le_trans hBy hb2.size
  have HA2 := hidden (radd_to (.slice (some ⟨w1.heap.size, 0, none⟩) 1 1) w1.heap.size [kd % 256] (uB (N : Int)) ua um uc w2 HO2.out us2 HF2.out (by simp; omega) hB2)
  clear HU ho2 us2 hb2 HO2 HF2 HOY HBY hBy hy b0 b1 b2 b3 b4
  go_wp2_with (first | (go_at_call 51; refine HA2.out.mono ?_; rintro e w3 ⟨v3, rfl, HO3, hb3⟩; refine Hid.out ?_))
  apply hidden
  have HB3 := hidden (HB2.out.trans hb3.out)
  have hB3 : w1.heap.size ≤ w3.heap.size := Nat.le_trans hB2 hb3.out.size
  have HS3 := hidden (HS1.out.on (Nat.le_refl _) HB3.out)
  have HL1 := (uB_length (N : Int)).1
  obtain ⟨L3, hL3⟩ : ∃ L, [kd % 256] ++ uB (N : Int) = L := ⟨_, rfl⟩
  have hll3 : L3.length ≤ 11 := by rw [← hL3]; simp only [List.length_append, List.length_cons, List.length_nil]; omega
  rw [hL3] at HO3 HQ
  have HA3 := hidden (radd_to v3 w1.heap.size L3 R a1 N c1 w3 HO3.out HS3.out (sl_far HS1.out HO3.out (Nat.le_refl _)) (by omega) hB3)
  clear HA2 hb3 HB2 hB2 HL1 hL3 HS3 HO3
  go_wp2_with (first | (go_at_call 51; refine HA3.out.mono ?_; rintro e w4 ⟨v4, rfl, HO4, hb4⟩; refine Hid.out ?_))
  apply hidden
  have HB4 := hidden (HB3.out.trans hb4.out)
  have hB4 : w1.heap.size ≤ w4.heap.size := Nat.le_trans hB3 hb4.out.size
  obtain ⟨L4, hL4⟩ : ∃ L, L3 ++ R = L := ⟨_, rfl⟩
  have hll4 : L4.length ≤ 11 + kn := by rw [← hL4, List.length_append, HRL.out]; omega
  rw [hL4] at HO4 HQ
  clear HA3 hb4 HB3 hB3 hL4 HS1 HRL
  have H54 := hidden (box_on HB5.out HB4.out)
  obtain ⟨b0, b1, b2, b3, b4⟩ := C5.cells H54.out
  have HV4 := hidden (HV.out.on (Nat.le_refl _) HB4.out)
  by_cases hk1 : kd = 1
  · subst hk1
    have hVw : IntKind.u64.wrap (vn : Int) = (vn : Int) := by rw [IntKind.wrap_u64]; omega
    have HQ1 := hidden (HQ.out _ (if_pos rfl))
    have HU := hidden (refUint_any (vn : Int) w4 (by omega) (by omega))
    clear HQ
    go_wp2_with (first | (go_at_call 94; refine HU.out.mono ?_; rintro e w5 ⟨u5, rfl, ho5, hb5⟩; refine Hid.out ?_))
    apply hidden
    obtain ⟨ub, un, ud, rfl, us5, hun⟩ := ho5.slu (by omega) (by omega)
    have HO5 := hidden (HO4.out.on (Nat.le_refl _) hb5)
    have HF5 := hidden (own_far HO4.out ho5 (Nat.le_refl _))
    have HB5' := hidden (bl_go HB4.out (Nat.le_refl _) hb5)
    have hB5 : w1.heap.size ≤ w5.heap.size := Nat.le_trans hB4 hb5.size
    have HA5 := hidden (radd_to v4 w1.heap.size L4 (uB (vn : Int)) ub un ud w5 HO5.out us5 HF5.out (by omega) hB5)
    clear HU ho5 us5 hb5 HO5 HF5 HO4
    go_wp2_with (first | (go_at_call 51; refine HA5.out.mono ?_; rintro e w6 ⟨v6, rfl, HO6, hb6⟩; refine Hid.out ?_))
    apply hidden
    have HB6 := hidden (HB5'.out.trans hb6.out)
    have hB6 : w1.heap.size ≤ w6.heap.size := Nat.le_trans hB5 hb6.out.size
    clear HA5 hb6 HB5' hB5 b0 b1 b2 b3 b4 H54
    have H56 := hidden (box_on HB5.out HB6.out)
    obtain ⟨b0, b1, b2, b3, b4⟩ := C5.cells H56.out
    have HV6 := hidden (HV.out.on (Nat.le_refl _) HB6.out)
    have hll6 : (L4 ++ uB (vn : Int)).length + vn ≤ 140737488355328 := by
      have := (uB_length (vn : Int)).1
      rw [List.length_append]
      omega
    have HA6 := hidden (radd_to v6 w1.heap.size (L4 ++ uB (vn : Int)) val va vn vc w6 HO6.out HV6.out (sl_far HV.out HO6.out (Nat.le_refl _)) hll6 hB6)
    clear HO6 HV6 HV4 H56
    go_wp2_with (first | (go_at_call 51; refine HA6.out.mono ?_; rintro e w7 ⟨v7, rfl, HO7, hb7⟩; refine Hid.out ?_))
    apply hidden
    have HO : Hid (OwnB w7 s v7 QQ) := hidden (by rw [HQ1.out, ← List.append_assoc]; exact HO7.out.low (Nat.le_of_lt hsx))
    have HB : Hid (Below s w w7) := hidden ((by have := HBX.out; rwa [hs] at this : Below s w w1).trans ((HB6.out.trans hb7.out).mono (Nat.le_of_lt hsx)))
    clear HA6 hb7
    go_wp2
    go_ret
    rw [hs]
    exact ⟨v7, rfl, HO, HB⟩
  · obtain ⟨P, hP⟩ : ∃ P, pg % 18446744073709551616 = P := ⟨_, rfl⟩
    obtain ⟨C, hC⟩ : ∃ C, ct % 18446744073709551616 = C := ⟨_, rfl⟩
    have hPw : IntKind.u64.wrap pg = P := by rw [IntKind.wrap_u64, hP]
    have hCw : IntKind.u64.wrap ct = C := by rw [IntKind.wrap_u64, hC]
    have HQ1 := hidden (HQ.out (uB P ++ uB C) (by rw [if_neg hk1, hP, hC]))
    have hP1 : 0 ≤ P ∧ P < 18446744073709551616 := by omega
    have hC1 : 0 ≤ C ∧ C < 18446744073709551616 := by omega
    have HU := hidden (refUint_any P w4 (by omega) (by omega))
    have hk1b : (kd == 1) = false := by simpa using hk1
    clear HQ hP hC HV4
    go_wp2_with (first | (go_at_call 94; refine HU.out.mono ?_; rintro e w5 ⟨u5, rfl, ho5, hb5⟩; refine Hid.out ?_))
    apply hidden
    obtain ⟨ub, un, ud, rfl, us5, hun⟩ := ho5.slu hP1.1 hP1.2
    have HO5 := hidden (HO4.out.on (Nat.le_refl _) hb5)
    have HF5 := hidden (own_far HO4.out ho5 (Nat.le_refl _))
    have HB5' := hidden (bl_go HB4.out (Nat.le_refl _) hb5)
    have hB5 : w1.heap.size ≤ w5.heap.size := Nat.le_trans hB4 hb5.size
    have HA5 := hidden (radd_to v4 w1.heap.size L4 (uB P) ub un ud w5 HO5.out us5 HF5.out (by omega) hB5)
    clear HU ho5 us5 hb5 HO5 HF5 HO4
    go_wp2_with (first | (go_at_call 51; refine HA5.out.mono ?_; rintro e w6 ⟨v6, rfl, HO6, hb6⟩; refine Hid.out ?_))
    apply hidden
    have HB6 := hidden (HB5'.out.trans hb6.out)
    have hB6 : w1.heap.size ≤ w6.heap.size := Nat.le_trans hB5 hb6.out.size
    clear HA5 hb6 HB5' hB5 b0 b1 b2 b3 b4 H54
    have H56 := hidden (box_on HB5.out HB6.out)
    obtain ⟨b0, b1, b2, b3, b4⟩ := C5.cells H56.out
    have HU := hidden (refUint_any C w6 hC1.1 hC1.2)
    go_wp2_with (first | (go_at_call 94; refine HU.out.mono ?_; rintro e w7 ⟨u7, rfl, ho7, hb7⟩; refine Hid.out ?_))
    apply hidden
    obtain ⟨ue, uq, uf, rfl, us7, huq⟩ := ho7.slu hC1.1 hC1.2
    have HO7 := hidden (HO6.out.on (Nat.le_refl _) hb7)
    have HF7 := hidden (own_far HO6.out ho7 (Nat.le_refl _))
    have HB7 := hidden (bl_go HB6.out (Nat.le_refl _) hb7)
    have hB7 : w1.heap.size ≤ w7.heap.size := Nat.le_trans hB6 hb7.size
    have hll6 : (L4 ++ uB P).length + uq ≤ 140737488355328 := by
      have := (uB_length P).1
      rw [List.length_append]
      omega
    have HA7 := hidden (radd_to v6 w1.heap.size (L4 ++ uB P) (uB C) ue uq uf w7 HO7.out us7 HF7.out hll6 hB7)
    clear HU ho7 us7 hb7 HO7 HF7 HO6 H56
    go_wp2_with (first | (go_at_call 51; refine HA7.out.mono ?_; rintro e w8 ⟨v8, rfl, HO8, hb8⟩; refine Hid.out ?_))
    apply hidden
    have HO : Hid (OwnB w8 s v8 QQ) := hidden (by rw [HQ1.out, ← List.append_assoc]; exact HO8.out.low (Nat.le_of_lt hsx))
    have HB : Hid (Below s w w8) := hidden ((by have := HBX.out; rwa [hs] at this : Below s w w1).trans ((HB7.out.trans hb8.out).mono (Nat.le_of_lt hsx)))
    clear HA7 hb8
    go_wp2
    go_ret
    rw [hs]
    exact ⟨v8, rfl, HO, HB⟩
end Go.Proofs.YtiemnbanehdmnaaGreatDoor

/- The document's Common (RefCommon, without layer 1's Live). -/

namespace Go.Proofs.YtiemnbanehdmnaaGreatDoor
open Go.RowKit

set_option maxRecDepth 100000 in
theorem lcp_ge (a b : List Int) (n : Nat) (ha : n ≤ a.length) (hb : n ≤ b.length) (h : ∀ i, i < n → a.getD i 0 = b.getD i 0) : n ≤ lcp a b := by
  rcases Nat.lt_or_ge (lcp a b) n with hlt | hge
  · exact absurd (h _ hlt) (lcp_next a b (by omega) (by omega))
  · exact hge
set_option maxRecDepth 100000 in
theorem lcp_comm : ∀ (a b : List Int), lcp a b = lcp b a
  | [], [] => rfl
  | [], _ :: _ => rfl
  | _ :: _, [] => rfl
  | x :: a, y :: b => by
    simp only [lcp]
    by_cases h : x = y
    · rw [if_pos h, if_pos h.symm, lcp_comm a b]
    · rw [if_neg h, if_neg (fun e => h e.symm)]
set_option maxRecDepth 100000 in
theorem lcp_takeL : ∀ (a b : List Int) (n : Nat), lcp (a.take n) b = min n (lcp a b)
  | [], b, n => by cases b <;> simp [lcp]
  | x :: a, [], n => by cases n <;> simp [lcp]
  | x :: a, y :: b, 0 => by simp [lcp]
  | x :: a, y :: b, n + 1 => by
    simp only [List.take_succ_cons, lcp]
    by_cases h : x = y
    · rw [if_pos h, if_pos h, lcp_takeL a b n]
      omega
    · rw [if_neg h, if_neg h]
      omega
set_option maxRecDepth 100000 in
theorem cmN_min (t : List Int) (r : List (List Int)) : cmN (t :: r) = r.foldl (fun n x => min n (lcp x t)) t.length := by
  show r.foldl _ _ = _
  congr 1
  funext n x
  rw [lcp_takeL, lcp_comm t x]

set_option maxRecDepth 100000 in
set_option maxHeartbeats 1000000 in
theorem begins_any (ao bo : Option Addr) (n m c d k : Nat) (la lb : List Int) (w : World) (ha : Sl w ao n c la) (hb : Sl w bo m d lb) (hk : k ≤ 140737488355328) :
    Calls Tryz.prog 132 #[.slice ao n c, .slice bo m d, .int .i64 k] w fun e w' => e = .returned (.bool (decide (k ≤ lcp la lb))) ∧ ∃ q, w' = w.drewN q := by
  obtain ⟨hlen, hcap, hroom, hwf, hnil, hat⟩ := ha
  obtain ⟨hlen', hcap', hroom', hwf', hnil', hat'⟩ := hb
  have hle := lcp_le la lb
  by_cases hkn : n < k
  · have e : decide (k ≤ lcp la lb) = false := by simp; omega
    rw [e]
    clear e hle
    go_enter Tryz.func132, Tryz.ntmps132
    go_wp2
    go_ret
    exact ⟨rfl, 0, rfl⟩
  · by_cases hkm : m < k
    · have e : decide (k ≤ lcp la lb) = false := by simp; omega
      rw [e]
      clear e hle
      go_enter Tryz.func132, Tryz.ntmps132
      go_wp2
      go_ret
      exact ⟨rfl, 0, rfl⟩
    · have HG := hidden (lcp_ge la lb k (by omega) (by omega))
      have HA := hidden (lcp_alike la lb)
      generalize lcp la lb = L at *
      obtain ⟨R, hR⟩ : ∃ R, decide (k ≤ L) = R := ⟨_, rfl⟩
      rw [hR]
      have HR := hidden hR
      clear hR
      go_enter Tryz.func132, Tryz.ntmps132
      go_wp2_with fail
      go_loopw [7] (fun i wr => ∃ j q : Nat, j ≤ k ∧ i = .int .i64 j ∧ wr = w.drewN q ∧ Hid (∀ i, i < j → la.getD i 0 = lb.getD i 0)) (fun i _ => k - (intOf i).toNat)
      case atStart => exact ⟨0, 0, by omega, rfl, rfl, fun i hi => by omega⟩
      case round =>
        obtain ⟨j, q, hj, rfl, rfl, HJ⟩ := hrel
        by_cases hjk : j < k
        · rcases hat with h | ⟨b, off, rfl, hbb, hc⟩
          · omega
          rcases hat' with h | ⟨b', off', rfl, hbb', hc'⟩
          · omega
          have hck := hc j (by omega)
          have hck' := hc' j (by omega)
          obtain ⟨x, hx⟩ : ∃ x, la.getD j 0 = x := ⟨_, rfl⟩
          obtain ⟨y, hy⟩ : ∃ y, lb.getD j 0 = y := ⟨_, rfl⟩
          rw [hx] at hck
          rw [hy] at hck'
          have HX := hidden hx
          have HY := hidden hy
          clear hx hy hc hc'
          by_cases hxy : x = y
          · have hb0 : (x != y) = false := by simp [hxy]
            have HXY := hidden hxy
            clear hxy
            go_wp2
            go_quiet (fail)
            go_wp2
            go_roundw
            case rel =>
              refine ⟨j + 1, _, by omega, by go_num, rfl, fun i hi => ?_⟩
              by_cases hij : i < j
              · exact HJ.out i hij
              · obtain rfl : i = j := by omega
                rw [HX.out, HY.out, HXY.out]
            case measure => simp [intOf]; omega
          · have hb0 : (x != y) = true := by simp [hxy]
            have e : R = false := by
              have : ¬ j < L := fun h => hxy (by rw [← HX.out, ← HY.out]; exact HA.out j h)
              rw [← HR.out]
              simp; omega
            subst e
            clear hxy
            go_wp2_with fail
            go_quiet (fail)
            go_wp2
            go_ret
            exact ⟨rfl, _, World.drewN_drewN _ _ _⟩
        · have e : R = true := by
            have := HG.out (fun i hi => HJ.out i (by omega))
            rw [← HR.out]
            simpa using this
          subst e
          go_wp2
          go_ret
          exact ⟨rfl, _, rfl⟩

set_option maxRecDepth 100000 in
theorem refCommon_nil (ao : Option Addr) (cap : Nat) (w : World) : Calls Tryz.prog 80 #[.slice ao 0 cap] w fun e w' => e = .returned (.int .i64 0) ∧ ∃ q, w' = w.drewN q := by
  go_enter Tryz.func80, Tryz.ntmps80
  go_wp2
  go_ret
  exact ⟨rfl, 0, rfl⟩

set_option maxRecDepth 100000 in
set_option maxHeartbeats 1000000 in
theorem refCommon_any (ao : Option Addr) (n cap : Nat) (t : List Int) (ls : List (List Int)) (w : World) (hs : SlS w ao n cap (t :: ls)) :
    Calls Tryz.prog 80 #[.slice ao n cap] w fun e w' => e = .returned (.int .i64 (cmN (t :: ls))) ∧ ∃ q, w' = w.drewN q := by
  obtain ⟨hlen, hcap, hroom, hnil, hat⟩ := hs
  obtain ⟨N, rfl⟩ : ∃ N, n = N + 1 := ⟨n - 1, by simp at hlen; omega⟩
  have hlen' : ls.length = N := by simpa using hlen
  clear hlen
  rcases hat with h | ⟨b, off, rfl, hbb, hc⟩
  · omega
  obtain ⟨a0, m0, c0, hck0, hsl0⟩ := hc 0 (by omega)
  simp only [Nat.add_zero, List.getD_cons_zero] at hck0 hsl0
  have hm0 := hsl0.hlen
  have hr0 := hsl0.hroom
  have HS0 := hidden hsl0
  have HC := hidden hc
  clear hsl0 hc
  rw [cmN_min, hm0]
  generalize hF : ls.foldl (fun n x => min n (lcp x t)) m0 = F
  have HF := hidden hF
  clear hF
  have hc1 : ((N : Int) + 1 == 0) = false := by simp; omega
  go_enter Tryz.func80, Tryz.ntmps80
  go_wp2_with fail
  go_loopw [3, 4] (fun v i wr => ∃ (k q y : Nat), k ≤ N ∧ y ≤ m0 ∧ i = .int .i64 ((k : Int) + 1) ∧ v = .int .i64 y ∧ Hid ((ls.drop k).foldl (fun n x => min n (lcp x t)) y = F) ∧ wr = w.drewN q) (fun _ i _ => N + 1 - (intOf i).toNat)
  case atStart => exact ⟨0, 0, m0, by omega, by omega, rfl, rfl, HF, rfl⟩
  case round =>
    obtain ⟨k, q, y, hk, hy, rfl, rfl, HK, rfl⟩ := hrel
    clear HF
    by_cases hlt : k < N
    · obtain ⟨a, m, c, hck, hsl⟩ := HC.out (k + 1) (by omega)
      rw [show (t :: ls).getD (k + 1) [] = ls.getD k [] by simp [List.getD]] at hsl
      have e := HK.out
      rw [dropS ls k (by omega), List.foldl_cons] at e
      have HBG := hidden (fun z q hz => begins_any a a0 m m0 c c0 z (ls.getD k []) t (w.drewN q) (hsl.drewN q) (HS0.out.drewN q) hz)
      generalize lcp (ls.getD k []) t = L at *
      have HE := hidden e
      clear e HK hsl
      go_wp2_with fail
      go_loopw [3] (fun v wr => ∃ z q : Nat, z ≤ y ∧ min y L ≤ z ∧ v = .int .i64 z ∧ wr = w.drewN q) (fun v _ => (intOf v).toNat)
      case atStart => exact ⟨y, q, by omega, by omega, rfl, rfl⟩
      case round =>
        obtain ⟨z, q, hz1, hz2, rfl, rfl⟩ := hrel
        by_cases hz0 : 0 < z
        · have hb2 := HBG.out z
          by_cases hzL : z ≤ L
          · have e : decide (z ≤ L) = true := by simpa using hzL
            simp only [e] at hb2
            have HB2 := hidden hb2
            have e2 : min y L = z := by omega
            clear hb2 e
            go_wp2_with fail
            go_region_with (first | (go_at_call 132; refine quiet_call' (HB2.out _ (by omega)) ?_; intro q2))
            all_goals
              go_wp2
              go_roundw
              case rel => exact ⟨k + 1, _, z, by omega, by omega, by go_num, rfl, by rw [← e2]; exact HE, rfl⟩
              case measure => simp [intOf]; omega
          · have e : decide (z ≤ L) = false := by simpa using hzL
            simp only [e] at hb2
            have HB2 := hidden hb2
            clear hb2 e
            go_wp2_with fail
            go_region_with (first | (go_at_call 132; refine quiet_call' (HB2.out _ (by omega)) ?_; intro q2))
            all_goals
              go_wp2
              go_roundw
              case rel => exact ⟨z - 1, _, by omega, by omega, by go_num, rfl⟩
              case measure => simp [intOf]; omega
        · obtain rfl : z = 0 := by omega
          have e2 : min y L = 0 := by omega
          go_wp2
          go_roundw
          case rel => exact ⟨k + 1, _, 0, by omega, by omega, by go_num, rfl, by rw [← e2]; exact HE, rfl⟩
          case measure => simp [intOf]; omega
    · have e : y = F := by rw [← HK.out, List.drop_eq_nil_of_le (by omega)]; rfl
      have HE := hidden e
      clear e HK
      go_wp2
      go_ret
      exact ⟨ret_int (by rw [HE.out]), _, rfl⟩
end Go.Proofs.YtiemnbanehdmnaaGreatDoor

/- The document's taken (layer 7). -/

namespace Go.Proofs.YtiemnbanehdmnaaGreatDoor
open Go.RowKit

set_option maxRecDepth 100000 in
theorem own_slice {w : World} {B : Nat} {v : Value} {l : List Int} (h : OwnB w B v l) : ∃ ao c, v = .slice ao l.length c := by
  rcases h.2 with ⟨rfl, h0⟩ | ⟨g, cap, cur, rfl, _⟩
  · exact ⟨none, 0, by rw [h0]⟩
  · exact ⟨_, _, rfl⟩

set_option maxRecDepth 100000 in
set_option maxHeartbeats 2000000 in
theorem rtaken_any (k : Int) (ao : Option Addr) (n cap m : Nat) (cs : List Cl) (w : World) (hs : SlC w ao n cap cs) (hbeg : ∀ (j : Nat) (c : Cl), cs[j]? = some c → ¬ (k = 3 ∧ (j : Int) = 0) → m ≤ c.key.length) (hkv : ∀ c ∈ cs, c.key.length + c.val.length ≤ 35184372088832) (hz : szQ k m cs ≤ 1099511627776) :
    Calls Tryz.prog 40 #[.int .i64 k, .slice ao n cap, .int .i64 (m : Int)] w fun e w' => e = .returned (.int .i64 (szQ k m cs : Int)) ∧ Hid (Below w.heap.size w w') := by
  have HS := hidden hs
  have hn := hs.hroom
  have HLEN := hidden hs.hlen
  have HBG := hidden hbeg
  have HKV := hidden hkv
  have hzq := hz
  unfold szQ at hzq ⊢
  have HZ := hidden hzq
  have hmb : (m : Int) ≤ 1099511627776 := by omega
  obtain ⟨f, hf⟩ : ∃ f, whl k = f := ⟨_, rfl⟩
  rw [hf] at HZ ⊢
  have HF : Hid (∀ j : Nat, (if k = 3 ∧ (j : Int) = 0 then 0 else m) = (if f = true ∧ j = 0 then 0 else m)) := hidden (by
    intro j
    have e : (k = 3 ∧ (j : Int) = 0) = (f = true ∧ j = 0) := by
      rw [← hf]
      unfold whl
      simp
    simp only [e])
  obtain ⟨T, hT⟩ : ∃ T : Nat, 10 + m + qsm m f cs = T := ⟨_, rfl⟩
  rw [hT]
  have HT := hidden hT
  clear hs hz hzq hf hbeg hT hkv
  go_enter Tryz.func40, Tryz.ntmps40
  go_wp2_with fail
  go_loopw [7, 8] (fun v i wr => ∃ j q : Nat, j ≤ n ∧ q ≤ 1099511627776 ∧ i = .int .i64 j ∧ v = .int .i64 (q : Int) ∧ Hid (q = 10 + m + qsm m f (cs.take j)) ∧ Hid (Below w.heap.size w wr)) (fun _ i _ => n - (intOf i).toNat)
  case atStart => exact ⟨0, 10 + m, by omega, by have := HZ.out; omega, rfl, by go_num, hidden (by simp [qsm]), hidden (Below.refl _ _)⟩
  case round =>
    obtain ⟨j, q, hj, hq, rfl, rfl, HQ, HB⟩ := hrel
    have bj : (j : Int) ≤ 140737488355328 := by omega
    have bq : (q : Int) ≤ 1099511627776 := by omega
    by_cases hlt : j < n
    · have hltI : (j : Int) < (n : Int) := by omega
      obtain ⟨b, off, c, ka, kc, va, vc, rfl, hb, hci, c0, c1, c2, c3, c4, hk, hv⟩ := (HS.out.on HB.out).item j hlt
      have HST := hidden (qsm_take m cs f j c hci)
      have hle := qsm_take_le m cs f (j + 1)
      rw [HST.out] at hle
      have hz := HZ.out
      have hql := qB_length (if f = true ∧ j = 0 then 0 else m) c
      have hqe := HQ.out
      have hkv : c.key.length + c.val.length ≤ 35184372088832 := HKV.out c (List.mem_of_getElem? hci)
      have HC := hidden (rbytes_any k (j : Int) c ka va kc vc m wr hk hv (HBG.out j c hci) hkv)
      rw [HF.out j] at HC
      obtain ⟨L, hL⟩ : ∃ L, qB (if f = true ∧ j = 0 then 0 else m) c = L := ⟨_, rfl⟩
      rw [hL] at HC hql
      have bL : (L.length : Int) ≤ 1099511627776 := by omega
      have bsum : q + 2 + L.length ≤ 1099511627776 := by omega
      have HNX : Hid (q + 2 + L.length = 10 + m + qsm m f (cs.take (j + 1))) := hidden (by rw [HST.out]; omega)
      clear hk hv hci hle hz hql hqe hkv hL HST
      go_wp2_with (first | (go_at_call 52; refine HC.out.mono ?_; rintro e w1 ⟨v1, rfl, HO1, HB1⟩; refine Hid.out ?_))
      apply hidden
      obtain ⟨a1, c1', rfl⟩ := own_slice HO1.out
      have HB' := hidden (bl_go HB.out (Nat.le_refl _) HB1.out)
      obtain ⟨LN, hLN⟩ : ∃ LN, L.length = LN := ⟨_, rfl⟩
      rw [hLN] at bL bsum HNX ⊢
      clear HC HO1 HB1 HB c0 c1 c2 c3 c4 hLN
      go_wp2
      go_roundw
      case rel => exact ⟨j + 1, q + 2 + LN, by omega, by omega, by go_num, by go_num, HNX, HB'⟩
      case measure => simp [intOf]; omega
    · have e : q = T := by
        rw [← HT.out, HQ.out, List.take_of_length_le (by rw [HLEN.out]; omega)]
      subst e
      go_wp2
      go_ret
      exact ⟨rfl, HB⟩
end Go.Proofs.YtiemnbanehdmnaaGreatDoor

/- Lent, AsLent and rows of slices for layer 7 (Own, Lent, AsLent, Lents, without layer 1's Live). -/

namespace Go.Proofs.YtiemnbanehdmnaaGreatDoor
open Go.RowKit


set_option maxRecDepth 100000 in
theorem grown_trans {a b c : World} {row : Option Nat} (h : a.grownBy b row) (k : b.grownBy c row) : a.grownBy c row :=
  ⟨k.os.trans h.os, k.tape.trans h.tape, k.output.trans h.output, Nat.le_trans h.size k.size, fun i hi hne => (k.block i (Nat.lt_of_lt_of_le hi h.size) hne).trans (h.block i hi hne)⟩
set_option maxRecDepth 100000 in
theorem grown_below {a b : World} {row : Option Nat} (h : a.grownBy b row) {B : Nat} (hB : B ≤ a.heap.size) (hr : ∀ k, row = some k → B ≤ k) : Below B a b := (Below.refl B a).grown h hB hr
set_option maxRecDepth 100000 in
theorem Sl.grown {w w' : World} {ao : Option Addr} {n cap : Nat} {l : List Int} {row : Option Nat} (h : Sl w ao n cap l) (hg : w.grownBy w' row) (hne : ∀ a, ao = some a → some a.block ≠ row) : Sl w' ao n cap l := by
  refine ⟨h.hlen, h.hcap, h.hroom, h.wf, h.hnil, ?_⟩
  rcases h.hat with h0 | ⟨b, off, e, hlt, hc⟩
  · exact .inl h0
  · exact .inr ⟨b, off, e, Nat.lt_of_lt_of_le hlt hg.size, fun i hi => hg.cell (hc i hi) (hne ⟨b, off, none⟩ e)⟩



set_option maxRecDepth 100000 in
set_option maxHeartbeats 1000000 in
theorem lent_any (ao : Option Addr) (n cap : Nat) (l : List Int) (w : World) (hs : Sl w ao n cap l) :
    Calls Tryz.prog 18 #[.slice ao n cap] w fun e w' => e = .returned (.slice (some ⟨w.heap.size, 0, none⟩) n (n + 3)) ∧ OwnB w' w.heap.size (.slice (some ⟨w.heap.size, 0, none⟩) (n + 3) (n + 3)) (l ++ [71, 72, 73]) ∧ Below w.heap.size w w' := by
  obtain ⟨i0, hi, hz0, hz1, hz2⟩ := info_parts info5
  obtain ⟨hlen, hcap, hroom, hwf, hnil, hat⟩ := hs
  have hsz : (Tryz.prog.info? 5).map (·.size) = some 1 := by rw [hi]; simp [hz1]
  go_enter Tryz.func18, Tryz.ntmps18
  go_wp2_with (at_make; refine wpList_make_full _ rfl _ _ 29 rfl w.heap.size 5 i0 (.int .u8 0) 1 Tryz.underlying29 hi hz0 hz1 .i64 .i64 (n + 3) (n + 3) (n + 3) rfl rfl rfl rfl (by rw [hz2]; omega) (by unfold maxLen; omega) (Nat.le_refl _) ?_)
  intro w1 hown1 hg1
  have hb1 : Below w.heap.size w w1 := (Below.refl _ _).grown hg1 (Nat.le_refl _) (fun k hk => by cases hk)
  clear hg1
  have hcur : w1.heap[w.heap.size]? = some (.cells (List.replicate (n + 3) (Value.int .u8 0)).toArray 5 (0, 0)) := by
    rcases hown1.2 with ⟨h, _⟩ | ⟨g, c, cur, h, _, hh, _, _, hs, ht⟩
    · cases h
    · cases h
      rw [hh]
      congr 2
      apply Array.toList_inj.1
      rw [toList_madeCells_one] at ht
      simp only [Nat.mul_one] at hs ht
      rw [List.take_of_length_le (by simp [hs])] at ht
      simpa using ht
  clear hown1
  obtain ⟨cur, hce⟩ : ∃ cur, List.replicate (n + 3) (Value.int .u8 0) = cur := ⟨_, rfl⟩
  rw [hce] at hcur
  have hcl : cur.length = n + 3 := by rw [← hce]; simp
  have HCE := hidden hce
  have HC := hidden hcur
  clear hcur hce
  have hpos : 0 < (By l).length → some (⟨w.heap.size, 0, none⟩ : Addr) = some ⟨w.heap.size, 0, none⟩ ∧ ∃ ad, ao = some ad ∧ ∀ j v, (By l)[j]? = some v → w1.cell? (ad.add j) = some v := by
    intro h
    rw [By_length] at h
    rcases hat with h0 | ⟨b, off, rfl, hbb, hc⟩
    · omega
    · refine ⟨rfl, _, rfl, fun j v hv => ?_⟩
      obtain ⟨h1, rfl⟩ := getElem?_By l j v hv
      rw [Addr.add_lit]
      exact (hb1.cell (p := ⟨b, off + j, none⟩) hbb).trans (hc j (by omega))
  have HP := hidden hpos
  clear hpos
  go_wp2_with (refine wpList_copy_splice rfl _ _ 29 29 rfl 5 Tryz.underlying29 hsz _ _ (n + 3) (n + 3) n cap rfl rfl w.heap.size 0 cur 5 HC.out (By l) (by rw [By_length, hlen]; exact (Nat.min_eq_left (by omega)).symm) HP.out (by rw [By_length]; omega) (By_one l) w.heap.size w hb1 (Nat.le_refl _) ?_)
  intro w2 hh hb2
  have ho : OwnB w2 w.heap.size (.slice (some ⟨w.heap.size, 0, none⟩) (n + 3) (n + 3)) (l ++ [0, 0, 0]) := by
    have h' := hh.out
    rw [show splice cur 0 (By l) = By (l ++ [0, 0, 0]) from by
      rw [← HCE.out]
      simp only [splice, By_length, hlen, List.take_zero, List.nil_append, Nat.zero_add, By_append, List.drop_replicate, show n + 3 - n = 3 by omega]
      rfl] at h'
    have := own_of_heap (l := l ++ [0, 0, 0]) h' (Nat.le_refl _) (by unfold maxLen; simp; omega)
    simpa [hlen] using this
  have hl0 : (l ++ [0, 0, 0]).length = n + 3 := by simp [hlen]
  have hl1 : ((l ++ [0, 0, 0]).set n 71).length = n + 3 := by simp [hlen]
  have hl2 : (((l ++ [0, 0, 0]).set n 71).set (n + 1) 72).length = n + 3 := by simp [hlen]
  have f0 := own_free ho hl0 n
  have c0 := own_cell ho hl0 (show n < n + 3 by omega)
  have o1 := own_set (x := 71) ho hl0 (show n < n + 3 by omega)
  have f1 := own_free o1 hl1 (n + 1)
  have c1 := own_cell o1 hl1 (show n + 1 < n + 3 by omega)
  have o2 := own_set (x := 72) o1 hl1 (show n + 1 < n + 3 by omega)
  have f2 := own_free o2 hl2 (n + 2)
  have c2 := own_cell o2 hl2 (show n + 2 < n + 3 by omega)
  have o3 := own_set (x := 73) o2 hl2 (show n + 2 < n + 3 by omega)
  have e3 : (((l ++ [0, 0, 0]).set n 71).set (n + 1) 72).set (n + 2) 73 = l ++ [71, 72, 73] := by
    subst hlen
    simp [List.set_append_right]
  rw [e3] at o3
  have HO3 := hidden o3
  have HB3 := hidden (((hb2.setCell (p := ⟨w.heap.size, n, none⟩) (Nat.le_refl _) (.int .u8 71)).setCell (p := ⟨w.heap.size, n + 1, none⟩) (Nat.le_refl _) (.int .u8 72)).setCell (p := ⟨w.heap.size, n + 2, none⟩) (Nat.le_refl _) (.int .u8 73))
  obtain ⟨y0, c0⟩ : ∃ y, w2.cell? ⟨w.heap.size, n, none⟩ = some y := ⟨_, c0⟩
  obtain ⟨y1, c1⟩ : ∃ y, (w2.setCell ⟨w.heap.size, n, none⟩ (.int .u8 71)).cell? ⟨w.heap.size, n + 1, none⟩ = some y := ⟨_, c1⟩
  obtain ⟨y2, c2⟩ : ∃ y, ((w2.setCell ⟨w.heap.size, n, none⟩ (.int .u8 71)).setCell ⟨w.heap.size, n + 1, none⟩ (.int .u8 72)).cell? ⟨w.heap.size, n + 2, none⟩ = some y := ⟨_, c2⟩
  clear hh ho o1 o2 o3 e3 hl0 hl1 hl2 hb2 HP HC HCE
  go_wp2
  go_ret
  exact ⟨rfl, HO3.out, HB3.out⟩


set_option maxRecDepth 100000 in
/-- What is owned from its row's head on reads as the beginning of its bytes. -/
theorem own_head {w : World} {B g n cap m : Nat} {l : List Int} (h : OwnB w B (.slice (some ⟨g, 0, none⟩) n cap) l) (hw : Wf l) (hn : l.length = n) (hm : m ≤ n) (hr : n ≤ 140737488355328) (c : Nat) (hc : m ≤ c) : Sl w (some ⟨g, 0, none⟩) m c (l.take m) := by
  have hlt : g < w.heap.size := (World.ownsRow.lt h g rfl).2
  refine ⟨by simp; omega, hc, by omega, hw.take m, (by intro h; cases h), .inr ⟨g, 0, rfl, hlt, fun i hi => ?_⟩⟩
  rw [Nat.zero_add, own_cell h hn (by omega)]
  simp [List.getD, hi]

set_option maxRecDepth 100000 in
set_option maxHeartbeats 2000000 in
theorem asLent_any (g B n : Nat) (bo : Option Addr) (d : Nat) (l : List Int) (w : World) (ho : OwnB w B (.slice (some ⟨g, 0, none⟩) (n + 3) (n + 3)) (l ++ [71, 72, 73])) (hb : Sl w bo n d l) (hbig : n + 3 ≤ 140737488355328) :
    Calls Tryz.prog 23 #[.slice (some ⟨g, 0, none⟩) n (n + 3), .slice bo n d] w fun e w' => e = .returned (.bool true) ∧ w.grownBy w' (some g) := by
  have hl : (l ++ [71, 72, 73]).length = n + 3 := by simp [hb.hlen]
  have hroom := hb.hroom
  have hwf := hb.wf
  have hlen := hb.hlen
  have hW : Wf (l ++ [71, 72, 73]) := hwf.append (by unfold Wf; decide)
  have c0 : w.cell? ⟨g, n, none⟩ = some (.int .u8 71) := by
    rw [own_cell ho hl (show n < n + 3 by omega)]
    subst hlen
    simp [List.getD]
  have c1 : w.cell? ⟨g, n + 1, none⟩ = some (.int .u8 72) := by
    rw [own_cell ho hl (show n + 1 < n + 3 by omega)]
    subst hlen
    simp [List.getD]
  have c2 : w.cell? ⟨g, n + 2, none⟩ = some (.int .u8 73) := by
    rw [own_cell ho hl (show n + 2 < n + 3 by omega)]
    subst hlen
    simp [List.getD]
  have ht : (l ++ [71, 72, 73]).take n = l := by subst hlen; simp
  have k1 : ∀ q, (convert 29 9 (.slice (some ⟨g, 0, none⟩) n (n + 3))).run Tryz.prog (w.drewN q) = .ok (.string (strOfNums l)) (w.drewN q) := fun q => by
    have h := own_head ho hW hl (show n ≤ n + 3 by omega) hbig (n + 3) (by omega)
    rw [ht] at h
    exact conv_sl (h.drewN q)
  have k2 : ∀ q, (convert 29 9 (.slice bo n d)).run Tryz.prog (w.drewN q) = .ok (.string (strOfNums l)) (w.drewN q) := fun q => conv_sl (hb.drewN q)
  have HO := hidden ho
  have HLN := hidden hl
  clear ho hb hW hl hwf ht
  go_enter Tryz.func23, Tryz.ntmps23
  go_wp2_with fail
  go_quiet (fail)
  go_wp2_with fail
  clear c0 c1 c2 k1 k2
  go_loopw [8] (fun i wr => ∃ (k : Nat) (l' : List Int), k ≤ n + 3 ∧ i = .int .i64 k ∧ l'.length = n + 3 ∧ OwnB wr B (.slice (some ⟨g, 0, none⟩) (n + 3) (n + 3)) l' ∧ w.grownBy wr (some g)) (fun i _ => n + 3 - (intOf i).toNat)
  case atStart => exact ⟨0, l ++ [71, 72, 73], by omega, rfl, HLN.out, HO.out, ⟨rfl, rfl, rfl, Nat.le_refl _, fun _ _ _ => rfl⟩⟩
  case round =>
    obtain ⟨k, l', hk, rfl, hl', hown, hgr⟩ := hrel
    clear HO HLN
    by_cases hlt : k < n + 3
    · have hce := own_cell hown hl' hlt
      have hfr := own_free hown hl' k
      have ho2 := own_set (x := 97) hown hl' hlt
      have hst : wr.grownBy (wr.setCell ⟨g, k, none⟩ (.int .u8 97)) (some g) := by
        have h' : wr.ownsRow B 5 1 (.slice (some ⟨g, 0, none⟩) (n + 3) (n + 3)) (n + 3) (By l') := by have := hown; unfold OwnB at this; rw [hl'] at this; exact this
        exact (World.ownsRow.stored h' k (.int .u8 97)).2
      have hg2 := grown_trans hgr hst
      clear hst hgr hown
      go_wp2
      go_roundw
      case rel => exact ⟨k + 1, l'.set k 97, by omega, by go_num, by simp [hl'], ho2, hg2⟩
      case measure => simp [intOf]; omega
    · go_wp2
      go_ret
      exact ⟨rfl, hgr⟩


set_option maxRecDepth 100000 in
theorem infoSl : (Tryz.prog.info? 29).map (fun i => (i.zero, i.size, i.bytes)) = some (some (.slice none 0 0), 1, 24) := by kernel_rfl
/-- The slice value v owns the slices xs. -/
def OwnV (w : World) (B : Nat) (v : Value) (xs : List Value) : Prop := w.ownsRow B 29 1 v xs.length xs
set_option maxRecDepth 100000 in
theorem OwnV.nil (w : World) (B : Nat) : OwnV w B (.slice none 0 0) [] := World.ownsRow_nil w B 29 1
set_option maxRecDepth 100000 in
theorem OwnV.on {w w' : World} {B C : Nat} {v : Value} {xs : List Value} (h : OwnV w B v xs) (hC : w.heap.size ≤ C) (hb : Below C w w') : OwnV w' B v xs := by
  refine World.ownsRow.kept (row := none) h ⟨hb.os, hb.tape, hb.output, hb.size, fun k hk _ => hb.block k (by omega)⟩ ?_
  cases hv : v.ownBlock with
  | none => exact .inl rfl
  | some k => exact .inr (by simp)
set_option maxRecDepth 100000 in
/-- A row of slices and a row of bytes are two rows. -/
theorem rows_apart {w : World} {B C : Nat} {v u : Value} {xs : List Value} {l : List Int} (h : OwnV w B v xs) (k : OwnB w C u l) : u.ownBlock = none ∨ u.ownBlock ≠ v.ownBlock := by
  rcases h.2 with ⟨rfl, _⟩ | ⟨g, cap, cur, rfl, _, hh, _⟩
  · cases hu : u.ownBlock with
    | none => exact .inl rfl
    | some b => exact .inr (by simp [Value.ownBlock])
  · rcases k.2 with ⟨rfl, _⟩ | ⟨g', cap', cur', rfl, _, hh', _⟩
    · exact .inl rfl
    · right
      intro e
      have e' : g' = g := by simpa [Value.ownBlock] using e
      subst e'
      rw [hh'] at hh
      simp at hh
set_option maxRecDepth 100000 in
theorem rows_apart' {w : World} {B C : Nat} {v u : Value} {xs : List Value} {l : List Int} (h : OwnV w B v xs) (k : OwnB w C u l) : v.ownBlock = none ∨ v.ownBlock ≠ u.ownBlock := by
  rcases rows_apart h k with e | e
  · cases hv : v.ownBlock with
    | none => exact .inl rfl
    | some b => exact .inr (by rw [e]; simp)
  · exact .inr (fun x => e x.symm)

set_option maxRecDepth 100000 in
theorem app_val {ops : Array Oper} {rest : List Oper} {o : Oper} {a : Act} {Q : Exit → Act → World → Prop} (w : World) (hgd : o.guard = none) (s x : Operand)
    (ho : o.op = .call { callee := .builtin .append, args := #[s, x], argTypes := #[35, 35] }) (B : Nat) (xs : List Value) (v : Value) (hs : a.eval s = v)
    (hown : OwnV w B v xs) (g n c : Nat) (hx : a.eval x = .slice (some ⟨g, 0, none⟩) 1 1) (ao : Option Addr) (hcell : w.cell? ⟨g, 0, none⟩ = some (.slice ao n c)) (hb : xs.length ≤ 1000000) (hbase : B ≤ w.heap.size)
    (h : ∀ v' w', OwnV w' B v' (xs ++ [.slice ao n c]) → w.grownBy w' v.ownBlock → wpList Tryz.prog ops Q rest (a.put o.dst v') w') : wpList Tryz.prog ops Q (o :: rest) a w := by
  obtain ⟨i0, hi, hz0, hz1, hz2⟩ := info_parts infoSl
  refine wpList_append_own w hgd s x 35 ho B 29 i0 (.slice none 0 0) 1 24 Tryz.underlying35 hi hz0 hz1 hz2 rfl (by decide) v xs.length xs hs hown ⟨g, 0, none⟩ 1 1 [.slice ao n c] hx rfl
    (fun j u hu => by
      have hj : j = 0 := by
        have := (List.getElem?_eq_some_iff.1 hu).1
        simpa using this
      subst hj
      simp at hu
      subst hu
      simpa [Addr.add] using hcell) (fun u hu => by simp at hu; subst hu; rfl) (by unfold maxLen; omega) (by omega) hbase ?_
  intro v' w' h1 h2 _
  refine h v' w' ?_ h2
  unfold OwnV
  simpa using h1

set_option maxRecDepth 100000 in
theorem getD_snoc {α : Type} (l : List α) (x d : α) (i : Nat) : (l ++ [x]).getD i d = if i < l.length then l.getD i d else if i = l.length then x else d := by
  rw [List.getD_eq_getElem?_getD]
  split
  · rw [List.getElem?_append_left (by assumption), List.getD_eq_getElem?_getD]
  · rename_i h
    rw [List.getElem?_append_right (by omega)]
    split
    · rename_i e
      subst e
      simp
    · rename_i e
      rw [List.getElem?_eq_none (by simp; omega)]
      rfl
end Go.Proofs.YtiemnbanehdmnaaGreatDoor

/- The document's Shared and Size (layer 7). -/

namespace Go.Proofs.YtiemnbanehdmnaaGreatDoor
open Go.RowKit

set_option maxRecDepth 100000 in
theorem cmN_shn_acc (a : List Int) : ∀ (r : List Cl) (acc : Nat), acc ≤ a.length → (r.map (·.key)).foldl (fun n x => min n (lcp x a)) acc = min acc (shn a r)
  | [], acc, h => by simp only [List.map_nil, List.foldl_nil, shn]; omega
  | d :: r, acc, h => by
    simp only [List.map_cons, List.foldl_cons, shn]
    rw [cmN_shn_acc a r _ (by omega), lcp_comm d.key a]
    omega
set_option maxRecDepth 100000 in
theorem cmN_shn (c : Cl) (r : List Cl) : cmN (c.key :: r.map (·.key)) = shn c.key r := by
  rw [cmN_min, cmN_shn_acc c.key r _ (Nat.le_refl _)]
  have := shn_le c.key r
  omega
/-- Values that are keys. -/
structure KeyV (w : World) (xs : List Value) (ds : List Cl) : Prop where
  len : xs.length = ds.length
  at_ : ∀ (t : Nat) (d : Cl), ds[t]? = some d → ∃ (ka : Option Addr) (kc : Nat), xs[t]? = some (Value.slice ka d.key.length kc) ∧ Sl w ka d.key.length kc d.key
set_option maxRecDepth 100000 in
theorem KeyV.snoc {w : World} {xs : List Value} {ds : List Cl} {d : Cl} {ka : Option Addr} {kc : Nat} (h : KeyV w xs ds) (hs : Sl w ka d.key.length kc d.key) : KeyV w (xs ++ [.slice ka d.key.length kc]) (ds ++ [d]) := by
  refine ⟨by simp [h.len], fun t e ht => ?_⟩
  by_cases hlt : t < ds.length
  · rw [List.getElem?_append_left hlt] at ht
    obtain ⟨ka', kc', h1, h2⟩ := h.at_ t e ht
    exact ⟨ka', kc', by rw [List.getElem?_append_left (by rw [h.len]; exact hlt)]; exact h1, h2⟩
  · have hl := (List.getElem?_eq_some_iff.1 ht).1
    simp only [List.length_append, List.length_cons, List.length_nil] at hl
    obtain rfl : t = ds.length := by omega
    rw [List.getElem?_append_right (Nat.le_refl _), Nat.sub_self] at ht
    simp at ht
    subst ht
    exact ⟨ka, kc, by rw [List.getElem?_append_right (by rw [h.len]; exact Nat.le_refl _), h.len, Nat.sub_self]; rfl, hs⟩
set_option maxRecDepth 100000 in
theorem ktl_take {k : Int} {cs : List Cl} {j : Nat} {c : Cl} (h : cs[j]? = some c) (hc : ¬ (k = 3 ∧ (j : Int) = 0)) : ktl k (cs.take (j + 1)) = ktl k (cs.take j) ++ [c] := by
  have e : cs.take (j + 1) = cs.take j ++ [c] := by rw [List.take_add_one, h]; rfl
  unfold ktl
  split
  · next h3 =>
    have hj : 0 < j := by omega
    have hl := (List.getElem?_eq_some_iff.1 h).1
    rw [e, List.tail_append_of_ne_nil]
    intro e2
    have := congrArg List.length e2
    rw [List.length_take, List.length_nil] at this
    omega
  · exact e
set_option maxRecDepth 100000 in
theorem ktl_zero {k : Int} {cs : List Cl} {j : Nat} (hc : k = 3 ∧ (j : Int) = 0) : ktl k (cs.take (j + 1)) = ktl k (cs.take j) := by
  obtain ⟨rfl, hj⟩ := hc
  obtain rfl : j = 0 := by omega
  unfold ktl
  rw [if_pos rfl, if_pos rfl]
  cases cs <;> simp
set_option maxRecDepth 100000 in
theorem keys_sls {w w' : World} {B : Nat} {v : Value} {xs : List Value} {ds : List Cl} (h : OwnV w' B v xs) (k : KeyV w xs ds) (hb : Below w.heap.size w w') (hn : ds.length ≤ 1000000) :
    ∃ a c, v = .slice a ds.length c ∧ SlS w' a ds.length c (ds.map (·.key)) := by
  have hl := k.len
  rcases h.2 with ⟨rfl, h0⟩ | ⟨g, cap, cur, rfl, hg, hh, hnc, hm, hs, ht'⟩
  · have : ds.length = 0 := by omega
    rw [this]
    exact ⟨none, 0, rfl, ⟨by simpa using this, Nat.le_refl _, by omega, fun _ => rfl, .inl rfl⟩⟩
  · have h2 : w'.ownsRow B 29 1 (.slice (some ⟨g, 0, none⟩) ds.length cap) ds.length xs := by
      have h3 := h
      unfold OwnV at h3
      rw [hl] at h3
      exact h3
    rw [hl] at hnc ⊢
    clear h
    have h := h2
    refine ⟨some ⟨g, 0, none⟩, cap, rfl, ⟨by simp, hnc, by omega, (by intro h; cases h), .inr ⟨g, 0, rfl, (World.ownsRow.lt h g rfl).2, fun i hi => ?_⟩⟩⟩
    have hc := World.ownsRow.cellAt h i (by omega)
    obtain ⟨ka, kc, e1, e2⟩ := k.at_ i ds[i] (List.getElem?_eq_getElem hi)
    rw [e1] at hc
    refine ⟨_, _, _, by rw [Nat.zero_add]; exact hc, ?_⟩
    have e3 : (ds.map (·.key)).getD i [] = ds[i].key := by simp [List.getD, hi]
    rw [e3]
    exact e2.on (Nat.le_refl _) hb

set_option maxRecDepth 100000 in
set_option maxHeartbeats 2000000 in
theorem rshared_any (k : Int) (ao : Option Addr) (n cap : Nat) (cs : List Cl) (w : World) (hs : SlC w ao n cap cs) (hn : n ≤ 900000) :
    Calls Tryz.prog 39 #[.int .i64 k, .slice ao n cap] w fun e w' => ∃ v, e = .returned v ∧ Hid (OwnB w' w.heap.size v (shP k cs)) ∧ Hid (Below w.heap.size w w') := by
  have HS := hidden hs
  have HLEN := hidden hs.hlen
  obtain ⟨P, hP⟩ : ∃ P, shP k cs = P := ⟨_, rfl⟩
  rw [hP]
  have HP : Hid (shr (ktl k cs) = P) := hidden hP
  clear hs hP
  go_enter Tryz.func39, Tryz.ntmps39
  go_wp2_with fail
  go_loopw [5, 6] (fun v i wr => ∃ (j : Nat) (xs : List Value), j ≤ n ∧ i = .int .i64 j ∧ Hid (OwnV wr w.heap.size v xs) ∧ Hid (KeyV w xs (ktl k (cs.take j))) ∧ Hid (Below w.heap.size w wr)) (fun _ i _ => n - (intOf i).toNat)
  case atStart => exact ⟨0, [], by omega, rfl, hidden (OwnV.nil _ _), hidden ⟨by unfold ktl; split <;> rfl, fun t d h => by unfold ktl at h; split at h <;> simp at h⟩, hidden (Below.refl _ _)⟩
  case round =>
    obtain ⟨j, xs, hj, rfl, HO, HK, HB⟩ := hrel
    have bj : (j : Int) ≤ 900000 := by omega
    by_cases hlt : j < n
    · have hltI : (j : Int) < (n : Int) := by omega
      obtain ⟨b, off, c, ka, kc, va, vc, rfl, hb, hci, c0, c1, c2, c3, c4, hk, hv⟩ := HS.out.item j hlt
      by_cases hc : k = 3 ∧ (j : Int) = 0
      · have HK2 : Hid (KeyV w xs (ktl k (cs.take (j + 1)))) := hidden (by rw [ktl_zero hc]; exact HK.out)
        obtain ⟨rfl, hj0⟩ := hc
        obtain rfl : j = 0 := by omega
        clear hk hv c0 c1 c2 c3 c4 HK hci
        go_wp2
        go_roundw
        case rel => exact ⟨1, xs, by omega, by go_num, HO, HK2, HB⟩
        case measure => simp [intOf]; omega
      · have hxl : xs.length ≤ 1000000 := by
          rw [HK.out.len]
          unfold ktl
          split <;> simp <;> omega
        have HXL := hidden hxl
        have HK2 : Hid (KeyV w (xs ++ [.slice ka c.key.length kc]) (ktl k (cs.take (j + 1)))) := hidden (by rw [ktl_take hci hc]; exact HK.out.snoc hk)
        have d0 := (HB.out.cell (p := ⟨b, off + j * 5, none⟩) hb).trans c0
        obtain ⟨K, hK⟩ : ∃ K, c.key.length = K := ⟨_, rfl⟩
        rw [hK] at d0 HK2
        have hsz := HB.out.size
        clear hk hv c0 c1 c2 c3 c4 HK hci hK hxl
        have HC1 : Hid ((wr.alloc (.cells #[.slice ka K kc] 29)).cell? ⟨wr.heap.size, 0, none⟩ = some (.slice ka K kc)) := hidden (by simp)
        by_cases h3 : k = 3
        · subst h3
          have hj0 : ¬ (j : Int) = 0 := fun e => hc ⟨rfl, e⟩
          have hj1 : (0 : Int) < (j : Int) := by omega
          clear hc
          go_wp2_with (at_builtin; refine app_val _ rfl _ _ rfl w.heap.size xs _ rfl (HO.out.on (Nat.le_refl _) (bl_al (Below.refl _ _) (Nat.le_refl _) _)) wr.heap.size K kc rfl ka HC1.out HXL.out (by simp; omega) ?_; refine Hid.out ?_)
          apply hidden
          intro v2 w2 ho2 g2
          have HO2 := hidden ho2
          have HB2 : Hid (Below w.heap.size w w2) := hidden ((bl_al HB.out (Nat.le_refl _) _).trans (own_below (HO.out.on (Nat.le_refl _) (bl_al (Below.refl _ _) (Nat.le_refl _) _)) (by simp; omega) g2))
          clear ho2 g2 HO HB d0 HC1
          go_wp2
          go_roundw
          case rel => exact ⟨j + 1, _, by omega, by go_num, HO2, HK2, HB2⟩
          case measure => simp [intOf]; omega
        · have hkb : (k != 3) = true := by simpa using h3
          clear hc h3
          go_wp2_with (at_builtin; refine app_val _ rfl _ _ rfl w.heap.size xs _ rfl (HO.out.on (Nat.le_refl _) (bl_al (Below.refl _ _) (Nat.le_refl _) _)) wr.heap.size K kc rfl ka HC1.out HXL.out (by simp; omega) ?_; refine Hid.out ?_)
          apply hidden
          intro v2 w2 ho2 g2
          have HO2 := hidden ho2
          have HB2 : Hid (Below w.heap.size w w2) := hidden ((bl_al HB.out (Nat.le_refl _) _).trans (own_below (HO.out.on (Nat.le_refl _) (bl_al (Below.refl _ _) (Nat.le_refl _) _)) (by simp; omega) g2))
          clear ho2 g2 HO HB d0 HC1
          go_wp2
          go_roundw
          case rel => exact ⟨j + 1, _, by omega, by go_num, HO2, HK2, HB2⟩
          case measure => simp [intOf]; omega
    · have e : cs.take j = cs := List.take_of_length_le (by rw [HLEN.out]; omega)
      rw [e] at HK
      have hdl : (ktl k cs).length ≤ 900000 := by
        have := HLEN.out
        unfold ktl
        split <;> simp <;> omega
      obtain ⟨a, c, rfl, hsls⟩ := keys_sls HO.out HK.out HB.out (by omega)
      have HSL := hidden hsls
      cases hk : ktl k cs with
      | nil =>
        rw [hk] at HSL HP
        obtain rfl : [] = P := HP.out
        have HC := hidden (refCommon_nil a c wr)
        simp only [List.length_nil]
        clear hsls HO HK hk hdl e HSL
        go_wp2_with (first | (go_at_call 80; refine quiet_call' HC.out ?_; intro q; refine Hid.out ?_))
        apply hidden
        have HB2 := hidden (bl_dr HB.out q)
        clear HC HB
        go_wp2
        go_ret
        exact ⟨_, rfl, hidden (OwnB.nil _ _), HB2⟩
      | cons d r =>
        rw [hk] at HSL HK
        have hsl2 := HSL.out
        simp only [List.map_cons, List.length_cons] at hsl2
        have HC := hidden (refCommon_any a (r.length + 1) c d.key (r.map (·.key)) wr hsl2)
        rw [cmN_shn] at HC
        have hshl := shn_le d.key r
        have HR : Hid (P = d.key.take (shn d.key r)) := hidden (by rw [← HP.out, hk]; rfl)
        obtain ⟨m, hm⟩ : ∃ m, shn d.key r = m := ⟨_, rfl⟩
        rw [hm] at HC hshl HR
        rcases hsl2.hat with h | ⟨b, off, rfl, hbb, hcs⟩
        · omega
        obtain ⟨a0, m0, c0, hc0, hs0⟩ := hcs 0 (by omega)
        simp only [Nat.add_zero, List.getD_cons_zero] at hc0 hs0
        have hm0 := hs0.hlen
        have hcp := hs0.hcap
        have hrm := hs0.hroom
        have HS0 := hidden hs0
        obtain ⟨N, hN⟩ : ∃ N, r.length + 1 = N := ⟨_, rfl⟩
        have hN0 : 0 < N := by omega
        have hN0I : (0 : Int) < (N : Int) := by omega
        simp only [List.length_cons]
        rw [hN] at HC ⊢
        have hNb : (N : Int) ≤ 900000 := by rw [hk] at hdl; simp at hdl; omega
        clear hsls HO HK hk hdl e HSL hsl2 hcs hs0 hN hm HP
        go_wp2_with (first | (go_at_call 80; refine quiet_call' HC.out ?_; intro q; refine Hid.out ?_))
        apply hidden
        have HB2 := hidden (bl_dr HB.out q)
        have hc1 : (wr.drewN q).cell? ⟨b, off, none⟩ = some (.slice a0 m0 c0) := hc0
        have HS1 := hidden (HS0.out.drewN q)
        obtain ⟨wq, hwq⟩ : ∃ wq, wr.drewN q = wq := ⟨_, rfl⟩
        rw [hwq] at HB2 hc1 HS1 ⊢
        clear HC hc0 HS0 hwq HB
        by_cases hm0' : m = 0
        · subst hm0'
          go_wp2
          go_ret
          rw [HR.out, List.take_zero]
          exact ⟨_, rfl, hidden (OwnB.nil _ _), HB2⟩
        · have hmb : ((m : Int) == 0) = false := by simpa using hm0'
          rcases HS1.out.hat with h | ⟨b1, o1, rfl, hbb1, _⟩
          · omega
          have HS2 : Hid (Sl wq (some ⟨b1, o1, none⟩) m c0 (d.key.take m)) := hidden (by
            have := HS1.out.piece 0 m c0 (by omega) (by omega)
            simpa using this)
          have hmc : m ≤ c0 := by omega
          have hmcI : (m : Int) ≤ (c0 : Int) := by omega
          have hmI : (m : Int) ≤ 140737488355328 := by omega
          have HA := hidden (radd_to (.slice none 0 0) w.heap.size [] (d.key.take m) (some ⟨b1, o1, none⟩) m c0 wq (OwnB.nil _ _) HS2.out (.inr (fun p hp e => by cases e)) (by simp; omega) HB2.out.size)
          clear HS1 HS2
          go_wp2_with (first | (go_at_call 51; refine HA.out.mono ?_; rintro e w3 ⟨v3, rfl, HO3, hb3⟩; refine Hid.out ?_))
          apply hidden
          have HB3 := hidden (HB2.out.trans hb3.out)
          rw [List.nil_append, ← HR.out] at HO3
          clear HA hb3 HB2 hc1
          go_wp2
          go_ret
          exact ⟨v3, rfl, HO3, HB3⟩

set_option maxRecDepth 100000 in
set_option maxHeartbeats 1000000 in
theorem rsize_any (k : Int) (ao : Option Addr) (n cap : Nat) (cs : List Cl) (w : World) (hs : SlC w ao n cap cs) (hn : n ≤ 900000) (hkv : ∀ c ∈ cs, c.key.length + c.val.length ≤ 35184372088832) (hz : szQ k (shP k cs).length cs ≤ 1099511627776) :
    Calls Tryz.prog 11 #[.int .i64 k, .slice ao n cap] w fun e w' => e = .returned (.int .i64 (szQ k (shP k cs).length cs : Int)) ∧ Hid (Below w.heap.size w w') := by
  have HA := hidden (rshared_any k ao n cap cs w hs hn)
  have HT := hidden (fun u (hu : Below w.heap.size w u) => rtaken_any k ao n cap (shP k cs).length cs u (hs.on hu) (fun j c hc hne => beg_len (shP_beg k cs c (mem_ktl hc (by omega)))) hkv hz)
  obtain ⟨P, hP⟩ : ∃ P, shP k cs = P := ⟨_, rfl⟩
  rw [hP] at HA HT hz ⊢
  have hzb : (P.length : Int) ≤ 1099511627776 := by unfold szQ at hz; omega
  clear hs hP hkv hz
  go_enter Tryz.func11, Tryz.ntmps11
  go_wp2_with (first | (go_at_call 39; refine HA.out.mono ?_; rintro e w1 ⟨v1, rfl, HO1, HB1⟩; refine Hid.out ?_))
  apply hidden
  obtain ⟨a1, c1, rfl⟩ := own_slice HO1.out
  clear HA HO1
  have HT1 := hidden (HT.out w1 HB1.out)
  clear HT
  go_wp2_with (first | (go_at_call 40; refine HT1.out.mono ?_; rintro e w2 ⟨rfl, HB2⟩; refine Hid.out ?_))
  apply hidden
  have HB := hidden (bl_go HB1.out (Nat.le_refl _) HB2.out)
  clear HT1
  go_wp2
  go_ret
  exact ⟨rfl, HB⟩
end Go.Proofs.YtiemnbanehdmnaaGreatDoor
