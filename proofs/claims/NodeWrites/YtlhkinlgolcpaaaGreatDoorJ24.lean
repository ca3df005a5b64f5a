import Derived.Test.YtlhkinlgolcpaaaGreatDoorJ23
namespace Go.Proofs.YtlhkinlgolcpaaaGreatDoor
set_option maxRecDepth 100000
open Go.RowKit
def LeastTo (P : Nat → Bool) (low high : Nat) (w : World) (e : Ending) (w' : World) : Prop :=
 ∃ r : Nat, e = .returned (.int .i64 (r : Int)) ∧ Hid (Below w.heap.size w w') ∧ Hid ((low ≤ r ∧ r ≤ high) ∧ (r < high → P r = true) ∧ ∀ t, r = t + 1 → low ≤ t → P t = false)
def S1l (s low : Nat) (u : World) : Prop := u.cell? ⟨s, 0, none⟩ = some (.int .i64 (low : Int)) ∧ True
def SearTo (P : Nat → Bool) (N : Nat) (w : World) (e : Ending) (w' : World) : Prop :=
 ∃ r : Nat, e = .returned (.int .i64 (r : Int)) ∧ Hid (Below w.heap.size w w') ∧ Hid (r ≤ N ∧ (r < N → P r = true) ∧ ∀ t, r = t + 1 → P t = false)
set_option maxHeartbeats 2000000 in
theorem search9_any (w : World) (o1 l1 N : Nat) (P : Nat → Bool) (hN : N ≤ 200000)
  (hF : ∀ u (j : Nat), Below w.heap.size w u → j < N → Calls Tryz.prog 64 #[.int .i64 (j : Int), .pointer (some ⟨o1, 0, none⟩), .pointer (some ⟨l1, 0, none⟩)] u fun e w' => e = .returned (.bool (P j)) ∧ Hid (Below u.heap.size u w')) :
  Calls Tryz.prog 63 #[.int .i64 (N : Int), .func (.func 64) #[] #[.pointer (some ⟨o1, 0, none⟩), .pointer (some ⟨l1, 0, none⟩)]] w (SearTo P N w) := by
 have HF := hidden hF
 clear hF
 unfold SearTo
 go_enter Tryz.func63, Tryz.ntmps63
 go_wp2_with fail
 go_loopw [5, 6] (fun s5 s6 wr => ∃ lo hi : Nat, s5 = .int .i64 lo ∧ s6 = .int .i64 hi ∧ lo ≤ hi ∧ hi ≤ N ∧ Hid (Below w.heap.size w wr) ∧ Hid ((hi < N → P hi = true) ∧ ∀ t, lo = t + 1 → P t = false)) (fun s5 s6 _ => (intOf s6).toNat - (intOf s5).toNat)
 case atStart => exact ⟨0, N, rfl, rfl, by omega, by omega, hidden (Below.refl _ _), hidden ⟨fun h => by omega, fun t h => by omega⟩⟩
 case round =>
  obtain ⟨lo, hi, rfl, rfl, hlh, hhs, HB, HI⟩ := hrel
  have b1' : (lo : Int) ≤ 200000 := by omega
  have b2' : (hi : Int) ≤ 200000 := by omega
  by_cases hlt : lo < hi
  ·have hltI : (lo : Int) < (hi : Int) := by omega
   obtain ⟨m, hm⟩ : ∃ m, (lo + hi) / 2 = m := ⟨_, rfl⟩
   have hmI : ((lo : Int) + (hi : Int)) / 2 = (m : Int) := by omega
   have m3 : (m : Int) ≤ 200000 := by omega
   have HML : Hid (lo ≤ m ∧ m < hi) := hidden (by omega)
   have HFM := hidden (HF.out wr m HB.out (by omega))
   clear hm
   cases hp : P m with
   | false =>
    rw [hp] at HFM
    have HPM := hidden hp
    clear hp
    go_wp2_with (first | (go_at_call 64; refine HFM.out.mono ?_; rintro e w2 ⟨rfl, HB2⟩))
    go_roundw
    case rel =>
     refine ⟨m + 1, hi, by go_num, rfl, by have := HML.out; omega, hhs, hidden (bl_go HB.out (Nat.le_refl _) HB2.out), hidden ⟨HI.out.1, fun t ht => ?_⟩⟩
     obtain rfl : t = m := by omega
     exact HPM.out
    case measure => have := HML.out; simp [intOf]; omega
   | true =>
    rw [hp] at HFM
    have HPM := hidden hp
    clear hp
    go_wp2_with (first | (go_at_call 64; refine HFM.out.mono ?_; rintro e w2 ⟨rfl, HB2⟩))
    go_roundw
    case rel => exact ⟨lo, m, rfl, by go_num, by have := HML.out; omega, by have := HML.out; omega, hidden (bl_go HB.out (Nat.le_refl _) HB2.out), hidden ⟨fun _ => HPM.out, HI.out.2⟩⟩
    case measure => have := HML.out; simp [intOf]; omega
  ·obtain rfl : hi = lo := by omega
   have hltI : ¬ (hi : Int) < (hi : Int) := by omega
   go_wp2
   go_ret
   exact ⟨hi, rfl, HB, hidden ⟨hhs, HI.out.1, HI.out.2⟩⟩
/-! The question 3. -/
theorem least1_3 (w : World) (o1 l1 low j i b1 b2 b3 b4 : Nat) (B : Bool) (hA : Am w o1 l1 low (.func (.func 30) #[] #[.pointer (some ⟨b1, 0, none⟩), .pointer (some ⟨b2, 0, none⟩), .pointer (some ⟨b3, 0, none⟩), .pointer (some ⟨b4, 0, none⟩)])) (hi : low + j = i) (hb : i ≤ 200000)
  (hF : Calls Tryz.prog 30 #[.int .i64 (i : Int), .pointer (some ⟨b1, 0, none⟩), .pointer (some ⟨b2, 0, none⟩), .pointer (some ⟨b3, 0, none⟩), .pointer (some ⟨b4, 0, none⟩)] w fun e w' => e = .returned (.bool B) ∧ Hid (Below w.heap.size w w')) :
  Calls Tryz.prog 64 #[.int .i64 (j : Int), .pointer (some ⟨o1, 0, none⟩), .pointer (some ⟨l1, 0, none⟩)] w fun e w' => e = .returned (.bool B) ∧ Hid (Below w.heap.size w w') := by
 obtain ⟨c1, c2, h1, h2⟩ := hA
 have HF := hidden hF
 have hiI : (low : Int) + (j : Int) = (i : Int) := by omega
 have bi : (i : Int) ≤ 200000 := by omega
 have bj : (j : Int) ≤ 200000 := by omega
 have bl : (low : Int) ≤ 200000 := by omega
 clear hF hi
 go_enter Tryz.func64, Tryz.ntmps64
 go_wp2_with (first | (go_at_call 30; refine HF.out.mono ?_; rintro e w2 ⟨rfl, HB2⟩))
 go_ret
 exact ⟨rfl, HB2⟩
set_option maxHeartbeats 2000000 in
theorem least_3 (w : World) (low high b1 b2 b3 b4 : Nat) (P : Nat → Bool) (hlh : low ≤ high) (hhs : high ≤ 200000)
  (hF : ∀ u (i : Nat), Below w.heap.size w u → low ≤ i → i < high → Calls Tryz.prog 30 #[.int .i64 (i : Int), .pointer (some ⟨b1, 0, none⟩), .pointer (some ⟨b2, 0, none⟩), .pointer (some ⟨b3, 0, none⟩), .pointer (some ⟨b4, 0, none⟩)] u fun e w' => e = .returned (.bool (P i)) ∧ Hid (Below u.heap.size u w')) :
  Calls Tryz.prog 29 #[.int .i64 (low : Int), .int .i64 (high : Int), .func (.func 30) #[] #[.pointer (some ⟨b1, 0, none⟩), .pointer (some ⟨b2, 0, none⟩), .pointer (some ⟨b3, 0, none⟩), .pointer (some ⟨b4, 0, none⟩)]] w (LeastTo P low high w) := by
 obtain ⟨N, hN⟩ : ∃ N, high - low = N := ⟨_, rfl⟩
 have hNI : (high : Int) - (low : Int) = (N : Int) := by omega
 obtain ⟨s, hs⟩ : ∃ s, w.heap.size = s := ⟨_, rfl⟩
 obtain ⟨x, hx⟩ : ∃ x, (w.alloc (.cells #[.int .i64 (low : Int)] 3)).alloc (.cells #[.func (.func 30) #[] #[.pointer (some ⟨b1, 0, none⟩), .pointer (some ⟨b2, 0, none⟩), .pointer (some ⟨b3, 0, none⟩), .pointer (some ⟨b4, 0, none⟩)]] 58) = x := ⟨_, rfl⟩
 have hbx : Below w.heap.size w x := by rw [← hx]; exact bl_al (bl_al (Below.refl _ _) (Nat.le_refl _) _) (Nat.le_refl _) _
 have hAm : Am x (s + 1) s low (.func (.func 30) #[] #[.pointer (some ⟨b1, 0, none⟩), .pointer (some ⟨b2, 0, none⟩), .pointer (some ⟨b3, 0, none⟩), .pointer (some ⟨b4, 0, none⟩)]) := by
  rw [← hx, ← hs]
  exact ⟨by simp, by simp, by simp, by simp; omega⟩
 have HSR : Hid (∀ u, Below x.heap.size x u → Calls Tryz.prog 63 #[.int .i64 (N : Int), .func (.func 64) #[] #[.pointer (some ⟨s + 1, 0, none⟩), .pointer (some ⟨s, 0, none⟩)]] u fun e w' => ∃ r : Nat, e = .returned (.int .i64 (r : Int)) ∧ (w'.cell? ⟨s, 0, none⟩ = some (.int .i64 (low : Int)) ∧ r ≤ N) ∧ Hid (Below x.heap.size x w') ∧ Hid ((r < N → P (low + r) = true) ∧ ∀ t, r = t + 1 → P (low + t) = false)) := by
  refine hidden fun u hu => (search9_any u (s + 1) s N (fun j => P (low + j)) (by omega) (fun v j hv hj => least1_3 v (s + 1) s low j (low + j) b1 b2 b3 b4 (P (low + j)) (hAm.go (bl_go hu (Nat.le_refl _) hv)) rfl (by omega) (hF v (low + j) (bl_go hbx (Nat.le_refl _) (bl_go hu (Nat.le_refl _) hv)) (by omega) (by omega)))).mono ?_
  rintro e w' ⟨r, rfl, HB, HQ⟩
  have hb := bl_go hu (Nat.le_refl _) HB.out
  exact ⟨r, rfl, ⟨(hAm.go hb).c2, HQ.out.1⟩, hidden hb, hidden HQ.out.2⟩
 have HBX := hidden hbx
 obtain ⟨y1, y2, _, _⟩ := hAm
 have bl : (low : Int) ≤ 200000 := by omega
 have bh : (high : Int) ≤ 200000 := by omega
 have bN : (N : Int) ≤ 200000 := by omega
 have HLN : Hid (low + N = high) := hidden (by omega)
 have hwN : IntKind.i64.wrap (N : Int) = (N : Int) := by rw [IntKind.wrap_i64]; omega
 have HSF : Hid (∀ u, Below x.heap.size x u → u.cell? ⟨s, 0, none⟩ = some (.int .i64 (low : Int)) ∧ True) := hidden fun u hu => ⟨(hu.cell (p := ⟨s, 0, none⟩) (by rw [← hx, ← hs]; simp; omega)).trans y2, trivial⟩
 unfold LeastTo
 clear hF hbx hlh y1 y2
 go_enter Tryz.func29, Tryz.ntmps29
 go_upto_region 1 with fail
 refine wp_region_held_drew (S := S1l s low) (by kernel_rfl) (HSF.out _ (Below.refl _ _).drew) (fun hHeld => ?_)
 refine wpAnyH_take (i := 0) (v := ?_) rfl (by kernel_rfl) (by kernel_rfl) (by kernel_rfl) (fun _ _ _ h => h) (Or.inl ⟨by rfl, ?_⟩) (by assumption) ?_
 rotate_left
 ·(intro w hSw; obtain ⟨q0, _⟩ := hSw; go_simp; try (with_reducible rfl))
 try simp only [Act.put, List.getElem_toArray, List.getElem_cons_zero, List.setIfInBounds_toArray, List.set_cons_zero, List.set_cons_succ]
 refine wpAnyH_take (i := 1) (v := ?_) rfl (by kernel_rfl) (by kernel_rfl) (by kernel_rfl) (fun _ _ _ h => h) (Or.inl ⟨by rfl, ?_⟩) (by assumption) ?_
 rotate_left
 ·(intro w hSw; obtain ⟨q0, _⟩ := hSw; go_simp; try (with_reducible rfl))
 try simp only [Act.put, List.getElem_toArray, List.getElem_cons_succ, List.getElem_cons_zero, List.setIfInBounds_toArray, List.set_cons_zero, List.set_cons_succ]
 refine wpAnyH_take (i := 2) (v := ?_) rfl (by kernel_rfl) (by kernel_rfl) (by kernel_rfl) (fun _ _ _ h => h) (Or.inl ⟨by rfl, ?_⟩) (by assumption) ?_
 rotate_left
 ·(intro w hSw; obtain ⟨q0, _⟩ := hSw; go_simp; try (with_reducible rfl))
 try simp only [Act.put, List.getElem_toArray, List.getElem_cons_succ, List.getElem_cons_zero, List.setIfInBounds_toArray, List.set_cons_zero, List.set_cons_succ]
 refine wpAnyH_take (i := 3) (v := ?_) rfl (by kernel_rfl) (by kernel_rfl) (by kernel_rfl) (fun _ _ _ h => h) (Or.inl ⟨by rfl, ?_⟩) (by assumption) ?_
 rotate_left
 ·(intro w hSw; obtain ⟨q0, _⟩ := hSw; go_simp; try (with_reducible rfl))
 try simp only [Act.put, List.getElem_toArray, List.getElem_cons_succ, List.getElem_cons_zero, List.setIfInBounds_toArray, List.set_cons_zero, List.set_cons_succ]
 refine wpAnyH_take (i := 4) (v := ?_) rfl (by kernel_rfl) (by kernel_rfl) (by kernel_rfl) (fun _ _ _ h => h) (Or.inl ⟨by rfl, ?_⟩) (by assumption) ?_
 rotate_left
 ·(intro w hSw; obtain ⟨q0, _⟩ := hSw; go_simp; try (with_reducible rfl))
 try simp only [Act.put, List.getElem_toArray, List.getElem_cons_succ, List.getElem_cons_zero, List.setIfInBounds_toArray, List.set_cons_zero, List.set_cons_succ]
 refine wpAnyH_ready (rs := [5]) (by kernel_rfl) (by simp) ?_
 refine AllReadyH.cons rfl (fun K hK => ?_) AllReadyH.nil
 go_simp
 go_at_call 63
 refine (HSR.out _ (Below.refl _ _).drew).mono ?_
 rintro e w2 ⟨r, rfl, ⟨_, hrN⟩, HB2, HQ2⟩
 obtain ⟨i, hi⟩ : ∃ i, low + r = i := ⟨_, rfl⟩
 have hln := HLN.out
 have hiI : (low : Int) + (r : Int) = (i : Int) := by omega
 have bi : (i : Int) ≤ 200000 := by omega
 have br : (r : Int) ≤ 200000 := by omega
 have hwi : IntKind.i64.wrap (i : Int) = (i : Int) := by rw [IntKind.wrap_i64]; omega
 have HRI : Hid ((low ≤ i ∧ i ≤ high) ∧ (i < high → P i = true) ∧ ∀ t, i = t + 1 → low ≤ t → P t = false) := hidden (by
  refine ⟨⟨by omega, by omega⟩, fun h => by rw [← hi]; exact HQ2.out.1 (by omega), fun t ht hlt => ?_⟩
  obtain ⟨d, rfl⟩ : ∃ d, t = low + d := ⟨t - low, by omega⟩
  exact HQ2.out.2 d (by omega))
 clear hi hln hrN
 dsimp only
 refine hK.out _ _ (HSF.out _ HB2.out) (fun hHeld => ?_)
 clear hK K
 try simp only [Act.put, List.getElem_toArray, List.getElem_cons_succ, List.getElem_cons_zero, List.setIfInBounds_toArray, List.set_cons_zero, List.set_cons_succ]
 refine wpAnyH_take (i := 6) (v := ?_) rfl (by kernel_rfl) (by kernel_rfl) (by kernel_rfl) (fun _ _ _ h => h) (Or.inl ⟨by rfl, ?_⟩) (by assumption) ?_
 rotate_left
 ·(intro w hSw; obtain ⟨q0, _⟩ := hSw; go_simp; try (with_reducible rfl))
 try simp only [Act.put, List.getElem_toArray, List.getElem_cons_succ, List.getElem_cons_zero, List.setIfInBounds_toArray, List.set_cons_zero, List.set_cons_succ]
 refine wpAnyH_take (i := 7) (v := ?_) rfl (by kernel_rfl) (by kernel_rfl) (by kernel_rfl) (fun _ _ _ h => h) (Or.inl ⟨by rfl, ?_⟩) (by assumption) ?_
 rotate_left
 ·(intro w hSw; obtain ⟨q0, _⟩ := hSw; go_simp; try (with_reducible rfl))
 try simp only [Act.put, List.getElem_toArray, List.getElem_cons_succ, List.getElem_cons_zero, List.setIfInBounds_toArray, List.set_cons_zero, List.set_cons_succ]
 refine wpAnyH_done (by kernel_rfl) ?_ _
 clear hHeld
 go_wp2
 go_ret
 exact ⟨i, rfl, hidden (bl_go HBX.out (Nat.le_refl _) HB2.out), HRI⟩
/-! The question 4. -/
theorem least1_4 (w : World) (o1 l1 low j i b1 b2 b3 b4 : Nat) (B : Bool) (hA : Am w o1 l1 low (.func (.func 31) #[] #[.pointer (some ⟨b1, 0, none⟩), .pointer (some ⟨b2, 0, none⟩), .pointer (some ⟨b3, 0, none⟩), .pointer (some ⟨b4, 0, none⟩)])) (hi : low + j = i) (hb : i ≤ 200000)
  (hF : Calls Tryz.prog 31 #[.int .i64 (i : Int), .pointer (some ⟨b1, 0, none⟩), .pointer (some ⟨b2, 0, none⟩), .pointer (some ⟨b3, 0, none⟩), .pointer (some ⟨b4, 0, none⟩)] w fun e w' => e = .returned (.bool B) ∧ Hid (Below w.heap.size w w')) :
  Calls Tryz.prog 64 #[.int .i64 (j : Int), .pointer (some ⟨o1, 0, none⟩), .pointer (some ⟨l1, 0, none⟩)] w fun e w' => e = .returned (.bool B) ∧ Hid (Below w.heap.size w w') := by
 obtain ⟨c1, c2, h1, h2⟩ := hA
 have HF := hidden hF
 have hiI : (low : Int) + (j : Int) = (i : Int) := by omega
 have bi : (i : Int) ≤ 200000 := by omega
 have bj : (j : Int) ≤ 200000 := by omega
 have bl : (low : Int) ≤ 200000 := by omega
 clear hF hi
 go_enter Tryz.func64, Tryz.ntmps64
 go_wp2_with (first | (go_at_call 31; refine HF.out.mono ?_; rintro e w2 ⟨rfl, HB2⟩))
 go_ret
 exact ⟨rfl, HB2⟩
set_option maxHeartbeats 2000000 in
theorem least_4 (w : World) (low high b1 b2 b3 b4 : Nat) (P : Nat → Bool) (hlh : low ≤ high) (hhs : high ≤ 200000)
  (hF : ∀ u (i : Nat), Below w.heap.size w u → low ≤ i → i < high → Calls Tryz.prog 31 #[.int .i64 (i : Int), .pointer (some ⟨b1, 0, none⟩), .pointer (some ⟨b2, 0, none⟩), .pointer (some ⟨b3, 0, none⟩), .pointer (some ⟨b4, 0, none⟩)] u fun e w' => e = .returned (.bool (P i)) ∧ Hid (Below u.heap.size u w')) :
  Calls Tryz.prog 29 #[.int .i64 (low : Int), .int .i64 (high : Int), .func (.func 31) #[] #[.pointer (some ⟨b1, 0, none⟩), .pointer (some ⟨b2, 0, none⟩), .pointer (some ⟨b3, 0, none⟩), .pointer (some ⟨b4, 0, none⟩)]] w (LeastTo P low high w) := by
 obtain ⟨N, hN⟩ : ∃ N, high - low = N := ⟨_, rfl⟩
 have hNI : (high : Int) - (low : Int) = (N : Int) := by omega
 obtain ⟨s, hs⟩ : ∃ s, w.heap.size = s := ⟨_, rfl⟩
 obtain ⟨x, hx⟩ : ∃ x, (w.alloc (.cells #[.int .i64 (low : Int)] 3)).alloc (.cells #[.func (.func 31) #[] #[.pointer (some ⟨b1, 0, none⟩), .pointer (some ⟨b2, 0, none⟩), .pointer (some ⟨b3, 0, none⟩), .pointer (some ⟨b4, 0, none⟩)]] 58) = x := ⟨_, rfl⟩
 have hbx : Below w.heap.size w x := by rw [← hx]; exact bl_al (bl_al (Below.refl _ _) (Nat.le_refl _) _) (Nat.le_refl _) _
 have hAm : Am x (s + 1) s low (.func (.func 31) #[] #[.pointer (some ⟨b1, 0, none⟩), .pointer (some ⟨b2, 0, none⟩), .pointer (some ⟨b3, 0, none⟩), .pointer (some ⟨b4, 0, none⟩)]) := by
  rw [← hx, ← hs]
  exact ⟨by simp, by simp, by simp, by simp; omega⟩
 have HSR : Hid (∀ u, Below x.heap.size x u → Calls Tryz.prog 63 #[.int .i64 (N : Int), .func (.func 64) #[] #[.pointer (some ⟨s + 1, 0, none⟩), .pointer (some ⟨s, 0, none⟩)]] u fun e w' => ∃ r : Nat, e = .returned (.int .i64 (r : Int)) ∧ (w'.cell? ⟨s, 0, none⟩ = some (.int .i64 (low : Int)) ∧ r ≤ N) ∧ Hid (Below x.heap.size x w') ∧ Hid ((r < N → P (low + r) = true) ∧ ∀ t, r = t + 1 → P (low + t) = false)) := by
  refine hidden fun u hu => (search9_any u (s + 1) s N (fun j => P (low + j)) (by omega) (fun v j hv hj => least1_4 v (s + 1) s low j (low + j) b1 b2 b3 b4 (P (low + j)) (hAm.go (bl_go hu (Nat.le_refl _) hv)) rfl (by omega) (hF v (low + j) (bl_go hbx (Nat.le_refl _) (bl_go hu (Nat.le_refl _) hv)) (by omega) (by omega)))).mono ?_
  rintro e w' ⟨r, rfl, HB, HQ⟩
  have hb := bl_go hu (Nat.le_refl _) HB.out
  exact ⟨r, rfl, ⟨(hAm.go hb).c2, HQ.out.1⟩, hidden hb, hidden HQ.out.2⟩
 have HBX := hidden hbx
 obtain ⟨y1, y2, _, _⟩ := hAm
 have bl : (low : Int) ≤ 200000 := by omega
 have bh : (high : Int) ≤ 200000 := by omega
 have bN : (N : Int) ≤ 200000 := by omega
 have HLN : Hid (low + N = high) := hidden (by omega)
 have hwN : IntKind.i64.wrap (N : Int) = (N : Int) := by rw [IntKind.wrap_i64]; omega
 have HSF : Hid (∀ u, Below x.heap.size x u → u.cell? ⟨s, 0, none⟩ = some (.int .i64 (low : Int)) ∧ True) := hidden fun u hu => ⟨(hu.cell (p := ⟨s, 0, none⟩) (by rw [← hx, ← hs]; simp; omega)).trans y2, trivial⟩
 unfold LeastTo
 clear hF hbx hlh y1 y2
 go_enter Tryz.func29, Tryz.ntmps29
 go_upto_region 1 with fail
 refine wp_region_held_drew (S := S1l s low) (by kernel_rfl) (HSF.out _ (Below.refl _ _).drew) (fun hHeld => ?_)
 refine wpAnyH_take (i := 0) (v := ?_) rfl (by kernel_rfl) (by kernel_rfl) (by kernel_rfl) (fun _ _ _ h => h) (Or.inl ⟨by rfl, ?_⟩) (by assumption) ?_
 rotate_left
 ·(intro w hSw; obtain ⟨q0, _⟩ := hSw; go_simp; try (with_reducible rfl))
 try simp only [Act.put, List.getElem_toArray, List.getElem_cons_zero, List.setIfInBounds_toArray, List.set_cons_zero, List.set_cons_succ]
 refine wpAnyH_take (i := 1) (v := ?_) rfl (by kernel_rfl) (by kernel_rfl) (by kernel_rfl) (fun _ _ _ h => h) (Or.inl ⟨by rfl, ?_⟩) (by assumption) ?_
 rotate_left
 ·(intro w hSw; obtain ⟨q0, _⟩ := hSw; go_simp; try (with_reducible rfl))
 try simp only [Act.put, List.getElem_toArray, List.getElem_cons_succ, List.getElem_cons_zero, List.setIfInBounds_toArray, List.set_cons_zero, List.set_cons_succ]
 refine wpAnyH_take (i := 2) (v := ?_) rfl (by kernel_rfl) (by kernel_rfl) (by kernel_rfl) (fun _ _ _ h => h) (Or.inl ⟨by rfl, ?_⟩) (by assumption) ?_
 rotate_left
 ·(intro w hSw; obtain ⟨q0, _⟩ := hSw; go_simp; try (with_reducible rfl))
 try simp only [Act.put, List.getElem_toArray, List.getElem_cons_succ, List.getElem_cons_zero, List.setIfInBounds_toArray, List.set_cons_zero, List.set_cons_succ]
 refine wpAnyH_take (i := 3) (v := ?_) rfl (by kernel_rfl) (by kernel_rfl) (by kernel_rfl) (fun _ _ _ h => h) (Or.inl ⟨by rfl, ?_⟩) (by assumption) ?_
 rotate_left
 ·(intro w hSw; obtain ⟨q0, _⟩ := hSw; go_simp; try (with_reducible rfl))
 try simp only [Act.put, List.getElem_toArray, List.getElem_cons_succ, List.getElem_cons_zero, List.setIfInBounds_toArray, List.set_cons_zero, List.set_cons_succ]
 refine wpAnyH_take (i := 4) (v := ?_) rfl (by kernel_rfl) (by kernel_rfl) (by kernel_rfl) (fun _ _ _ h => h) (Or.inl ⟨by rfl, ?_⟩) (by assumption) ?_
 rotate_left
 ·(intro w hSw; obtain ⟨q0, _⟩ := hSw; go_simp; try (with_reducible rfl))
 try simp only [Act.put, List.getElem_toArray, List.getElem_cons_succ, List.getElem_cons_zero, List.setIfInBounds_toArray, List.set_cons_zero, List.set_cons_succ]
 refine wpAnyH_ready (rs := [5]) (by kernel_rfl) (by simp) ?_
 refine AllReadyH.cons rfl (fun K hK => ?_) AllReadyH.nil
 go_simp
 go_at_call 63
 refine (HSR.out _ (Below.refl _ _).drew).mono ?_
 rintro e w2 ⟨r, rfl, ⟨_, hrN⟩, HB2, HQ2⟩
 obtain ⟨i, hi⟩ : ∃ i, low + r = i := ⟨_, rfl⟩
 have hln := HLN.out
 have hiI : (low : Int) + (r : Int) = (i : Int) := by omega
 have bi : (i : Int) ≤ 200000 := by omega
 have br : (r : Int) ≤ 200000 := by omega
 have hwi : IntKind.i64.wrap (i : Int) = (i : Int) := by rw [IntKind.wrap_i64]; omega
 have HRI : Hid ((low ≤ i ∧ i ≤ high) ∧ (i < high → P i = true) ∧ ∀ t, i = t + 1 → low ≤ t → P t = false) := hidden (by
  refine ⟨⟨by omega, by omega⟩, fun h => by rw [← hi]; exact HQ2.out.1 (by omega), fun t ht hlt => ?_⟩
  obtain ⟨d, rfl⟩ : ∃ d, t = low + d := ⟨t - low, by omega⟩
  exact HQ2.out.2 d (by omega))
 clear hi hln hrN
 dsimp only
 refine hK.out _ _ (HSF.out _ HB2.out) (fun hHeld => ?_)
 clear hK K
 try simp only [Act.put, List.getElem_toArray, List.getElem_cons_succ, List.getElem_cons_zero, List.setIfInBounds_toArray, List.set_cons_zero, List.set_cons_succ]
 refine wpAnyH_take (i := 6) (v := ?_) rfl (by kernel_rfl) (by kernel_rfl) (by kernel_rfl) (fun _ _ _ h => h) (Or.inl ⟨by rfl, ?_⟩) (by assumption) ?_
 rotate_left
 ·(intro w hSw; obtain ⟨q0, _⟩ := hSw; go_simp; try (with_reducible rfl))
 try simp only [Act.put, List.getElem_toArray, List.getElem_cons_succ, List.getElem_cons_zero, List.setIfInBounds_toArray, List.set_cons_zero, List.set_cons_succ]
 refine wpAnyH_take (i := 7) (v := ?_) rfl (by kernel_rfl) (by kernel_rfl) (by kernel_rfl) (fun _ _ _ h => h) (Or.inl ⟨by rfl, ?_⟩) (by assumption) ?_
 rotate_left
 ·(intro w hSw; obtain ⟨q0, _⟩ := hSw; go_simp; try (with_reducible rfl))
 try simp only [Act.put, List.getElem_toArray, List.getElem_cons_succ, List.getElem_cons_zero, List.setIfInBounds_toArray, List.set_cons_zero, List.set_cons_succ]
 refine wpAnyH_done (by kernel_rfl) ?_ _
 clear hHeld
 go_wp2
 go_ret
 exact ⟨i, rfl, hidden (bl_go HBX.out (Nat.le_refl _) HB2.out), HRI⟩
/-! The question 6. -/
theorem least1_6 (w : World) (o1 l1 low j i b1 : Nat) (B : Bool) (hA : Am w o1 l1 low (.func (.func 33) #[] #[.pointer (some ⟨b1, 0, none⟩)])) (hi : low + j = i) (hb : i ≤ 200000)
  (hF : Calls Tryz.prog 33 #[.int .i64 (i : Int), .pointer (some ⟨b1, 0, none⟩)] w fun e w' => e = .returned (.bool B) ∧ Hid (Below w.heap.size w w')) :
  Calls Tryz.prog 64 #[.int .i64 (j : Int), .pointer (some ⟨o1, 0, none⟩), .pointer (some ⟨l1, 0, none⟩)] w fun e w' => e = .returned (.bool B) ∧ Hid (Below w.heap.size w w') := by
 obtain ⟨c1, c2, h1, h2⟩ := hA
 have HF := hidden hF
 have hiI : (low : Int) + (j : Int) = (i : Int) := by omega
 have bi : (i : Int) ≤ 200000 := by omega
 have bj : (j : Int) ≤ 200000 := by omega
 have bl : (low : Int) ≤ 200000 := by omega
 clear hF hi
 go_enter Tryz.func64, Tryz.ntmps64
 go_wp2_with (first | (go_at_call 33; refine HF.out.mono ?_; rintro e w2 ⟨rfl, HB2⟩))
 go_ret
 exact ⟨rfl, HB2⟩
set_option maxHeartbeats 2000000 in
theorem least_6 (w : World) (low high b1 : Nat) (P : Nat → Bool) (hlh : low ≤ high) (hhs : high ≤ 200000)
  (hF : ∀ u (i : Nat), Below w.heap.size w u → low ≤ i → i < high → Calls Tryz.prog 33 #[.int .i64 (i : Int), .pointer (some ⟨b1, 0, none⟩)] u fun e w' => e = .returned (.bool (P i)) ∧ Hid (Below u.heap.size u w')) :
  Calls Tryz.prog 29 #[.int .i64 (low : Int), .int .i64 (high : Int), .func (.func 33) #[] #[.pointer (some ⟨b1, 0, none⟩)]] w (LeastTo P low high w) := by
 obtain ⟨N, hN⟩ : ∃ N, high - low = N := ⟨_, rfl⟩
 have hNI : (high : Int) - (low : Int) = (N : Int) := by omega
 obtain ⟨s, hs⟩ : ∃ s, w.heap.size = s := ⟨_, rfl⟩
 obtain ⟨x, hx⟩ : ∃ x, (w.alloc (.cells #[.int .i64 (low : Int)] 3)).alloc (.cells #[.func (.func 33) #[] #[.pointer (some ⟨b1, 0, none⟩)]] 58) = x := ⟨_, rfl⟩
 have hbx : Below w.heap.size w x := by rw [← hx]; exact bl_al (bl_al (Below.refl _ _) (Nat.le_refl _) _) (Nat.le_refl _) _
 have hAm : Am x (s + 1) s low (.func (.func 33) #[] #[.pointer (some ⟨b1, 0, none⟩)]) := by
  rw [← hx, ← hs]
  exact ⟨by simp, by simp, by simp, by simp; omega⟩
 have HSR : Hid (∀ u, Below x.heap.size x u → Calls Tryz.prog 63 #[.int .i64 (N : Int), .func (.func 64) #[] #[.pointer (some ⟨s + 1, 0, none⟩), .pointer (some ⟨s, 0, none⟩)]] u fun e w' => ∃ r : Nat, e = .returned (.int .i64 (r : Int)) ∧ (w'.cell? ⟨s, 0, none⟩ = some (.int .i64 (low : Int)) ∧ r ≤ N) ∧ Hid (Below x.heap.size x w') ∧ Hid ((r < N → P (low + r) = true) ∧ ∀ t, r = t + 1 → P (low + t) = false)) := by
  refine hidden fun u hu => (search9_any u (s + 1) s N (fun j => P (low + j)) (by omega) (fun v j hv hj => least1_6 v (s + 1) s low j (low + j) b1 (P (low + j)) (hAm.go (bl_go hu (Nat.le_refl _) hv)) rfl (by omega) (hF v (low + j) (bl_go hbx (Nat.le_refl _) (bl_go hu (Nat.le_refl _) hv)) (by omega) (by omega)))).mono ?_
  rintro e w' ⟨r, rfl, HB, HQ⟩
  have hb := bl_go hu (Nat.le_refl _) HB.out
  exact ⟨r, rfl, ⟨(hAm.go hb).c2, HQ.out.1⟩, hidden hb, hidden HQ.out.2⟩
 have HBX := hidden hbx
 obtain ⟨y1, y2, _, _⟩ := hAm
 have bl : (low : Int) ≤ 200000 := by omega
 have bh : (high : Int) ≤ 200000 := by omega
 have bN : (N : Int) ≤ 200000 := by omega
 have HLN : Hid (low + N = high) := hidden (by omega)
 have hwN : IntKind.i64.wrap (N : Int) = (N : Int) := by rw [IntKind.wrap_i64]; omega
 have HSF : Hid (∀ u, Below x.heap.size x u → u.cell? ⟨s, 0, none⟩ = some (.int .i64 (low : Int)) ∧ True) := hidden fun u hu => ⟨(hu.cell (p := ⟨s, 0, none⟩) (by rw [← hx, ← hs]; simp; omega)).trans y2, trivial⟩
 unfold LeastTo
 clear hF hbx hlh y1 y2
 go_enter Tryz.func29, Tryz.ntmps29
 go_upto_region 1 with fail
 refine wp_region_held_drew (S := S1l s low) (by kernel_rfl) (HSF.out _ (Below.refl _ _).drew) (fun hHeld => ?_)
 refine wpAnyH_take (i := 0) (v := ?_) rfl (by kernel_rfl) (by kernel_rfl) (by kernel_rfl) (fun _ _ _ h => h) (Or.inl ⟨by rfl, ?_⟩) (by assumption) ?_
 rotate_left
 ·(intro w hSw; obtain ⟨q0, _⟩ := hSw; go_simp; try (with_reducible rfl))
 try simp only [Act.put, List.getElem_toArray, List.getElem_cons_zero, List.setIfInBounds_toArray, List.set_cons_zero, List.set_cons_succ]
 refine wpAnyH_take (i := 1) (v := ?_) rfl (by kernel_rfl) (by kernel_rfl) (by kernel_rfl) (fun _ _ _ h => h) (Or.inl ⟨by rfl, ?_⟩) (by assumption) ?_
 rotate_left
 ·(intro w hSw; obtain ⟨q0, _⟩ := hSw; go_simp; try (with_reducible rfl))
 try simp only [Act.put, List.getElem_toArray, List.getElem_cons_succ, List.getElem_cons_zero, List.setIfInBounds_toArray, List.set_cons_zero, List.set_cons_succ]
 refine wpAnyH_take (i := 2) (v := ?_) rfl (by kernel_rfl) (by kernel_rfl) (by kernel_rfl) (fun _ _ _ h => h) (Or.inl ⟨by rfl, ?_⟩) (by assumption) ?_
 rotate_left
 ·(intro w hSw; obtain ⟨q0, _⟩ := hSw; go_simp; try (with_reducible rfl))
 try simp only [Act.put, List.getElem_toArray, List.getElem_cons_succ, List.getElem_cons_zero, List.setIfInBounds_toArray, List.set_cons_zero, List.set_cons_succ]
 refine wpAnyH_take (i := 3) (v := ?_) rfl (by kernel_rfl) (by kernel_rfl) (by kernel_rfl) (fun _ _ _ h => h) (Or.inl ⟨by rfl, ?_⟩) (by assumption) ?_
 rotate_left
 ·(intro w hSw; obtain ⟨q0, _⟩ := hSw; go_simp; try (with_reducible rfl))
 try simp only [Act.put, List.getElem_toArray, List.getElem_cons_succ, List.getElem_cons_zero, List.setIfInBounds_toArray, List.set_cons_zero, List.set_cons_succ]
 refine wpAnyH_take (i := 4) (v := ?_) rfl (by kernel_rfl) (by kernel_rfl) (by kernel_rfl) (fun _ _ _ h => h) (Or.inl ⟨by rfl, ?_⟩) (by assumption) ?_
 rotate_left
 ·(intro w hSw; obtain ⟨q0, _⟩ := hSw; go_simp; try (with_reducible rfl))
 try simp only [Act.put, List.getElem_toArray, List.getElem_cons_succ, List.getElem_cons_zero, List.setIfInBounds_toArray, List.set_cons_zero, List.set_cons_succ]
 refine wpAnyH_ready (rs := [5]) (by kernel_rfl) (by simp) ?_
 refine AllReadyH.cons rfl (fun K hK => ?_) AllReadyH.nil
 go_simp
 go_at_call 63
 refine (HSR.out _ (Below.refl _ _).drew).mono ?_
 rintro e w2 ⟨r, rfl, ⟨_, hrN⟩, HB2, HQ2⟩
 obtain ⟨i, hi⟩ : ∃ i, low + r = i := ⟨_, rfl⟩
 have hln := HLN.out
 have hiI : (low : Int) + (r : Int) = (i : Int) := by omega
 have bi : (i : Int) ≤ 200000 := by omega
 have br : (r : Int) ≤ 200000 := by omega
 have hwi : IntKind.i64.wrap (i : Int) = (i : Int) := by rw [IntKind.wrap_i64]; omega
 have HRI : Hid ((low ≤ i ∧ i ≤ high) ∧ (i < high → P i = true) ∧ ∀ t, i = t + 1 → low ≤ t → P t = false) := hidden (by
  refine ⟨⟨by omega, by omega⟩, fun h => by rw [← hi]; exact HQ2.out.1 (by omega), fun t ht hlt => ?_⟩
  obtain ⟨d, rfl⟩ : ∃ d, t = low + d := ⟨t - low, by omega⟩
  exact HQ2.out.2 d (by omega))
 clear hi hln hrN
 dsimp only
 refine hK.out _ _ (HSF.out _ HB2.out) (fun hHeld => ?_)
 clear hK K
 try simp only [Act.put, List.getElem_toArray, List.getElem_cons_succ, List.getElem_cons_zero, List.setIfInBounds_toArray, List.set_cons_zero, List.set_cons_succ]
 refine wpAnyH_take (i := 6) (v := ?_) rfl (by kernel_rfl) (by kernel_rfl) (by kernel_rfl) (fun _ _ _ h => h) (Or.inl ⟨by rfl, ?_⟩) (by assumption) ?_
 rotate_left
 ·(intro w hSw; obtain ⟨q0, _⟩ := hSw; go_simp; try (with_reducible rfl))
 try simp only [Act.put, List.getElem_toArray, List.getElem_cons_succ, List.getElem_cons_zero, List.setIfInBounds_toArray, List.set_cons_zero, List.set_cons_succ]
 refine wpAnyH_take (i := 7) (v := ?_) rfl (by kernel_rfl) (by kernel_rfl) (by kernel_rfl) (fun _ _ _ h => h) (Or.inl ⟨by rfl, ?_⟩) (by assumption) ?_
 rotate_left
 ·(intro w hSw; obtain ⟨q0, _⟩ := hSw; go_simp; try (with_reducible rfl))
 try simp only [Act.put, List.getElem_toArray, List.getElem_cons_succ, List.getElem_cons_zero, List.setIfInBounds_toArray, List.set_cons_zero, List.set_cons_succ]
 refine wpAnyH_done (by kernel_rfl) ?_ _
 clear hHeld
 go_wp2
 go_ret
 exact ⟨i, rfl, hidden (bl_go HBX.out (Nat.le_refl _) HB2.out), HRI⟩
end Go.Proofs.YtlhkinlgolcpaaaGreatDoor
