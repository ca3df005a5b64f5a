import Derived.Test.YtofafbmpbkjhnaaGreatDoorJ32
import Derived.Test.YtofafbmpbkjhnaaGreatDoorJ45
namespace Go.Proofs.YtofafbmpbkjhnaaGreatDoor
set_option maxRecDepth 100000
set_option maxHeartbeats 8000000
open Go.RowKit
def zbr (P : Nat → Bool) (low high : Nat) (w : World) (e : Ending) (w' : World) : Prop :=
 ∃ r : Nat, e = .returned (.int .i64 (r : Int)) ∧ Hid (Below w.heap.size w w') ∧ Hid ((low ≤ r ∧ r ≤ high) ∧ (r < high → P r = true) ∧ ∀ t, r = t + 1 → low ≤ t → P t = false)
def S1l (s low : Nat) (u : World) : Prop := u.cell? ⟨s, 0, none⟩ = some (.int .i64 (low : Int)) ∧ True
def SearTo (P : Nat → Bool) (N : Nat) (w : World) (e : Ending) (w' : World) : Prop :=
 ∃ r : Nat, e = .returned (.int .i64 (r : Int)) ∧ Hid (Below w.heap.size w w') ∧ Hid (r ≤ N ∧ (r < N → P r = true) ∧ ∀ t, r = t + 1 → P t = false)
theorem search9_any (w : World) (o1 l1 N : Nat) (P : Nat → Bool) (hN : N ≤ 65536)
  (hF : ∀ u (j : Nat), Below w.heap.size w u → j < N → Calls Tryz.prog 129 #[.int .i64 (j : Int), .pointer (some ⟨o1, 0, none⟩), .pointer (some ⟨l1, 0, none⟩)] u fun e w' => e = .returned (.bool (P j)) ∧ Hid (Below u.heap.size u w')) :
  Calls Tryz.prog 128 #[.int .i64 (N : Int), .func (.func 129) #[] #[.pointer (some ⟨o1, 0, none⟩), .pointer (some ⟨l1, 0, none⟩)]] w (SearTo P N w) := by
 have HF := zaa hF
 clear hF
 unfold SearTo
 go_enter Tryz.func128, Tryz.ntmps128
 go_wp2_with fail
 go_loopw [5, 6] (fun s5 s6 wr => ∃ lo hi : Nat, s5 = .int .i64 lo ∧ s6 = .int .i64 hi ∧ lo ≤ hi ∧ hi ≤ N ∧ Hid (Below w.heap.size w wr) ∧ Hid ((hi < N → P hi = true) ∧ ∀ t, lo = t + 1 → P t = false)) (fun s5 s6 _ => (intOf s6).toNat - (intOf s5).toNat)
 case atStart => exact ⟨0, N, rfl, rfl, by omega, by omega, zaa Br, zaa ⟨fun h => by omega, fun t h => by omega⟩⟩
 case round =>
  obtain ⟨lo, hi, rfl, rfl, hlh, hhs, HB, HI⟩ := hrel
  have b1' : (lo : Int) ≤ 65536 := by omega
  have b2' : (hi : Int) ≤ 65536 := by omega
  by_cases hlt : lo < hi
  ·have hltI : (lo : Int) < (hi : Int) := by omega
   obtain ⟨m, hm⟩ : ∃ m, (lo + hi) / 2 = m := ⟨_, rfl⟩
   have hmI : ((lo : Int) + (hi : Int)) / 2 = (m : Int) := by omega
   have m3 : (m : Int) ≤ 65536 := by omega
   have HML : Hid (lo ≤ m ∧ m < hi) := zaa (by omega)
   have HFM := zaa (HF.out wr m HB.out (by omega))
   clear hm
   cases hp : P m with
   | false =>
    rw [hp] at HFM
    have HPM := zaa hp
    clear hp
    go_wp2_with (go_at_call 129; refine HFM.out.mono ?_; rintro e w2 ⟨rfl, HB2⟩)
    go_roundw
    case rel =>
     refine ⟨m + 1, hi, by go_num, rfl, by have := HML.out; omega, hhs, zaa (zab HB.out Lr HB2.out), zaa ⟨HI.out.1, fun t ht => ?_⟩⟩
     obtain rfl : t = m := by omega
     exact HPM.out
    case measure => have := HML.out; simp [intOf]; omega
   | true =>
    rw [hp] at HFM
    have HPM := zaa hp
    clear hp
    go_wp2_with (go_at_call 129; refine HFM.out.mono ?_; rintro e w2 ⟨rfl, HB2⟩)
    go_roundw
    case rel => exact ⟨lo, m, rfl, by go_num, by have := HML.out; omega, by have := HML.out; omega, zaa (zab HB.out Lr HB2.out), zaa ⟨fun _ => HPM.out, HI.out.2⟩⟩
    case measure => have := HML.out; simp [intOf]; omega
  ·obtain rfl : hi = lo := by omega
   have hltI : ¬ (hi : Int) < (hi : Int) := by omega
   go_wp2
   go_ret
   exact ⟨hi, rfl, HB, zaa ⟨hhs, HI.out.1, HI.out.2⟩⟩
/-! The question 3. -/
theorem least1_3 (w : World) (o1 l1 low j i b1 b2 b3 b4 : Nat) (B : Bool) (hA : Am w o1 l1 low (.func (.func 68) #[] #[.pointer (some ⟨b1, 0, none⟩), .pointer (some ⟨b2, 0, none⟩), .pointer (some ⟨b3, 0, none⟩), .pointer (some ⟨b4, 0, none⟩)])) (hi : low + j = i) (hb : i ≤ 65536)
  (hF : Calls Tryz.prog 68 #[.int .i64 (i : Int), .pointer (some ⟨b1, 0, none⟩), .pointer (some ⟨b2, 0, none⟩), .pointer (some ⟨b3, 0, none⟩), .pointer (some ⟨b4, 0, none⟩)] w fun e w' => e = .returned (.bool B) ∧ Hid (Below w.heap.size w w')) :
  Calls Tryz.prog 129 #[.int .i64 (j : Int), .pointer (some ⟨o1, 0, none⟩), .pointer (some ⟨l1, 0, none⟩)] w fun e w' => e = .returned (.bool B) ∧ Hid (Below w.heap.size w w') := by
 obtain ⟨c1, c2, h1, h2⟩ := hA
 have HF := zaa hF
 have hiI : (low : Int) + (j : Int) = (i : Int) := by omega
 have bi : (i : Int) ≤ 65536 := by omega
 have bj : (j : Int) ≤ 65536 := by omega
 have bl : (low : Int) ≤ 65536 := by omega
 clear hF hi
 go_enter Tryz.func129, Tryz.ntmps129
 go_wp2_with (go_at_call 68; refine HF.out.mono ?_; rintro e w2 ⟨rfl, HB2⟩)
 go_ret
 exact ⟨rfl, HB2⟩
theorem least_3 (w : World) (low high b1 b2 b3 b4 : Nat) (P : Nat → Bool) (hlh : low ≤ high) (hhs : high ≤ 65536)
  (hF : ∀ u (i : Nat), Below w.heap.size w u → low ≤ i → i < high → Calls Tryz.prog 68 #[.int .i64 (i : Int), .pointer (some ⟨b1, 0, none⟩), .pointer (some ⟨b2, 0, none⟩), .pointer (some ⟨b3, 0, none⟩), .pointer (some ⟨b4, 0, none⟩)] u fun e w' => e = .returned (.bool (P i)) ∧ Hid (Below u.heap.size u w')) :
  Calls Tryz.prog 67 #[.int .i64 (low : Int), .int .i64 (high : Int), .func (.func 68) #[] #[.pointer (some ⟨b1, 0, none⟩), .pointer (some ⟨b2, 0, none⟩), .pointer (some ⟨b3, 0, none⟩), .pointer (some ⟨b4, 0, none⟩)]] w (zbr P low high w) := by
 obtain ⟨N, hN⟩ : ∃ N, high - low = N := ⟨_, rfl⟩
 have hNI : (high : Int) - (low : Int) = (N : Int) := by omega
 obtain ⟨s, hs⟩ : ∃ s, w.heap.size = s := ⟨_, rfl⟩
 obtain ⟨x, hx⟩ : ∃ x, (w.alloc (.cells #[.int .i64 (low : Int)] 3)).alloc (.cells #[.func (.func 68) #[] #[.pointer (some ⟨b1, 0, none⟩), .pointer (some ⟨b2, 0, none⟩), .pointer (some ⟨b3, 0, none⟩), .pointer (some ⟨b4, 0, none⟩)]] 103) = x := ⟨_, rfl⟩
 have hbx : Below w.heap.size w x := by rw [← hx]; exact zac (zac Br Lr _) Lr _
 have hAm : Am x (s + 1) s low (.func (.func 68) #[] #[.pointer (some ⟨b1, 0, none⟩), .pointer (some ⟨b2, 0, none⟩), .pointer (some ⟨b3, 0, none⟩), .pointer (some ⟨b4, 0, none⟩)]) := by
  rw [← hx, ← hs]
  exact ⟨by simp, by simp, by simp, by simp; omega⟩
 have HSR : Hid (∀ u, Below x.heap.size x u → Calls Tryz.prog 128 #[.int .i64 (N : Int), .func (.func 129) #[] #[.pointer (some ⟨s + 1, 0, none⟩), .pointer (some ⟨s, 0, none⟩)]] u fun e w' => ∃ r : Nat, e = .returned (.int .i64 (r : Int)) ∧ (w'.cell? ⟨s, 0, none⟩ = some (.int .i64 (low : Int)) ∧ r ≤ N) ∧ Hid (Below x.heap.size x w') ∧ Hid ((r < N → P (low + r) = true) ∧ ∀ t, r = t + 1 → P (low + t) = false)) := by
  refine zaa fun u hu => (search9_any u (s + 1) s N (fun j => P (low + j)) (by omega) (fun v j hv hj => least1_3 v (s + 1) s low j (low + j) b1 b2 b3 b4 (P (low + j)) (hAm.go (zab hu Lr hv)) rfl (by omega) (hF v (low + j) (zab hbx Lr (zab hu Lr hv)) (by omega) (by omega)))).mono ?_
  rintro e w' ⟨r, rfl, HB, HQ⟩
  have hb := zab hu Lr HB.out
  exact ⟨r, rfl, ⟨(hAm.go hb).c2, HQ.out.1⟩, zaa hb, zaa HQ.out.2⟩
 have HBX := zaa hbx
 obtain ⟨y1, y2, _, _⟩ := hAm
 have bl : (low : Int) ≤ 65536 := by omega
 have bh : (high : Int) ≤ 65536 := by omega
 have bN : (N : Int) ≤ 65536 := by omega
 have HLN : Hid (low + N = high) := zaa (by omega)
 have hwN : IntKind.i64.wrap (N : Int) = (N : Int) := by rw [IntKind.wrap_i64]; omega
 have HSF : Hid (∀ u, Below x.heap.size x u → u.cell? ⟨s, 0, none⟩ = some (.int .i64 (low : Int)) ∧ True) := zaa fun u hu => ⟨(hu.cell (p := ⟨s, 0, none⟩) (by rw [← hx, ← hs]; simp; omega)).trans y2, trivial⟩
 unfold zbr
 clear hF hbx hlh y1 y2
 go_enter Tryz.func67, Tryz.ntmps67
 go_upto_region 1 with fail
 refine wp_region_held_drew (S := S1l s low) (by kernel_rfl) (HSF.out _ Br.drew) (fun hHeld => ?_)
 refine zT (i := 0) (v := ?_) rfl ?_ (fun _ _ _ h => h) ?_
 rotate_left
 ·(rintro w ⟨q0, _⟩; go_simp; try with_reducible rfl)
 try simp only [Act.put, zA, zC, zD, zE, zF]
 refine zT (i := 1) (v := ?_) rfl ?_ (fun _ _ _ h => h) ?_
 rotate_left
 ·(rintro w ⟨q0, _⟩; go_simp; try with_reducible rfl)
 try simp only [Act.put, zA, zB, zC, zD, zE, zF]
 refine zT (i := 2) (v := ?_) rfl ?_ (fun _ _ _ h => h) ?_
 rotate_left
 ·(rintro w ⟨q0, _⟩; go_simp; try with_reducible rfl)
 try simp only [Act.put, zA, zB, zC, zD, zE, zF]
 refine zT (i := 3) (v := ?_) rfl ?_ (fun _ _ _ h => h) ?_
 rotate_left
 ·(rintro w ⟨q0, _⟩; go_simp; try with_reducible rfl)
 try simp only [Act.put, zA, zB, zC, zD, zE, zF]
 refine zT (i := 4) (v := ?_) rfl ?_ (fun _ _ _ h => h) ?_
 rotate_left
 ·(rintro w ⟨q0, _⟩; go_simp; try with_reducible rfl)
 try simp only [Act.put, zA, zB, zC, zD, zE, zF]
 refine zY (i := 5) rfl fun K hK => ?_
 go_simp
 go_at_call 128
 refine (HSR.out _ Br.drew).mono ?_
 rintro e w2 ⟨r, rfl, ⟨_, hrN⟩, HB2, HQ2⟩
 obtain ⟨i, hi⟩ : ∃ i, low + r = i := ⟨_, rfl⟩
 have hln := HLN.out
 have hiI : (low : Int) + (r : Int) = (i : Int) := by omega
 have bi : (i : Int) ≤ 65536 := by omega
 have br : (r : Int) ≤ 65536 := by omega
 have hwi : IntKind.i64.wrap (i : Int) = (i : Int) := by rw [IntKind.wrap_i64]; omega
 have HRI : Hid ((low ≤ i ∧ i ≤ high) ∧ (i < high → P i = true) ∧ ∀ t, i = t + 1 → low ≤ t → P t = false) := zaa (by
  refine ⟨⟨by omega, by omega⟩, fun h => by rw [← hi]; exact HQ2.out.1 (by omega), fun t ht hlt => ?_⟩
  obtain ⟨d, rfl⟩ : ∃ d, t = low + d := ⟨t - low, by omega⟩
  exact HQ2.out.2 d (by omega))
 clear hi hln hrN
 dsimp only
 refine hK.out _ _ (HSF.out _ HB2.out) (fun hHeld => ?_)
 clear hK K
 try simp only [Act.put, zA, zB, zC, zD, zE, zF]
 refine zT (i := 6) (v := ?_) rfl ?_ (fun _ _ _ h => h) ?_
 rotate_left
 ·(rintro w ⟨q0, _⟩; go_simp; try with_reducible rfl)
 try simp only [Act.put, zA, zB, zC, zD, zE, zF]
 refine zT (i := 7) (v := ?_) rfl ?_ (fun _ _ _ h => h) ?_
 rotate_left
 ·(rintro w ⟨q0, _⟩; go_simp; try with_reducible rfl)
 try simp only [Act.put, zA, zB, zC, zD, zE, zF]
 refine wpAnyH_done (by kernel_rfl) ?_ _
 clear hHeld
 go_wp2
 go_ret
 exact ⟨i, rfl, zaa (zab HBX.out Lr HB2.out), HRI⟩
/-! The question 4. -/
theorem least1_4 (w : World) (o1 l1 low j i b1 b2 b3 b4 : Nat) (B : Bool) (hA : Am w o1 l1 low (.func (.func 69) #[] #[.pointer (some ⟨b1, 0, none⟩), .pointer (some ⟨b2, 0, none⟩), .pointer (some ⟨b3, 0, none⟩), .pointer (some ⟨b4, 0, none⟩)])) (hi : low + j = i) (hb : i ≤ 65536)
  (hF : Calls Tryz.prog 69 #[.int .i64 (i : Int), .pointer (some ⟨b1, 0, none⟩), .pointer (some ⟨b2, 0, none⟩), .pointer (some ⟨b3, 0, none⟩), .pointer (some ⟨b4, 0, none⟩)] w fun e w' => e = .returned (.bool B) ∧ Hid (Below w.heap.size w w')) :
  Calls Tryz.prog 129 #[.int .i64 (j : Int), .pointer (some ⟨o1, 0, none⟩), .pointer (some ⟨l1, 0, none⟩)] w fun e w' => e = .returned (.bool B) ∧ Hid (Below w.heap.size w w') := by
 obtain ⟨c1, c2, h1, h2⟩ := hA
 have HF := zaa hF
 have hiI : (low : Int) + (j : Int) = (i : Int) := by omega
 have bi : (i : Int) ≤ 65536 := by omega
 have bj : (j : Int) ≤ 65536 := by omega
 have bl : (low : Int) ≤ 65536 := by omega
 clear hF hi
 go_enter Tryz.func129, Tryz.ntmps129
 go_wp2_with (go_at_call 69; refine HF.out.mono ?_; rintro e w2 ⟨rfl, HB2⟩)
 go_ret
 exact ⟨rfl, HB2⟩
theorem least_4 (w : World) (low high b1 b2 b3 b4 : Nat) (P : Nat → Bool) (hlh : low ≤ high) (hhs : high ≤ 65536)
  (hF : ∀ u (i : Nat), Below w.heap.size w u → low ≤ i → i < high → Calls Tryz.prog 69 #[.int .i64 (i : Int), .pointer (some ⟨b1, 0, none⟩), .pointer (some ⟨b2, 0, none⟩), .pointer (some ⟨b3, 0, none⟩), .pointer (some ⟨b4, 0, none⟩)] u fun e w' => e = .returned (.bool (P i)) ∧ Hid (Below u.heap.size u w')) :
  Calls Tryz.prog 67 #[.int .i64 (low : Int), .int .i64 (high : Int), .func (.func 69) #[] #[.pointer (some ⟨b1, 0, none⟩), .pointer (some ⟨b2, 0, none⟩), .pointer (some ⟨b3, 0, none⟩), .pointer (some ⟨b4, 0, none⟩)]] w (zbr P low high w) := by
 obtain ⟨N, hN⟩ : ∃ N, high - low = N := ⟨_, rfl⟩
 have hNI : (high : Int) - (low : Int) = (N : Int) := by omega
 obtain ⟨s, hs⟩ : ∃ s, w.heap.size = s := ⟨_, rfl⟩
 obtain ⟨x, hx⟩ : ∃ x, (w.alloc (.cells #[.int .i64 (low : Int)] 3)).alloc (.cells #[.func (.func 69) #[] #[.pointer (some ⟨b1, 0, none⟩), .pointer (some ⟨b2, 0, none⟩), .pointer (some ⟨b3, 0, none⟩), .pointer (some ⟨b4, 0, none⟩)]] 103) = x := ⟨_, rfl⟩
 have hbx : Below w.heap.size w x := by rw [← hx]; exact zac (zac Br Lr _) Lr _
 have hAm : Am x (s + 1) s low (.func (.func 69) #[] #[.pointer (some ⟨b1, 0, none⟩), .pointer (some ⟨b2, 0, none⟩), .pointer (some ⟨b3, 0, none⟩), .pointer (some ⟨b4, 0, none⟩)]) := by
  rw [← hx, ← hs]
  exact ⟨by simp, by simp, by simp, by simp; omega⟩
 have HSR : Hid (∀ u, Below x.heap.size x u → Calls Tryz.prog 128 #[.int .i64 (N : Int), .func (.func 129) #[] #[.pointer (some ⟨s + 1, 0, none⟩), .pointer (some ⟨s, 0, none⟩)]] u fun e w' => ∃ r : Nat, e = .returned (.int .i64 (r : Int)) ∧ (w'.cell? ⟨s, 0, none⟩ = some (.int .i64 (low : Int)) ∧ r ≤ N) ∧ Hid (Below x.heap.size x w') ∧ Hid ((r < N → P (low + r) = true) ∧ ∀ t, r = t + 1 → P (low + t) = false)) := by
  refine zaa fun u hu => (search9_any u (s + 1) s N (fun j => P (low + j)) (by omega) (fun v j hv hj => least1_4 v (s + 1) s low j (low + j) b1 b2 b3 b4 (P (low + j)) (hAm.go (zab hu Lr hv)) rfl (by omega) (hF v (low + j) (zab hbx Lr (zab hu Lr hv)) (by omega) (by omega)))).mono ?_
  rintro e w' ⟨r, rfl, HB, HQ⟩
  have hb := zab hu Lr HB.out
  exact ⟨r, rfl, ⟨(hAm.go hb).c2, HQ.out.1⟩, zaa hb, zaa HQ.out.2⟩
 have HBX := zaa hbx
 obtain ⟨y1, y2, _, _⟩ := hAm
 have bl : (low : Int) ≤ 65536 := by omega
 have bh : (high : Int) ≤ 65536 := by omega
 have bN : (N : Int) ≤ 65536 := by omega
 have HLN : Hid (low + N = high) := zaa (by omega)
 have hwN : IntKind.i64.wrap (N : Int) = (N : Int) := by rw [IntKind.wrap_i64]; omega
 have HSF : Hid (∀ u, Below x.heap.size x u → u.cell? ⟨s, 0, none⟩ = some (.int .i64 (low : Int)) ∧ True) := zaa fun u hu => ⟨(hu.cell (p := ⟨s, 0, none⟩) (by rw [← hx, ← hs]; simp; omega)).trans y2, trivial⟩
 unfold zbr
 clear hF hbx hlh y1 y2
 go_enter Tryz.func67, Tryz.ntmps67
 go_upto_region 1 with fail
 refine wp_region_held_drew (S := S1l s low) (by kernel_rfl) (HSF.out _ Br.drew) (fun hHeld => ?_)
 refine zT (i := 0) (v := ?_) rfl ?_ (fun _ _ _ h => h) ?_
 rotate_left
 ·(rintro w ⟨q0, _⟩; go_simp; try with_reducible rfl)
 try simp only [Act.put, zA, zC, zD, zE, zF]
 refine zT (i := 1) (v := ?_) rfl ?_ (fun _ _ _ h => h) ?_
 rotate_left
 ·(rintro w ⟨q0, _⟩; go_simp; try with_reducible rfl)
 try simp only [Act.put, zA, zB, zC, zD, zE, zF]
 refine zT (i := 2) (v := ?_) rfl ?_ (fun _ _ _ h => h) ?_
 rotate_left
 ·(rintro w ⟨q0, _⟩; go_simp; try with_reducible rfl)
 try simp only [Act.put, zA, zB, zC, zD, zE, zF]
 refine zT (i := 3) (v := ?_) rfl ?_ (fun _ _ _ h => h) ?_
 rotate_left
 ·(rintro w ⟨q0, _⟩; go_simp; try with_reducible rfl)
 try simp only [Act.put, zA, zB, zC, zD, zE, zF]
 refine zT (i := 4) (v := ?_) rfl ?_ (fun _ _ _ h => h) ?_
 rotate_left
 ·(rintro w ⟨q0, _⟩; go_simp; try with_reducible rfl)
 try simp only [Act.put, zA, zB, zC, zD, zE, zF]
 refine zY (i := 5) rfl fun K hK => ?_
 go_simp
 go_at_call 128
 refine (HSR.out _ Br.drew).mono ?_
 rintro e w2 ⟨r, rfl, ⟨_, hrN⟩, HB2, HQ2⟩
 obtain ⟨i, hi⟩ : ∃ i, low + r = i := ⟨_, rfl⟩
 have hln := HLN.out
 have hiI : (low : Int) + (r : Int) = (i : Int) := by omega
 have bi : (i : Int) ≤ 65536 := by omega
 have br : (r : Int) ≤ 65536 := by omega
 have hwi : IntKind.i64.wrap (i : Int) = (i : Int) := by rw [IntKind.wrap_i64]; omega
 have HRI : Hid ((low ≤ i ∧ i ≤ high) ∧ (i < high → P i = true) ∧ ∀ t, i = t + 1 → low ≤ t → P t = false) := zaa (by
  refine ⟨⟨by omega, by omega⟩, fun h => by rw [← hi]; exact HQ2.out.1 (by omega), fun t ht hlt => ?_⟩
  obtain ⟨d, rfl⟩ : ∃ d, t = low + d := ⟨t - low, by omega⟩
  exact HQ2.out.2 d (by omega))
 clear hi hln hrN
 dsimp only
 refine hK.out _ _ (HSF.out _ HB2.out) (fun hHeld => ?_)
 clear hK K
 try simp only [Act.put, zA, zB, zC, zD, zE, zF]
 refine zT (i := 6) (v := ?_) rfl ?_ (fun _ _ _ h => h) ?_
 rotate_left
 ·(rintro w ⟨q0, _⟩; go_simp; try with_reducible rfl)
 try simp only [Act.put, zA, zB, zC, zD, zE, zF]
 refine zT (i := 7) (v := ?_) rfl ?_ (fun _ _ _ h => h) ?_
 rotate_left
 ·(rintro w ⟨q0, _⟩; go_simp; try with_reducible rfl)
 try simp only [Act.put, zA, zB, zC, zD, zE, zF]
 refine wpAnyH_done (by kernel_rfl) ?_ _
 clear hHeld
 go_wp2
 go_ret
 exact ⟨i, rfl, zaa (zab HBX.out Lr HB2.out), HRI⟩
/-! The question 6. -/
theorem least1_6 (w : World) (o1 l1 low j i b1 : Nat) (B : Bool) (hA : Am w o1 l1 low (.func (.func 71) #[] #[.pointer (some ⟨b1, 0, none⟩)])) (hi : low + j = i) (hb : i ≤ 65536)
  (hF : Calls Tryz.prog 71 #[.int .i64 (i : Int), .pointer (some ⟨b1, 0, none⟩)] w fun e w' => e = .returned (.bool B) ∧ Hid (Below w.heap.size w w')) :
  Calls Tryz.prog 129 #[.int .i64 (j : Int), .pointer (some ⟨o1, 0, none⟩), .pointer (some ⟨l1, 0, none⟩)] w fun e w' => e = .returned (.bool B) ∧ Hid (Below w.heap.size w w') := by
 obtain ⟨c1, c2, h1, h2⟩ := hA
 have HF := zaa hF
 have hiI : (low : Int) + (j : Int) = (i : Int) := by omega
 have bi : (i : Int) ≤ 65536 := by omega
 have bj : (j : Int) ≤ 65536 := by omega
 have bl : (low : Int) ≤ 65536 := by omega
 clear hF hi
 go_enter Tryz.func129, Tryz.ntmps129
 go_wp2_with (go_at_call 71; refine HF.out.mono ?_; rintro e w2 ⟨rfl, HB2⟩)
 go_ret
 exact ⟨rfl, HB2⟩
theorem least_6 (w : World) (low high b1 : Nat) (P : Nat → Bool) (hlh : low ≤ high) (hhs : high ≤ 65536)
  (hF : ∀ u (i : Nat), Below w.heap.size w u → low ≤ i → i < high → Calls Tryz.prog 71 #[.int .i64 (i : Int), .pointer (some ⟨b1, 0, none⟩)] u fun e w' => e = .returned (.bool (P i)) ∧ Hid (Below u.heap.size u w')) :
  Calls Tryz.prog 67 #[.int .i64 (low : Int), .int .i64 (high : Int), .func (.func 71) #[] #[.pointer (some ⟨b1, 0, none⟩)]] w (zbr P low high w) := by
 obtain ⟨N, hN⟩ : ∃ N, high - low = N := ⟨_, rfl⟩
 have hNI : (high : Int) - (low : Int) = (N : Int) := by omega
 obtain ⟨s, hs⟩ : ∃ s, w.heap.size = s := ⟨_, rfl⟩
 obtain ⟨x, hx⟩ : ∃ x, (w.alloc (.cells #[.int .i64 (low : Int)] 3)).alloc (.cells #[.func (.func 71) #[] #[.pointer (some ⟨b1, 0, none⟩)]] 103) = x := ⟨_, rfl⟩
 have hbx : Below w.heap.size w x := by rw [← hx]; exact zac (zac Br Lr _) Lr _
 have hAm : Am x (s + 1) s low (.func (.func 71) #[] #[.pointer (some ⟨b1, 0, none⟩)]) := by
  rw [← hx, ← hs]
  exact ⟨by simp, by simp, by simp, by simp; omega⟩
 have HSR : Hid (∀ u, Below x.heap.size x u → Calls Tryz.prog 128 #[.int .i64 (N : Int), .func (.func 129) #[] #[.pointer (some ⟨s + 1, 0, none⟩), .pointer (some ⟨s, 0, none⟩)]] u fun e w' => ∃ r : Nat, e = .returned (.int .i64 (r : Int)) ∧ (w'.cell? ⟨s, 0, none⟩ = some (.int .i64 (low : Int)) ∧ r ≤ N) ∧ Hid (Below x.heap.size x w') ∧ Hid ((r < N → P (low + r) = true) ∧ ∀ t, r = t + 1 → P (low + t) = false)) := by
  refine zaa fun u hu => (search9_any u (s + 1) s N (fun j => P (low + j)) (by omega) (fun v j hv hj => least1_6 v (s + 1) s low j (low + j) b1 (P (low + j)) (hAm.go (zab hu Lr hv)) rfl (by omega) (hF v (low + j) (zab hbx Lr (zab hu Lr hv)) (by omega) (by omega)))).mono ?_
  rintro e w' ⟨r, rfl, HB, HQ⟩
  have hb := zab hu Lr HB.out
  exact ⟨r, rfl, ⟨(hAm.go hb).c2, HQ.out.1⟩, zaa hb, zaa HQ.out.2⟩
 have HBX := zaa hbx
 obtain ⟨y1, y2, _, _⟩ := hAm
 have bl : (low : Int) ≤ 65536 := by omega
 have bh : (high : Int) ≤ 65536 := by omega
 have bN : (N : Int) ≤ 65536 := by omega
 have HLN : Hid (low + N = high) := zaa (by omega)
 have hwN : IntKind.i64.wrap (N : Int) = (N : Int) := by rw [IntKind.wrap_i64]; omega
 have HSF : Hid (∀ u, Below x.heap.size x u → u.cell? ⟨s, 0, none⟩ = some (.int .i64 (low : Int)) ∧ True) := zaa fun u hu => ⟨(hu.cell (p := ⟨s, 0, none⟩) (by rw [← hx, ← hs]; simp; omega)).trans y2, trivial⟩
 unfold zbr
 clear hF hbx hlh y1 y2
 go_enter Tryz.func67, Tryz.ntmps67
 go_upto_region 1 with fail
 refine wp_region_held_drew (S := S1l s low) (by kernel_rfl) (HSF.out _ Br.drew) (fun hHeld => ?_)
 refine zT (i := 0) (v := ?_) rfl ?_ (fun _ _ _ h => h) ?_
 rotate_left
 ·(rintro w ⟨q0, _⟩; go_simp; try with_reducible rfl)
 try simp only [Act.put, zA, zC, zD, zE, zF]
 refine zT (i := 1) (v := ?_) rfl ?_ (fun _ _ _ h => h) ?_
 rotate_left
 ·(rintro w ⟨q0, _⟩; go_simp; try with_reducible rfl)
 try simp only [Act.put, zA, zB, zC, zD, zE, zF]
 refine zT (i := 2) (v := ?_) rfl ?_ (fun _ _ _ h => h) ?_
 rotate_left
 ·(rintro w ⟨q0, _⟩; go_simp; try with_reducible rfl)
 try simp only [Act.put, zA, zB, zC, zD, zE, zF]
 refine zT (i := 3) (v := ?_) rfl ?_ (fun _ _ _ h => h) ?_
 rotate_left
 ·(rintro w ⟨q0, _⟩; go_simp; try with_reducible rfl)
 try simp only [Act.put, zA, zB, zC, zD, zE, zF]
 refine zT (i := 4) (v := ?_) rfl ?_ (fun _ _ _ h => h) ?_
 rotate_left
 ·(rintro w ⟨q0, _⟩; go_simp; try with_reducible rfl)
 try simp only [Act.put, zA, zB, zC, zD, zE, zF]
 refine zY (i := 5) rfl fun K hK => ?_
 go_simp
 go_at_call 128
 refine (HSR.out _ Br.drew).mono ?_
 rintro e w2 ⟨r, rfl, ⟨_, hrN⟩, HB2, HQ2⟩
 obtain ⟨i, hi⟩ : ∃ i, low + r = i := ⟨_, rfl⟩
 have hln := HLN.out
 have hiI : (low : Int) + (r : Int) = (i : Int) := by omega
 have bi : (i : Int) ≤ 65536 := by omega
 have br : (r : Int) ≤ 65536 := by omega
 have hwi : IntKind.i64.wrap (i : Int) = (i : Int) := by rw [IntKind.wrap_i64]; omega
 have HRI : Hid ((low ≤ i ∧ i ≤ high) ∧ (i < high → P i = true) ∧ ∀ t, i = t + 1 → low ≤ t → P t = false) := zaa (by
  refine ⟨⟨by omega, by omega⟩, fun h => by rw [← hi]; exact HQ2.out.1 (by omega), fun t ht hlt => ?_⟩
  obtain ⟨d, rfl⟩ : ∃ d, t = low + d := ⟨t - low, by omega⟩
  exact HQ2.out.2 d (by omega))
 clear hi hln hrN
 dsimp only
 refine hK.out _ _ (HSF.out _ HB2.out) (fun hHeld => ?_)
 clear hK K
 try simp only [Act.put, zA, zB, zC, zD, zE, zF]
 refine zT (i := 6) (v := ?_) rfl ?_ (fun _ _ _ h => h) ?_
 rotate_left
 ·(rintro w ⟨q0, _⟩; go_simp; try with_reducible rfl)
 try simp only [Act.put, zA, zB, zC, zD, zE, zF]
 refine zT (i := 7) (v := ?_) rfl ?_ (fun _ _ _ h => h) ?_
 rotate_left
 ·(rintro w ⟨q0, _⟩; go_simp; try with_reducible rfl)
 try simp only [Act.put, zA, zB, zC, zD, zE, zF]
 refine wpAnyH_done (by kernel_rfl) ?_ _
 clear hHeld
 go_wp2
 go_ret
 exact ⟨i, rfl, zaa (zab HBX.out Lr HB2.out), HRI⟩
theorem cut_found {e k : Int} {n m : Nat} {cs : List Cl} {first fin : Nat} (hk : isKd k) (hn : pw n) (hg : Gd k n cs) (hl : cs.length = m) (hK : ∃ K, 2 ≤ K ∧ K + 2 ≤ m ∧ szE e k (cs.take K) ≤ n ∧ szE e k (rtL k cs K) ≤ n)
  (h1 : (2 ≤ first ∧ first ≤ m - 1) ∧ (first < m - 1 → fitB e k n (rtL k cs first) = true) ∧ ∀ t, first = t + 1 → 2 ≤ t → fitB e k n (rtL k cs t) = false)
  (h2 : first ≤ fin ∧ fin ≤ m - 1) (h2b : fin < m - 1 → (!fitB e k n (cs.take fin)) = true) (h2c : ∀ t, fin = t + 1 → first ≤ t → (!fitB e k n (cs.take t)) = false) :
  first < fin ∧ ∀ r, first ≤ r → r ≤ fin - 1 → (2 ≤ r ∧ r + 2 ≤ m) ∧ fitB e k n (cs.take r) = true ∧ fitB e k n (rtL k cs r) = true := by
 have hfr : ∀ i, fitB e k n (rtL k cs i) = decide (szE e k (rtL k cs i) ≤ n) := fun i => zdh hk hn (hg.rt i)
 have hfl : ∀ i, fitB e k n (cs.take i) = decide (szE e k (cs.take i) ≤ n) := fun i => zdh hk hn (hg.take i)
 obtain ⟨K, k1, k2, k3, k4⟩ := hK
 obtain ⟨⟨a1, a2⟩, a3, a4⟩ := h1
 have hfirst : first ≤ K := by
  rcases Nat.lt_or_ge K first with h | h
  ·exfalso
   obtain ⟨t, rfl⟩ : ∃ t, first = t + 1 := ⟨first - 1, by omega⟩
   have h3 := a4 t rfl (by omega)
   rw [hfr] at h3
   have h4 := szE_rts e k cs (show K ≤ t by omega)
   have h5 : ¬ szE e k (rtL k cs t) ≤ n := by simpa using h3
   omega
  ·exact h
 have hend : K < fin := by
  rcases Nat.lt_or_ge K fin with h | h
  ·exact h
  ·exfalso
   have h3 := h2b (by omega)
   rw [hfl] at h3
   have h4 := szE_takes e k cs h
   have h5 : ¬ szE e k (cs.take fin) ≤ n := by simpa using h3
   omega
 have h3 := a3 (by omega)
 rw [hfr] at h3
 have h3' : szE e k (rtL k cs first) ≤ n := by simpa using h3
 obtain ⟨t, rfl⟩ : ∃ t, fin = t + 1 := ⟨fin - 1, by omega⟩
 have h4 := h2c t rfl (by omega)
 rw [hfl] at h4
 have h4' : szE e k (cs.take t) ≤ n := by simpa using h4
 refine ⟨by omega, fun r r1 r2 => ⟨⟨by omega, by omega⟩, ?_, ?_⟩⟩
 ·rw [hfl]
  have := szE_takes e k cs (show r ≤ t by omega)
  exact decide_eq_true (by omega)
 ·rw [hfr]
  have := szE_rts e k cs r1
  exact decide_eq_true (by omega)
theorem zbs (w : World) (v : Value) (t : TypeId) : (w.alloc (.cells #[v] t)).cell? ⟨w.heap.size, 0, none⟩ = some v := by
 rw [cell_of_row _ _ _ _ _ _ (heap_alloc_last w _)]
 rfl
theorem zcp {w : World} {p : Nat} {v : Value} (o : Obj) (h : w.cell? ⟨p, 0, none⟩ = some v) (hp : p < w.heap.size) : (w.alloc o).cell? ⟨p, 0, none⟩ = some v :=
 ((zac Br Lr o : Below w.heap.size w (w.alloc o)).cell (p := ⟨p, 0, none⟩) hp).trans h
theorem half9_1 (w : World) (k : Int) (n b off m cap : Nat) (cs : List Cl) (hs : SlC w (some ⟨b, off, none⟩) m cap cs) (hkd : isKd k) (hn : pw n) (hg : Gd k n cs) (hm : m ≤ 65536) (hK : ∃ K, 2 ≤ K ∧ K + 2 ≤ m ∧ szE 1 k (cs.take K) ≤ n ∧ szE 1 k (rtL k cs K) ≤ n) (ht : Tab w) (h0 : 1 < w.heap.size) :
  Calls Tryz.prog 25 #[.int .i64 1, .int .i64 k, .slice (some ⟨b, off, none⟩) m cap, .int .i64 (n : Int)] w fun e w' => ∃ r : Nat, e = .returned (.tuple #[.int .i64 (r : Int), .int .i64 0]) ∧ Hid ((2 ≤ r ∧ r + 2 ≤ m) ∧ fitB 1 k n (cs.take r) = true ∧ fitB 1 k n (rtL k cs r) = true) ∧ Hid (Below w.heap.size w w') := by
 have HL := zaa (fun u => layout_1 u)
 have d1 : decide (isKd k) = true := decide_eq_true hkd
 have d2 : decide (pw (n : Int)) = true := decide_eq_true hn
 have HX := zaa (And.intro hs (And.intro hkd (And.intro hn (And.intro hg (And.intro hK (And.intro ht h0))))))
 have HM := zaa hm
 have HM4 : Hid (4 ≤ m) := zaa (by obtain ⟨K, k1, k2, _⟩ := hK; omega)
 have hmI : (m : Int) ≤ 65536 := by omega
 obtain ⟨s, hsz⟩ : ∃ s, w.heap.size = s := ⟨_, rfl⟩
 obtain ⟨x, hx⟩ : ∃ x, ((w.alloc (.cells #[.int .i64 k] 3)).alloc (.cells #[.slice (some ⟨b, off, none⟩) m cap] 32)).alloc (.cells #[.int .i64 (n : Int)] 3) = x := ⟨_, rfl⟩
 have hbx : Below w.heap.size w x := by rw [← hx]; exact zac (zac (zac Br Lr _) Lr _) Lr _
 have hX : (x.cell? ⟨s, 0, none⟩ = some (.int .i64 k) ∧ x.cell? ⟨s + 1, 0, none⟩ = some (.slice (some ⟨b, off, none⟩) m cap) ∧ x.cell? ⟨s + 1 + 1, 0, none⟩ = some (.int .i64 (n : Int))) ∧ x.heap.size = s + 3 := by
  rw [← hx, ← hsz]
  have e1 : (w.alloc (.cells #[.int .i64 k] 3)).heap.size = w.heap.size + 1 := by simp
  have e2 : ((w.alloc (.cells #[.int .i64 k] 3)).alloc (.cells #[.slice (some ⟨b, off, none⟩) m cap] 32)).heap.size = w.heap.size + 1 + 1 := by simp
  refine ⟨⟨zcp _ (zcp _ (zbs _ _ _) (by omega)) (by omega), ?_, ?_⟩, by simp⟩
  ·rw [← e1]
   exact zcp _ (zbs _ _ _) (by omega)
  ·rw [← e2]
   exact zbs _ _ _
 have HBX := zaa hbx
 have HXX := zaa hX
 obtain ⟨⟨x0, x1, x2⟩, _⟩ := hX
 clear hs hkd hn hg hK ht h0 hbx hm
 go_enter Tryz.func25, Tryz.ntmps25
 go_wp2_with (first
  | (go_at_call 38; refine (HL.out _).mono ?_; rintro e w1 ⟨rfl, HB1⟩; refine Hid.out ?_))
 apply zaa
 obtain ⟨s1, hs1⟩ : ∃ s1, w1.heap.size = s1 := ⟨_, rfl⟩
 have hb1 := HB1.out
 have hxs := HXX.out.2
 have y0 : w1.cell? ⟨s, 0, none⟩ = some (.int .i64 k) := (hb1.cell (p := ⟨s, 0, none⟩) (by show s < _; omega)).trans HXX.out.1.1
 have y1 : w1.cell? ⟨s + 1, 0, none⟩ = some (.slice (some ⟨b, off, none⟩) m cap) := (hb1.cell (p := ⟨s + 1, 0, none⟩) (by show s + 1 < _; omega)).trans HXX.out.1.2.1
 have y2 : w1.cell? ⟨s + 1 + 1, 0, none⟩ = some (.int .i64 (n : Int)) := (hb1.cell (p := ⟨s + 1 + 1, 0, none⟩) (by show s + 1 + 1 < _; omega)).trans HXX.out.1.2.2
 have hlt : s + 3 ≤ w1.heap.size := by have := hb1.size; omega
 obtain ⟨Z1, hZ1⟩ : ∃ Z1, w1.alloc (.cells #[fV 80, fV 81, fV 82, fV 83, fV 86] 81) = Z1 := ⟨_, rfl⟩
 have hbz1 : Below w1.heap.size w1 Z1 := by rw [← hZ1]; exact zac Br Lr _
 have hrow : Z1.heap[s1]? = some (.cells #[fV 80, fV 81, fV 82, fV 83, fV 86] 81 (0, 0)) := by rw [← hZ1, ← hs1]; exact heap_alloc_last w1 _
 have hsz1 : Z1.heap.size = s1 + 1 := by rw [← hZ1, ← hs1]; simp
 have z0 : Z1.cell? ⟨s, 0, none⟩ = some (.int .i64 k) := (hbz1.cell (p := ⟨s, 0, none⟩) (by show s < _; omega)).trans y0
 have z1 : Z1.cell? ⟨s + 1, 0, none⟩ = some (.slice (some ⟨b, off, none⟩) m cap) := (hbz1.cell (p := ⟨s + 1, 0, none⟩) (by show s + 1 < _; omega)).trans y1
 have z2 : Z1.cell? ⟨s + 1 + 1, 0, none⟩ = some (.int .i64 (n : Int)) := (hbz1.cell (p := ⟨s + 1 + 1, 0, none⟩) (by show s + 1 + 1 < _; omega)).trans y2
 have hl1 : s + 3 ≤ Z1.heap.size := by have := hbz1.size; omega
 obtain ⟨Z2, hZ2⟩ : ∃ Z2, Z1.alloc (.cells #[.func (.func 64) #[] #[.pointer (some ⟨s + 1, 0, none⟩)]] 104) = Z2 := ⟨_, rfl⟩
 obtain ⟨Z3, hZ3⟩ : ∃ Z3, Z2.alloc (.cells #[.func (.func 65) #[] #[.pointer (some ⟨s, 0, none⟩), .pointer (some ⟨s + 1, 0, none⟩)]] 104) = Z3 := ⟨_, rfl⟩
 have hl2 : Z2.heap.size = Z1.heap.size + 1 := by rw [← hZ2]; simp
 have hl3 : Z3.heap.size = Z2.heap.size + 1 := by rw [← hZ3]; simp
 have hb23 : Below Z1.heap.size Z1 Z3 := by rw [← hZ3, ← hZ2]; exact zac (zac Br Lr _) Lr _
 have v1 : Z3.cell? ⟨s + 1, 0, none⟩ = some (.slice (some ⟨b, off, none⟩) m cap) := (hb23.cell (p := ⟨s + 1, 0, none⟩) (by show s + 1 < _; omega)).trans z1
 have HBW : Hid (Below w.heap.size w Z3) := zaa (zab (zab (zab HBX.out Lr hb1) Lr hbz1) Lr hb23)
 have HBX3 : Hid (Bx Z3 k n b off m cap cs s (s + 1) (s + 1 + 1)) := zaa ⟨(hb23.cell (p := ⟨s, 0, none⟩) (by show s < _; omega)).trans z0, v1, (hb23.cell (p := ⟨s + 1 + 1, 0, none⟩) (by show s + 1 + 1 < _; omega)).trans z2, by omega, by omega, by omega, HX.out.1.on HBW.out, HM.out, HX.out.2.2.2.2.2.1.on HBW.out HX.out.2.2.2.2.2.2, zO HX.out.2.2.2.2.2.2 HBW.out.size⟩
 have hrw : ∀ j, Z3.cell? ⟨s1, j, none⟩ = Z1.cell? ⟨s1, j, none⟩ := fun j => hb23.cell (p := ⟨s1, j, none⟩) (by show s1 < _; omega)
 have HLY3 : Hid (Ly Z3 (fV 80) (fV 81) (fV 82) (fV 83) (fV 86) s (s + 1) s1 Z1.heap.size Z2.heap.size) := zaa ⟨by rw [hrw, cell_of_row _ _ _ _ _ _ hrow]; rfl, by rw [hrw, cell_of_row _ _ _ _ _ _ hrow]; rfl, by rw [hrw, cell_of_row _ _ _ _ _ _ hrow]; rfl, by rw [hrw, cell_of_row _ _ _ _ _ _ hrow]; rfl, by rw [hrw, cell_of_row _ _ _ _ _ _ hrow]; rfl, by rw [← hZ3]; refine zcp _ ?_ (by omega); rw [← hZ2]; exact zbs _ _ _, by rw [← hZ3]; exact zbs _ _ _, by omega, by omega, by omega⟩
 have HFT : Hid (∀ c ∈ cs, c.fit) := zaa fun c hc => (HX.out.2.2.2.1.may c hc).fit (by have := zak HX.out.2.2.1; omega)
 have hm1 : ((m - 1 : Nat) : Int) = (m : Int) - 2 + 1 := by have := HM4.out; omega
 have HQ1 : Hid (Calls Tryz.prog 67 #[.int .i64 2, .int .i64 ((m : Int) - 2 + 1), .func (.func 68) #[] #[.pointer (some ⟨s1, 0, none⟩), .pointer (some ⟨s, 0, none⟩), .pointer (some ⟨Z2.heap.size, 0, none⟩), .pointer (some ⟨s + 1 + 1, 0, none⟩)]] Z3 (zbr (fun i => fitB 1 k n (rtL k cs i)) 2 (m - 1) Z3)) := zaa (by
  have := least_3 Z3 2 (m - 1) s1 s Z2.heap.size (s + 1 + 1) (fun i => fitB 1 k n (rtL k cs i)) (by have := HM4.out; omega) (by have := HM.out; omega) (fun u i hu h1 h2 => half3_1 u k n b off m cap cs HFT.out s (s + 1) (s + 1 + 1) s1 Z1.heap.size Z2.heap.size (HBX3.out.go hu) (HLY3.out.go hu) i (by omega))
  rw [hm1] at this
  exact this)
 have HSZ := zaa (And.intro hl1 (And.intro hl2 hl3))
 clear x0 x1 x2 hxs hlt hb1 hbz1 hx y0 y1 y2 hl1 hl2 hl3 hb23 hrw hrow hsz1
 go_wp2_with (first
  | (go_at_call 63; refine zae (zbj _ _) ?_; rw [d1])
  | (go_at_call 62; refine zae (zbg _ _) ?_; rw [d2])
  | (go_at_call 67; refine HQ1.out.mono ?_; rintro e w2 ⟨first, rfl, HB2, HP1⟩; refine Hid.out ?_))
 apply zaa
 clear HQ1 z0 z1 z2 v1 hZ1 hZ2 hZ3 d1 d2
 have hfirst : 2 ≤ first ∧ first ≤ m - 1 := HP1.out.1
 have hfI : (first : Int) ≤ 65536 := by have := HM.out; omega
 have HQ2 : Hid (Calls Tryz.prog 67 #[.int .i64 (first : Int), .int .i64 ((m : Int) - 2 + 1), .func (.func 69) #[] #[.pointer (some ⟨s1, 0, none⟩), .pointer (some ⟨s, 0, none⟩), .pointer (some ⟨Z1.heap.size, 0, none⟩), .pointer (some ⟨s + 1 + 1, 0, none⟩)]] w2 (zbr (fun i => !fitB 1 k n (cs.take i)) first (m - 1) w2)) := zaa (by
  have := least_4 w2 first (m - 1) s1 s Z1.heap.size (s + 1 + 1) (fun i => !fitB 1 k n (cs.take i)) hfirst.2 (by have := HM.out; omega) (fun u i hu h1 h2 => half4_1 u k n b off m cap cs HFT.out s (s + 1) (s + 1 + 1) s1 Z1.heap.size Z2.heap.size (HBX3.out.go (zab HB2.out Lr hu)) (HLY3.out.go (zab HB2.out Lr hu)) i (by omega))
  rw [hm1] at this
  exact this)
 clear hfirst
 go_wp2_with (first
  | (go_at_call 67; refine HQ2.out.mono ?_; rintro e w3 ⟨fin, rfl, HB3, HP2⟩; refine Hid.out ?_))
 apply zaa
 clear HQ2
 have hcf := cut_found (e := 1) HX.out.2.1 HX.out.2.2.1 HX.out.2.2.2.1 HX.out.1.hlen HX.out.2.2.2.2.1 HP1.out HP2.out.1 HP2.out.2.1 HP2.out.2.2
 have HCF := zaa hcf.2
 have hff : first < fin := hcf.1
 have hfin : fin ≤ m - 1 := HP2.out.1.2
 obtain ⟨f1, hf1⟩ : ∃ f1, fin - 1 = f1 := ⟨_, rfl⟩
 have hge : ¬ (fin : Int) ≤ (first : Int) := by omega
 have hfin1 : (fin : Int) - 1 = (f1 : Int) := by omega
 have hfnI : (fin : Int) ≤ 65536 := by have := HM.out; omega
 have hf1I : (f1 : Int) ≤ 65536 := by omega
 have HFF : Hid (first ≤ f1 ∧ f1 + 2 ≤ m ∧ f1 = fin - 1) := zaa (by omega)
 obtain ⟨Z4, hZ4⟩ : ∃ Z4, w3.alloc (.cells #[.func (.func 70) #[] #[.pointer (some ⟨s1, 0, none⟩), .pointer (some ⟨s, 0, none⟩), .pointer (some ⟨Z1.heap.size, 0, none⟩), .pointer (some ⟨Z2.heap.size, 0, none⟩)]] 64) = Z4 := ⟨_, rfl⟩
 obtain ⟨sg, hsg⟩ : ∃ sg, w3.heap.size = sg := ⟨_, rfl⟩
 have hcg : Z4.cell? ⟨sg, 0, none⟩ = some (.func (.func 70) #[] #[.pointer (some ⟨s1, 0, none⟩), .pointer (some ⟨s, 0, none⟩), .pointer (some ⟨Z1.heap.size, 0, none⟩), .pointer (some ⟨Z2.heap.size, 0, none⟩)]) := by rw [← hZ4, ← hsg]; exact zbs _ _ _
 have HB4 : Hid (Below Z3.heap.size Z3 Z4) := zaa (zab (zab HB2.out Lr HB3.out) Lr (by rw [← hZ4]; exact zac Br Lr _))
 have hg4 : sg < Z4.heap.size := by rw [← hZ4, ← hsg]; simp
 obtain ⟨G, hG⟩ : ∃ G : Nat → Nat, G = fun i => max (szE 1 k (cs.take i)) (szE 1 k (rtL k cs i)) := ⟨_, rfl⟩
 have hbig := zbq (e := 1) (k := k) HFT.out (by rw [HX.out.1.hlen]; exact HM.out)
 have HGB : Hid (∀ t, t ≤ 65536 → G t ≤ 1099511627776) := zaa fun t _ => by
  rw [hG]
  exact Nat.max_le.2 ⟨zN (zbm 1 k cs t) hbig, zN (zbn 1 k cs t) hbig⟩
 have HQ3 : Hid (Calls Tryz.prog 67 #[.int .i64 (first : Int), .int .i64 (f1 : Int), .func (.func 71) #[] #[.pointer (some ⟨sg, 0, none⟩)]] Z4 (zbr (fun i => decide (G i ≤ G (i + 1))) first f1 Z4)) := zaa (by
  refine least_6 Z4 first f1 sg (fun i => decide (G i ≤ G (i + 1))) HFF.out.1 (by omega) (fun u i hu h1 h2 => ?_)
  refine half6_any u sg G s1 s Z1.heap.size Z2.heap.size i (i + 1) rfl (by omega) HGB.out ((hu.cell (p := ⟨sg, 0, none⟩) hg4).trans hcg) (zO hg4 hu.size) (fun v t hv ht => ?_)
  rw [hG]
  exact half5_1 v k n b off m cap cs HFT.out s (s + 1) (s + 1 + 1) s1 Z1.heap.size Z2.heap.size (HBX3.out.go (zab HB4.out Lr (zab hu Lr hv))) (HLY3.out.go (zab HB4.out Lr (zab hu Lr hv))) t (by have := HFF.out; omega))
 clear hcf hff hfin hf1 hcg hg4 hbig
 go_wp2_with (first
  | (go_at_call 67; refine HQ3.out.mono ?_; rintro e w4 ⟨r, rfl, HB5, HP3⟩; refine Hid.out ?_))
 apply zaa
 clear HQ3
 have hrI : (r : Int) ≤ 65536 := by have := HP3.out.1; have := HFF.out; have := HM.out; omega
 go_wp2
 go_ret2
 have hr := HCF.out r HP3.out.1.1 (by have := HP3.out.1.2; have := HFF.out; omega)
 exact ⟨r, rfl, zaa hr, zaa (zab (zab HBW.out Lr HB4.out) Lr HB5.out)⟩
theorem take_at1 {α : Type} {l : List α} {n j : Nat} {u : α} (h : (l.take n)[j]? = some u) : l[j]? = some u := by
 rw [List.getElem?_take] at h
 split at h
 ·exact h
 ·exact absurd h (by simp)
theorem halves9_1 (w : World) (k : Int) (n g N : Nat) (cs : List Cl) (hs : SlC w (some ⟨g, 0, none⟩) N N cs) (hN : N ≤ 65535) (kd : Int) (i : Nat) (c : Cl) (ka : Option Addr) (kc : Nat) (va : Option Addr) (vc : Nat) (qa : Option Addr) (qn qc : Nat) (hk : Sl w ka c.key.length kc c.key) (hv : Sl w va c.val.length vc c.val)
  (hkd : isKd k) (hn : pw n) (hi : i ≤ cs.length) (hg : Gd k n (cs.take i ++ [c] ++ cs.drop i)) (hf : szE 1 k cs ≤ n) (hno : n < szE 1 k (cs.take i ++ [c] ++ cs.drop i)) (ht : Tab w) (h0 : 1 < w.heap.size) :
  Calls Tryz.prog 35 #[.int .i64 1, .int .i64 k, .int .i64 (n : Int), .slice (some ⟨g, 0, none⟩) N N, opV kd (i : Int) c ka kc va vc qa qn qc] w fun e w' => e = .returned (.bool true) ∧ Hid (Below w.heap.size w w') := by
 have hlen := hs.hlen
 obtain ⟨us, hr, hc⟩ : ∃ us, Row5 w us cs ∧ ∀ j u, us[j]? = some u → w.cell? ⟨g, j, none⟩ = some u := by
  rcases hs.srk.hat with h1 | ⟨b', off', us, e, hb, h1, h2⟩
  ·have : cs = [] := List.eq_nil_of_length_eq_zero (by omega)
   subst this
   exact ⟨[], rfl, fun j u hu => by simp at hu⟩
  ·injection e with e
   injection e with e1 e2
   subst e1 e2
   exact ⟨us, h1, fun j u hu => by simpa using h2 j u hu⟩
 have hgl : N = 0 ∨ g < w.heap.size := by
  rcases hs.hat with h1 | ⟨b', off', e, hb, _⟩
  ·exact .inl h1
  ·injection e with e
   injection e with e1 e2
   subst e1
   exact .inr hb
 have HRT := zaa (hr.take i)
 have HRD := zaa (hr.drop i)
 have HUL := zaa hr.len
 obtain ⟨s, hsz⟩ : ∃ s, w.heap.size = s := ⟨_, rfl⟩
 obtain ⟨y, hy⟩ : ∃ y, w.alloc (.cells #[.int .i64 kd, .int .i64 (i : Int), .slice ka c.key.length kc, .int .i64 c.kd, .slice va c.val.length vc, .int .i64 c.pg, .int .i64 c.ct, .slice qa qn qc] 45) = y := ⟨_, rfl⟩
 have hby : Below w.heap.size w y := by rw [← hy]; exact zac Br Lr _
 have HO8 : Hid (B8 45 y s (.int .i64 kd) (.int .i64 (i : Int)) (.slice ka c.key.length kc) (.int .i64 c.kd) (.slice va c.val.length vc) (.int .i64 c.pg) (.int .i64 c.ct) (.slice qa qn qc)) := by rw [← hy, ← hsz]; exact zaa (heap_alloc_last w _)
 have HCY : Hid (∀ v, Below w.heap.size w v → ∀ j u, us[j]? = some u → v.cell? ⟨g, j, none⟩ = some u) := zaa fun v hv j u hu => by
  rcases hgl with h1 | h1
  ·exfalso
   have h2 := hr.len
   rw [hlen, h1] at h2
   have h3 := (zH.1 hu).1
   omega
  ·exact (hv.cell (p := ⟨g, j, none⟩) h1).trans (hc j u hu)
 have HRC : Hid (Row5 w [.slice ka c.key.length kc, .int .i64 c.kd, .slice va c.val.length vc, .int .i64 c.pg, .int .i64 c.ct] [c]) := zaa ⟨ka, kc, va, vc, [], rfl, hk, hv, rfl⟩
 have HX := zaa (And.intro hkd (And.intro hn (And.intro hg (And.intro hf (And.intro hno (And.intro ht h0))))))
 have HBY := zaa hby
 have HLN := zaa hlen
 have HSZ := zaa hsz
 have hiN : i ≤ N := by omega
 have hiI : (i : Int) ≤ (N : Int) := by omega
 have hi0 : ¬ (i : Int) < 0 := by omega
 have hiN' : ¬ (N : Int) < (i : Int) := by omega
 have hNI : (N : Int) ≤ 65535 := by omega
 have hib : (i : Int) ≤ 65535 := by omega
 obtain ⟨o0, o1, o2, o3, o4, o5, o6, o7⟩ := HO8.out.cells
 clear hs hk hv hkd hn hg hf hno ht h0 hr hc hgl hby hlen hi
 obtain ⟨L, hL⟩ : ∃ L, cs.take i ++ [c] ++ cs.drop i = L := ⟨_, rfl⟩
 obtain ⟨M, hM⟩ : ∃ M, N + 1 = M := ⟨_, rfl⟩
 have HLL : Hid (L.length = M) := zaa (by rw [← hL]; have := HLN.out; simp; omega)
 have HLE := zaa hL
 rw [hL] at HX
 have HMB : Hid (M ≤ 65536) := zaa (by omega)
 have HCUT : Hid (∃ K, 2 ≤ K ∧ K + 2 ≤ M ∧ szE 1 k (L.take K) ≤ n ∧ szE 1 k (rtL k L K) ≤ n) := zaa (by
  have := cut_is (e := 1) (c := c) (i := i) HX.out.2.1 (by have := HLN.out; omega) (by rw [hL]; exact HX.out.2.2.1) HX.out.2.2.2.1 (by rw [hL]; exact HX.out.2.2.2.2.1)
  rw [hL, HLN.out, hM] at this
  exact this)
 clear hL hM
 by_cases hlt : i < N
 ·have hltI : (i : Int) < (N : Int) := by omega
  have hne : ¬ N = i := by omega
  go_enter Tryz.func35, Tryz.ntmps35
  go_wp2_with (first
   | (at_builtin; go_loud (refine app_ks w _ y.heap.size rfl _ _ rfl [] (cs.take i) _ g 0 i N (us.take (i * 5)) rfl rfl (OwK.nil _ _ _) (by rw [zJ, HLN.out]; omega) HRT.out (fun j u hu => by rw [Nat.zero_add]; exact HCY.out _ HBY.out j u (take_at1 hu)) (by simp; omega) Lr ?_; intro v1 u1 HO1 HBU1; refine Hid.out ?_)))
  apply zaa
  rw [List.nil_append] at HO1
  obtain ⟨z0, z1, z2, z3, z4, z5, z6, z7⟩ := (show B8 45 u1 s _ _ _ _ _ _ _ _ from zaf HO8.out HBU1.out).cells
  obtain ⟨x, hx⟩ : ∃ x, u1.alloc (.cells #[.slice ka c.key.length kc, .int .i64 c.kd, .slice va c.val.length vc, .int .i64 c.pg, .int .i64 c.ct] 43) = x := ⟨_, rfl⟩
  have hbx : Below u1.heap.size u1 x := by rw [← hx]; exact zac Br Lr _
  have HOX := zaa (HO1.out.go hbx)
  have HBX : Hid (Below y.heap.size y x) := zaa (zab HBU1.out Lr hbx)
  have HXY := zaa (five_at hx)
  have HTL : Hid ((cs.take i).length = i) := zaa (by rw [zJ, HLN.out]; omega)
  clear hbx HO1 HBU1 o0 o1 o2 o3 o4 o5 o6 o7
  go_wp2_with (at_builtin; go_loud (refine app_k w _ y.heap.size rfl _ _ rfl (cs.take i) c v1 u1.heap.size _ rfl rfl HOX.out HRC.out HXY.out (by rw [HTL.out]; omega) HBX.out.size ?_; intro v2 u2 HO2 HBU2; refine Hid.out ?_))
  apply zaa
  have HB2 : Hid (Below y.heap.size y u2) := zaa (HBX.out.trans HBU2.out)
  clear HOX HBX HXY hx z0 z1 z2 z3 z4 z5 z6 z7 HBU2
  obtain ⟨z0, z1, z2, z3, z4, z5, z6, z7⟩ := (show B8 45 u2 s _ _ _ _ _ _ _ _ from zaf HO8.out HB2.out).cells
  go_wp2_with (at_builtin; go_loud (refine app_ks w _ y.heap.size rfl _ _ rfl (cs.take i ++ [c]) (cs.drop i) v2 g (i * 5) (N - i) (N - i) (us.drop (i * 5)) rfl (by first | rfl | (simp; done)) HO2.out (by rw [zK, HLN.out]) HRD.out (fun j u hu => by rw [List.getElem?_drop] at hu; exact HCY.out _ (zab HBY.out Lr HB2.out) _ u hu) (by simp; omega) HB2.out.size ?_; intro v3 u3 HO3 HBU3; refine Hid.out ?_))
  apply zaa
  have HB3 : Hid (Below y.heap.size y u3) := zaa (HB2.out.trans HBU3.out)
  have HBW3 : Hid (Below w.heap.size w u3) := zaa (zab HBY.out Lr HB3.out)
  clear z0 z1 z2 z3 z4 z5 z6 z7 HBU3 HO2 HB2
  rw [HLE.out] at HO3
  obtain ⟨gl, cap2, rfl, hsl⟩ : ∃ gl cap2, v3 = .slice (some ⟨gl, 0, none⟩) M cap2 ∧ SlC u3 (some ⟨gl, 0, none⟩) M cap2 L := by
   obtain ⟨ao, cap2, e, h1, h2⟩ := HO3.out.src
   obtain ⟨gl, rfl⟩ := h2 (by rw [HLL.out]; have := HCUT.out; omega)
   rw [HLL.out] at e h1
   exact ⟨gl, cap2, e, h1.slc HBW3.out (by have := HMB.out; omega)⟩
  have HSL := zaa hsl
  have hcapI : M ≤ cap2 := hsl.hcap
  have HT3 : Hid (Tab u3 ∧ 1 < u3.heap.size) := zaa ⟨HX.out.2.2.2.2.2.1.on HBW3.out HX.out.2.2.2.2.2.2, zO HX.out.2.2.2.2.2.2 HBW3.out.size⟩
  have HHF := zaa (half9_1 u3 k n gl 0 M cap2 L hsl HX.out.1 HX.out.2.1 HX.out.2.2.1 HMB.out HCUT.out HT3.out.1 HT3.out.2)
  have hMI : (M : Int) ≤ 65536 := by have := HMB.out; omega
  clear hsl HO3 hcapI
  go_wp2_with (go_at_call 25; go_loud (refine HHF.out.mono ?_; rintro e u4 ⟨r, rfl, HR, HB4⟩; refine Hid.out ?_))
  apply zaa
  clear HHF
  have hr1 : ¬ (r : Int) < 2 := by have := HR.out.1; omega
  have hr2 : ¬ (M : Int) < (r : Int) + 2 := by have := HR.out.1; omega
  have hr3 : (r : Int) ≤ 65536 := by have := HR.out.1; omega
  have hr4 : r ≤ cap2 := by have := HR.out.1; have := HSL.out.hcap; omega
  have hr5 : (r : Int) ≤ (cap2 : Int) := by omega
  have HFT : Hid (∀ d ∈ L, d.fit) := zaa fun d hd => (HX.out.2.2.1.may d hd).fit (by have := zak HX.out.2.1; omega)
  have HBIG : Hid (szE 1 k L ≤ 1099511627776) := zaa (zbq HFT.out (by rw [HLL.out]; exact HMB.out))
  have HT4 : Hid (∀ v, Below u4.heap.size u4 v → Tab v ∧ 1 < v.heap.size) := zaa fun v hv => by
   have hb := zab HB4.out Lr hv
   exact ⟨HT3.out.1.on hb HT3.out.2, zO HT3.out.2 hb.size⟩
  have HS4 := zaa (HSL.out.on HB4.out)
  have HF1 : Hid (Calls Tryz.prog 23 #[.int .i64 1, .int .i64 k, .slice (some ⟨gl, 0, none⟩) r cap2, .int .i64 (n : Int)] u4 fun e w' => e = .returned (.bool true) ∧ Hid (Below u4.heap.size u4 w')) := zaa (by
   have := nfits_1 u4 k n _ _ _ _ (HS4.out.take9 (i := r) (by have := HR.out.1; omega)) (zN (zbm 1 k L r) HBIG.out) (HT4.out u4 Br).1 (HT4.out u4 Br).2
   rw [HR.out.2.1] at this
   exact this)
  go_wp2_with (go_at_call 23; go_loud (refine HF1.out.mono ?_; rintro e u5 ⟨rfl, HB5⟩; refine Hid.out ?_))
  apply zaa
  clear HF1 hr1 hr2
  have HRG := zaa (right9_any u5 k gl 0 M cap2 r L (HS4.out.on HB5.out) HMB.out (by have := HR.out.1; omega))
  go_wp2_with (go_at_call 76; go_loud (refine HRG.out.mono ?_; rintro e u6 ⟨v6, rfl, HO6, HB6⟩; refine Hid.out ?_))
  apply zaa
  clear HRG
  obtain ⟨ao6, m6, cap6, rfl, hs6⟩ : ∃ ao6 m6 cap6, v6 = .slice ao6 m6 cap6 ∧ SlC u6 ao6 m6 cap6 (rtL k L r) := by
   obtain ⟨ao, cap6, e, h1, _⟩ := HO6.out.src
   exact ⟨ao, _, cap6, e, h1.slc HB6.out (by rw [zdg]; have := HMB.out; have := HLL.out; omega)⟩
  have HF2 : Hid (Calls Tryz.prog 23 #[.int .i64 1, .int .i64 k, .slice ao6 m6 cap6, .int .i64 (n : Int)] u6 fun e w' => e = .returned (.bool true) ∧ Hid (Below u6.heap.size u6 w')) := zaa (by
   have hb := zab HB5.out Lr HB6.out
   have := nfits_1 u6 k n _ _ _ _ hs6 (zN (zbn 1 k L r) HBIG.out) (HT4.out u6 hb).1 (HT4.out u6 hb).2
   rw [HR.out.2.2] at this
   exact this)
  clear hs6 HO6
  go_wp2_with (go_at_call 23; go_loud (refine HF2.out.mono ?_; rintro e u7 ⟨rfl, HB7⟩; refine Hid.out ?_))
  apply zaa
  clear HF2
  have HB47 : Hid (Below u4.heap.size u4 u7) := zaa (zab (zab HB5.out Lr HB6.out) Lr HB7.out)
  have HF3 : Hid (Calls Tryz.prog 23 #[.int .i64 1, .int .i64 k, .slice (some ⟨gl, 0, none⟩) M cap2, .int .i64 (n : Int)] u7 fun e w' => e = .returned (.bool false) ∧ Hid (Below u7.heap.size u7 w')) := zaa (by
   have := nfits_1 u7 k n _ _ _ _ (HS4.out.on HB47.out) HBIG.out (HT4.out u7 HB47.out).1 (HT4.out u7 HB47.out).2
   rw [zdh HX.out.1 HX.out.2.1 HX.out.2.2.1, decide_eq_false (by have := HX.out.2.2.2.2.1; omega)] at this
   exact this)
  go_wp2_with (go_at_call 23; go_loud (refine HF3.out.mono ?_; rintro e u8 ⟨rfl, HB8⟩; refine Hid.out ?_))
  apply zaa
  clear HF3
  go_wp2
  go_ret
  exact ⟨rfl, zaa (zab (zab (zab HBW3.out Lr HB4.out) Lr HB47.out) Lr HB8.out)⟩
 ·have heq : i = N := by omega
  have HRD0 : Hid (Row5 w [] (cs.drop i)) := zaa (by rw [List.drop_eq_nil_of_le (by have := HLN.out; omega)]; rfl)
  subst heq
  go_enter Tryz.func35, Tryz.ntmps35
  go_wp2_with (first
   | (at_builtin; go_loud (refine app_ks w _ y.heap.size rfl _ _ rfl [] (cs.take i) _ g 0 i i (us.take (i * 5)) rfl rfl (OwK.nil _ _ _) (by rw [zJ, HLN.out]; omega) HRT.out (fun j u hu => by rw [Nat.zero_add]; exact HCY.out _ HBY.out j u (take_at1 hu)) (by simp; omega) Lr ?_; intro v1 u1 HO1 HBU1; refine Hid.out ?_)))
  apply zaa
  rw [List.nil_append] at HO1
  obtain ⟨z0, z1, z2, z3, z4, z5, z6, z7⟩ := (show B8 45 u1 s _ _ _ _ _ _ _ _ from zaf HO8.out HBU1.out).cells
  obtain ⟨x, hx⟩ : ∃ x, u1.alloc (.cells #[.slice ka c.key.length kc, .int .i64 c.kd, .slice va c.val.length vc, .int .i64 c.pg, .int .i64 c.ct] 43) = x := ⟨_, rfl⟩
  have hbx : Below u1.heap.size u1 x := by rw [← hx]; exact zac Br Lr _
  have HOX := zaa (HO1.out.go hbx)
  have HBX : Hid (Below y.heap.size y x) := zaa (zab HBU1.out Lr hbx)
  have HXY := zaa (five_at hx)
  have HTL : Hid ((cs.take i).length = i) := zaa (by rw [zJ, HLN.out]; omega)
  clear hbx HO1 HBU1 o0 o1 o2 o3 o4 o5 o6 o7
  go_wp2_with (at_builtin; go_loud (refine app_k w _ y.heap.size rfl _ _ rfl (cs.take i) c v1 u1.heap.size _ rfl rfl HOX.out HRC.out HXY.out (by rw [HTL.out]; omega) HBX.out.size ?_; intro v2 u2 HO2 HBU2; refine Hid.out ?_))
  apply zaa
  have HB2 : Hid (Below y.heap.size y u2) := zaa (HBX.out.trans HBU2.out)
  clear HOX HBX HXY hx z0 z1 z2 z3 z4 z5 z6 z7 HBU2
  obtain ⟨z0, z1, z2, z3, z4, z5, z6, z7⟩ := (show B8 45 u2 s _ _ _ _ _ _ _ _ from zaf HO8.out HB2.out).cells
  go_wp2_with (at_builtin; go_loud (refine app_ks w _ y.heap.size rfl _ _ rfl (cs.take i ++ [c]) (cs.drop i) v2 g 0 0 0 [] rfl (by first | rfl | (simp; done)) HO2.out (by rw [zK, HLN.out]; omega) HRD0.out (fun j u hu => by simp at hu) (by simp; omega) HB2.out.size ?_; intro v3 u3 HO3 HBU3; refine Hid.out ?_))
  apply zaa
  have HB3 : Hid (Below y.heap.size y u3) := zaa (HB2.out.trans HBU3.out)
  have HBW3 : Hid (Below w.heap.size w u3) := zaa (zab HBY.out Lr HB3.out)
  clear z0 z1 z2 z3 z4 z5 z6 z7 HBU3 HO2 HB2
  rw [HLE.out] at HO3
  obtain ⟨gl, cap2, rfl, hsl⟩ : ∃ gl cap2, v3 = .slice (some ⟨gl, 0, none⟩) M cap2 ∧ SlC u3 (some ⟨gl, 0, none⟩) M cap2 L := by
   obtain ⟨ao, cap2, e, h1, h2⟩ := HO3.out.src
   obtain ⟨gl, rfl⟩ := h2 (by rw [HLL.out]; have := HCUT.out; omega)
   rw [HLL.out] at e h1
   exact ⟨gl, cap2, e, h1.slc HBW3.out (by have := HMB.out; omega)⟩
  have HSL := zaa hsl
  have hcapI : M ≤ cap2 := hsl.hcap
  have HT3 : Hid (Tab u3 ∧ 1 < u3.heap.size) := zaa ⟨HX.out.2.2.2.2.2.1.on HBW3.out HX.out.2.2.2.2.2.2, zO HX.out.2.2.2.2.2.2 HBW3.out.size⟩
  have HHF := zaa (half9_1 u3 k n gl 0 M cap2 L hsl HX.out.1 HX.out.2.1 HX.out.2.2.1 HMB.out HCUT.out HT3.out.1 HT3.out.2)
  have hMI : (M : Int) ≤ 65536 := by have := HMB.out; omega
  clear hsl HO3 hcapI
  go_wp2_with (go_at_call 25; go_loud (refine HHF.out.mono ?_; rintro e u4 ⟨r, rfl, HR, HB4⟩; refine Hid.out ?_))
  apply zaa
  clear HHF
  have hr1 : ¬ (r : Int) < 2 := by have := HR.out.1; omega
  have hr2 : ¬ (M : Int) < (r : Int) + 2 := by have := HR.out.1; omega
  have hr3 : (r : Int) ≤ 65536 := by have := HR.out.1; omega
  have hr4 : r ≤ cap2 := by have := HR.out.1; have := HSL.out.hcap; omega
  have hr5 : (r : Int) ≤ (cap2 : Int) := by omega
  have HFT : Hid (∀ d ∈ L, d.fit) := zaa fun d hd => (HX.out.2.2.1.may d hd).fit (by have := zak HX.out.2.1; omega)
  have HBIG : Hid (szE 1 k L ≤ 1099511627776) := zaa (zbq HFT.out (by rw [HLL.out]; exact HMB.out))
  have HT4 : Hid (∀ v, Below u4.heap.size u4 v → Tab v ∧ 1 < v.heap.size) := zaa fun v hv => by
   have hb := zab HB4.out Lr hv
   exact ⟨HT3.out.1.on hb HT3.out.2, zO HT3.out.2 hb.size⟩
  have HS4 := zaa (HSL.out.on HB4.out)
  have HF1 : Hid (Calls Tryz.prog 23 #[.int .i64 1, .int .i64 k, .slice (some ⟨gl, 0, none⟩) r cap2, .int .i64 (n : Int)] u4 fun e w' => e = .returned (.bool true) ∧ Hid (Below u4.heap.size u4 w')) := zaa (by
   have := nfits_1 u4 k n _ _ _ _ (HS4.out.take9 (i := r) (by have := HR.out.1; omega)) (zN (zbm 1 k L r) HBIG.out) (HT4.out u4 Br).1 (HT4.out u4 Br).2
   rw [HR.out.2.1] at this
   exact this)
  go_wp2_with (go_at_call 23; go_loud (refine HF1.out.mono ?_; rintro e u5 ⟨rfl, HB5⟩; refine Hid.out ?_))
  apply zaa
  clear HF1 hr1 hr2
  have HRG := zaa (right9_any u5 k gl 0 M cap2 r L (HS4.out.on HB5.out) HMB.out (by have := HR.out.1; omega))
  go_wp2_with (go_at_call 76; go_loud (refine HRG.out.mono ?_; rintro e u6 ⟨v6, rfl, HO6, HB6⟩; refine Hid.out ?_))
  apply zaa
  clear HRG
  obtain ⟨ao6, m6, cap6, rfl, hs6⟩ : ∃ ao6 m6 cap6, v6 = .slice ao6 m6 cap6 ∧ SlC u6 ao6 m6 cap6 (rtL k L r) := by
   obtain ⟨ao, cap6, e, h1, _⟩ := HO6.out.src
   exact ⟨ao, _, cap6, e, h1.slc HB6.out (by rw [zdg]; have := HMB.out; have := HLL.out; omega)⟩
  have HF2 : Hid (Calls Tryz.prog 23 #[.int .i64 1, .int .i64 k, .slice ao6 m6 cap6, .int .i64 (n : Int)] u6 fun e w' => e = .returned (.bool true) ∧ Hid (Below u6.heap.size u6 w')) := zaa (by
   have hb := zab HB5.out Lr HB6.out
   have := nfits_1 u6 k n _ _ _ _ hs6 (zN (zbn 1 k L r) HBIG.out) (HT4.out u6 hb).1 (HT4.out u6 hb).2
   rw [HR.out.2.2] at this
   exact this)
  clear hs6 HO6
  go_wp2_with (go_at_call 23; go_loud (refine HF2.out.mono ?_; rintro e u7 ⟨rfl, HB7⟩; refine Hid.out ?_))
  apply zaa
  clear HF2
  have HB47 : Hid (Below u4.heap.size u4 u7) := zaa (zab (zab HB5.out Lr HB6.out) Lr HB7.out)
  have HF3 : Hid (Calls Tryz.prog 23 #[.int .i64 1, .int .i64 k, .slice (some ⟨gl, 0, none⟩) M cap2, .int .i64 (n : Int)] u7 fun e w' => e = .returned (.bool false) ∧ Hid (Below u7.heap.size u7 w')) := zaa (by
   have := nfits_1 u7 k n _ _ _ _ (HS4.out.on HB47.out) HBIG.out (HT4.out u7 HB47.out).1 (HT4.out u7 HB47.out).2
   rw [zdh HX.out.1 HX.out.2.1 HX.out.2.2.1, decide_eq_false (by have := HX.out.2.2.2.2.1; omega)] at this
   exact this)
  go_wp2_with (go_at_call 23; go_loud (refine HF3.out.mono ?_; rintro e u8 ⟨rfl, HB8⟩; refine Hid.out ?_))
  apply zaa
  clear HF3
  go_wp2
  go_ret
  exact ⟨rfl, zaa (zab (zab (zab HBW3.out Lr HB4.out) Lr HB47.out) Lr HB8.out)⟩
end Go.Proofs.YtofafbmpbkjhnaaGreatDoor
