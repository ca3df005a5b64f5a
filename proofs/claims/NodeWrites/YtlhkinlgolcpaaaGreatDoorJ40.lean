import Derived.Test.YtlhkinlgolcpaaaGreatDoorJ27
import Derived.Test.YtlhkinlgolcpaaaGreatDoorJ39
namespace Go.Proofs.YtlhkinlgolcpaaaGreatDoor
set_option maxRecDepth 100000
open Go.RowKit
def HalfR (e k p : Int) (cs : List Cl) (r : Nat) (c : Int) : Prop :=
 if e = 1 ∨ e = 2 then (if isKd k ∧ pw p then IsHalf e k p.toNat cs r c else r = 0 ∧ c = 1) else r = 0 ∧ c = 80
theorem HalfR.det {e k p : Int} {cs : List Cl} {r s : Nat} {c d : Int} (h1 : HalfR e k p cs r c) (h2 : HalfR e k p cs s d) : r = s ∧ c = d := by
 unfold HalfR at *
 by_cases he : e = 1 ∨ e = 2
 ·rw [if_pos he] at h1 h2
  by_cases hk : isKd k ∧ pw p
  ·rw [if_pos hk] at h1 h2
   exact h1.det h2
  ·rw [if_neg hk] at h1 h2
   exact ⟨by omega, by omega⟩
 ·rw [if_neg he] at h1 h2
  exact ⟨by omega, by omega⟩
theorem Few.take {cs : List Cl} (h : Few cs) (i : Nat) : Few (cs.take i) := ⟨by rw [List.length_take]; have := h.len; omega, fun c hc => h.kv c (List.mem_of_mem_take hc)⟩
theorem Few.rt {cs : List Cl} (h : Few cs) (k : Int) (i : Nat) : Few (rtL k cs i) := by
 refine ⟨by rw [rtL_length]; have := h.len; omega, fun c hc => ?_⟩
 unfold rtL at hc
 cases hd : cs.drop i with
 | nil => rw [hd, rsd_nil] at hc; cases hc
 | cons d r =>
  have hm : ∀ x, x ∈ d :: r → x ∈ cs := fun x hx => List.mem_of_mem_drop (by rw [hd]; exact hx)
  rw [hd, rsd_cons] at hc
  rcases List.mem_cons.1 hc with rfl | hc
  ·have := h.kv d (hm d (by simp))
   by_cases hk : k = 3
   ·rw [if_pos hk]
    unfold noKey
    simp only [List.length_nil]
    omega
   ·rw [if_neg hk]
    exact this
  ·exact h.kv c (hm c (by simp [hc]))
set_option maxHeartbeats 8000000 in
theorem rhalf_yes2 (e : Int) (he : e = 1 ∨ e = 2) (n : Nat) (hn : pw n) (co : Option Addr) (m cap : Nat) (cs : List Cl) (w : World) (hs : SlC w co m cap cs) (hf : Few cs) (hz : szE e 2 cs ≤ 1099511627776) :
  Calls Tryz.prog 13 #[.int .i64 e, .int .i64 2, .slice co m cap, .int .i64 (n : Int)] w fun x w' => ∃ (r : Nat) (c : Int), x = .returned (.tuple #[.int .i64 (r : Int), .int .i64 c]) ∧ Hid (IsHalf e 2 n cs r c) ∧ Hid (Below w.heap.size w w') := by
 have HP := hidden (rPage8_any (n : Int) w)
 have dn : decide (pw (n : Int)) = true := decide_eq_true hn
 rw [dn] at HP
 have HLEN := hidden hs.hlen
 have hml : m ≤ 200000 := by have := hf.len; have := hs.hlen; omega
 have hcap : m ≤ cap := hs.hcap
 have hmI : (m : Int) ≤ 200000 := by omega
 have hnI : (n : Int) ≤ 65536 := (pw_le hn).2
 have l1 : ¬ e < 1 := by omega
 have l2 : ¬ 2 < e := by omega
 have HRT0 : Hid (∀ u K b off, co = some ⟨b, off, none⟩ → Below w.heap.size w u → K ≤ m → Calls Tryz.prog 39 #[.int .i64 2, .slice (some ⟨b, off, none⟩) m cap, .int .i64 (K : Int)] u fun x w' => ∃ ro rc, x = .returned (.slice ro (m - K) rc) ∧ Hid (SlC w' ro (m - K) rc (rtL 2 cs K)) ∧ Hid (Below u.heap.size u w')) := hidden fun u K b off hco hu hK => by
  subst hco
  refine (right9_any u 2 b off m cap K cs (hs.on hu) hml hK).mono ?_
  rintro x w' ⟨v, rfl, HO, HB⟩
  have hl : (rtL 2 cs K).length = m - K := by rw [rtL_length, hs.hlen]
  obtain ⟨ro, rc, rfl, h1, _⟩ := HO.out.src
  have hsl := h1.slc HB.out (by rw [hl]; omega)
  rw [hl] at hsl ⊢
  exact ⟨ro, rc, rfl, hidden hsl, HB⟩
 have HFL0 : Hid (∀ u K, Below w.heap.size w u → K ≤ m → Calls Tryz.prog 40 #[.int .i64 e, .int .i64 2, .slice co K cap, .int .i64 (n : Int)] u fun x w' => x = .returned (.bool (fitB e 2 n (cs.take K))) ∧ Hid (Below u.heap.size u w')) := hidden fun u K hu hK => by
  rw [← encB_fit he]
  exact rfits8_any e 2 n co K cap (cs.take K) u ((hs.take9 hK).on hu) (hf.take K) (fun _ => Nat.le_trans (szE_take e 2 cs K) hz)
 have HFR0 : Hid (∀ u K ro rc, SlC u ro (m - K) rc (rtL 2 cs K) → Calls Tryz.prog 40 #[.int .i64 e, .int .i64 2, .slice ro (m - K) rc, .int .i64 (n : Int)] u fun x w' => x = .returned (.bool (fitB e 2 n (rtL 2 cs K))) ∧ Hid (Below u.heap.size u w')) := hidden fun u K ro rc h => by
  rw [← encB_fit he]
  exact rfits8_any e 2 n ro (m - K) rc (rtL 2 cs K) u h (hf.rt 2 K) (fun _ => Nat.le_trans (szE_rt e 2 cs K) hz)
 have HSL0 : Hid (∀ u K, Below w.heap.size w u → K ≤ m → Calls Tryz.prog 38 #[.int .i64 e, .int .i64 2, .slice co K cap] u fun x w' => x = .returned (.int .i64 (szE e 2 (cs.take K) : Int)) ∧ Hid (Below u.heap.size u w')) := hidden fun u K hu hK =>
  rsize8_any e 2 he co K cap (cs.take K) u ((hs.take9 hK).on hu) (hf.take K) (Nat.le_trans (szE_take e 2 cs K) hz)
 have HSR0 : Hid (∀ u K ro rc, SlC u ro (m - K) rc (rtL 2 cs K) → Calls Tryz.prog 38 #[.int .i64 e, .int .i64 2, .slice ro (m - K) rc] u fun x w' => x = .returned (.int .i64 (szE e 2 (rtL 2 cs K) : Int)) ∧ Hid (Below u.heap.size u w')) := hidden fun u K ro rc h =>
  rsize8_any e 2 he ro (m - K) rc (rtL 2 cs K) u h (hf.rt 2 K) (Nat.le_trans (szE_rt e 2 cs K) hz)
 have HZB : Hid (∀ K, szE e 2 (cs.take K) ≤ 1099511627776 ∧ szE e 2 (rtL 2 cs K) ≤ 1099511627776) := hidden fun K => ⟨Nat.le_trans (szE_take e 2 cs K) hz, Nat.le_trans (szE_rt e 2 cs K) hz⟩
 have HS := hidden hs
 clear hs hf hz he hn dn
 go_enter Tryz.func13, Tryz.ntmps13
 go_wp2_with (first | (go_at_call 37; refine same_call HP.out ?_))
 go_loopw [11, 12, 13] (fun s11 s12 s13 wr => ∃ (a l K : Nat), s11 = .int .i64 (a : Int) ∧ s12 = .int .i64 (l : Int) ∧ s13 = .int .i64 (K : Int) ∧ 2 ≤ K ∧ (K + 1 ≤ m ∨ K = 2) ∧ Hid (DHalf e 2 n cs K a l) ∧ (a ≤ 200000 ∧ l ≤ 1099511627776) ∧ Hid (Below w.heap.size w wr)) (fun _ _ s13 _ => 210000 - (intOf s13).toNat)
 case atStart => exact ⟨0, 0, 2, rfl, rfl, rfl, by omega, .inr rfl, hidden (DHalf.zero _ _ _ _), ⟨by omega, by omega⟩, hidden (Below.refl _ _)⟩
 case round =>
  obtain ⟨a, l, K, rfl, rfl, rfl, hK2, hKm, HD, ⟨haB, hlB⟩, HB⟩ := hrel
  have KI : (K : Int) ≤ 200001 := by omega
  have aI : (a : Int) ≤ 200000 := by omega
  have lI : (l : Int) ≤ 1099511627776 := by omega
  have HKM := hidden hKm
  have HK2 := hidden hK2
  clear hKm hK2
  by_cases hgo : K + 2 ≤ m
  ·have hgoI : (K : Int) + 2 ≤ (m : Int) := by omega
   obtain ⟨b, off, c0, ka, kc, va, vc, hco, _⟩ := HS.out.item K (by omega)
   have HRT := hidden (HRT0.out wr K b off hco HB.out (by omega))
   have HFLK := hidden (fun u hu => HFL0.out u K hu (by omega))
   have HSLK := hidden (fun u hu => HSL0.out u K hu (by omega))
   have HFRK := hidden (fun u => HFR0.out u K)
   have HSRK := hidden (fun u => HSR0.out u K)
   have hZK := HZB.out K
   subst hco
   obtain ⟨M, hM⟩ : ∃ M, m - K = M := ⟨_, rfl⟩
   rw [hM] at HRT HFRK HSRK
   obtain ⟨A, hA⟩ : ∃ A, fitB e 2 n (cs.take K) = A := ⟨_, rfl⟩
   obtain ⟨B, hB⟩ : ∃ B, fitB e 2 n (rtL 2 cs K) = B := ⟨_, rfl⟩
   obtain ⟨X, hX⟩ : ∃ X, szE e 2 (cs.take K) = X := ⟨_, rfl⟩
   obtain ⟨Y, hY⟩ : ∃ Y, szE e 2 (rtL 2 cs K) = Y := ⟨_, rfl⟩
   have HOK : Hid (okC e 2 n cs K = (A && B) ∧ grC e 2 cs K = max X Y) := hidden ⟨by unfold okC; rw [hA, hB], by unfold grC; rw [hX, hY]⟩
   rw [hA] at HFLK
   rw [hB] at HFRK
   rw [hX] at HSLK hZK
   rw [hY] at HSRK hZK
   have hXI : (X : Int) ≤ 1099511627776 := by omega
   have hYI : (Y : Int) ≤ 1099511627776 := by omega
   have hKc : K ≤ cap := by omega
   have hKcI : (K : Int) ≤ (cap : Int) := by omega
   obtain ⟨G, hG⟩ : ∃ G, max X Y = G := ⟨_, rfl⟩
   have hGI : (G : Int) ≤ 1099511627776 := by omega
   have hmx : max (X : Int) (Y : Int) = (G : Int) := by omega
   have HGG : Hid (grC e 2 cs K = G) := hidden (by rw [HOK.out.2, hG])
   clear hA hB hX hY hM hZK hG
   go_wp2_with (first | (go_at_call 39; refine HRT.out.mono ?_; rintro x2 w2 ⟨ro, rc, rfl, HR2, HB2⟩; refine Hid.out ?_))
   apply hidden
   have HW2 := hidden (bl_go HB.out (Nat.le_refl _) HB2.out)
   have HC := hidden (HFLK.out w2 HW2.out)
   clear HRT HFLK
   go_wp2_with (first | (go_at_call 40; refine HC.out.mono ?_; rintro x2 w3 ⟨rfl, HB3⟩; refine Hid.out ?_))
   apply hidden
   have HW3 := hidden (bl_go HW2.out (Nat.le_refl _) HB3.out)
   have HR3 := hidden (HR2.out.on HB3.out)
   have HC := hidden (HFRK.out w3 _ _ HR3.out)
   clear HFRK HR2 HB2 HW2
   go_wp2_with (first | (go_at_call 40; refine HC.out.mono ?_; rintro x2 w4 ⟨rfl, HB4⟩; refine Hid.out ?_))
   apply hidden
   have HW4 := hidden (bl_go HW3.out (Nat.le_refl _) HB4.out)
   have HR4 := hidden (HR3.out.on HB4.out)
   have HC := hidden (HSLK.out w4 HW4.out)
   clear HSLK HR3 HB3 HW3
   go_wp2_with (first | (go_at_call 38; refine HC.out.mono ?_; rintro x2 w5 ⟨rfl, HB5⟩; refine Hid.out ?_))
   apply hidden
   have HW5 := hidden (bl_go HW4.out (Nat.le_refl _) HB5.out)
   have HR5 := hidden (HR4.out.on HB5.out)
   have HC := hidden (HSRK.out w5 _ _ HR5.out)
   clear HSRK HR4 HB4 HW4
   go_wp2_with (first | (go_at_call 38; refine HC.out.mono ?_; rintro x2 w6 ⟨rfl, HB6⟩; refine Hid.out ?_))
   apply hidden
   have HW6 := hidden (bl_go HW5.out (Nat.le_refl _) HB6.out)
   clear HC HR5 HB5 HW5 HB6 HSL0 HSR0 HFL0 HFR0 HRT0
   cases hAB : (A && B) with
   | false =>
    have HOF : Hid (okC e 2 n cs K = false) := hidden (by rw [HOK.out.1, hAB])
    have hab : A = false ∨ (A = true ∧ B = false) := by cases A <;> cases B <;> simp_all
    clear hAB
    rcases hab with rfl | ⟨rfl, rfl⟩ <;>
    ·go_wp2
     go_roundw
     case rel => exact ⟨a, l, K + 1, rfl, rfl, by go_num, (by have := HK2.out; omega), .inl (by omega), hidden (HD.out.stay (.inl HOF.out)), ⟨haB, hlB⟩, HW6⟩
     case measure => have := HK2.out; simp [intOf]; omega
   | true =>
    have hab : A = true ∧ B = true := by cases A <;> cases B <;> simp_all
    have HOT : Hid (okC e 2 n cs K = true) := hidden (by rw [HOK.out.1, hAB])
    clear hAB
    obtain ⟨rfl, rfl⟩ := hab
    by_cases ha : a = 0
    ·subst ha
     go_wp2
     go_roundw
     case rel => exact ⟨K, G, K + 1, rfl, rfl, by go_num, (by have := HK2.out; omega), .inl (by omega), hidden (by have := HD.out.take HK2.out HOT.out (.inl rfl); rwa [HGG.out] at this), ⟨by omega, by omega⟩, HW6⟩
     case measure => have := HK2.out; simp [intOf]; omega
    ·have haI : ((a : Int) == 0) = false := by simpa using ha
     have haI2 : ¬ (a : Int) = 0 := by omega
     by_cases hlt : G < l
     ·have hltI : (G : Int) < (l : Int) := by omega
      go_wp2
      go_roundw
      case rel => exact ⟨K, G, K + 1, rfl, rfl, by go_num, (by have := HK2.out; omega), .inl (by omega), hidden (by have := HD.out.take HK2.out HOT.out (.inr (by rw [HGG.out]; exact hlt)); rwa [HGG.out] at this), ⟨by omega, by omega⟩, HW6⟩
      case measure => have := HK2.out; simp [intOf]; omega
     ·have hltI : ¬ (G : Int) < (l : Int) := by omega
      go_wp2
      go_roundw
      case rel => exact ⟨a, l, K + 1, rfl, rfl, by go_num, (by have := HK2.out; omega), .inl (by omega), hidden (HD.out.stay (.inr ⟨ha, by rw [HGG.out]; exact hlt⟩)), ⟨haB, hlB⟩, HW6⟩
      case measure => have := HK2.out; simp [intOf]; omega
  ·have hgoI : ¬ (K : Int) + 2 ≤ (m : Int) := by omega
   have HDN := hidden (HD.out.done (by rw [HLEN.out]; exact hgo) (by rw [HLEN.out]; exact HKM.out))
   clear HSL0 HSR0 HFL0 HFR0 HRT0
   by_cases ha : a = 0
   ·have HDZ : Hid (IsHalf e 2 n cs a 61) := hidden (by have := HDN.out; rwa [if_pos ha] at this)
    clear HDN
    subst ha
    go_wp2
    go_ret2
    exact ⟨0, 61, rfl, HDZ, HB⟩
   ·have haI : ((a : Int) == 0) = false := by simpa using ha
    have haI2 : ¬ (a : Int) = 0 := by omega
    have HDZ : Hid (IsHalf e 2 n cs a 0) := hidden (by have := HDN.out; rwa [if_neg ha] at this)
    clear HDN
    go_wp2
    go_ret2
    exact ⟨a, 0, rfl, HDZ, HB⟩
set_option maxHeartbeats 8000000 in
theorem rhalf_yes3 (e : Int) (he : e = 1 ∨ e = 2) (n : Nat) (hn : pw n) (co : Option Addr) (m cap : Nat) (cs : List Cl) (w : World) (hs : SlC w co m cap cs) (hf : Few cs) (hz : szE e 3 cs ≤ 1099511627776) :
  Calls Tryz.prog 13 #[.int .i64 e, .int .i64 3, .slice co m cap, .int .i64 (n : Int)] w fun x w' => ∃ (r : Nat) (c : Int), x = .returned (.tuple #[.int .i64 (r : Int), .int .i64 c]) ∧ Hid (IsHalf e 3 n cs r c) ∧ Hid (Below w.heap.size w w') := by
 have HP := hidden (rPage8_any (n : Int) w)
 have dn : decide (pw (n : Int)) = true := decide_eq_true hn
 rw [dn] at HP
 have HLEN := hidden hs.hlen
 have hml : m ≤ 200000 := by have := hf.len; have := hs.hlen; omega
 have hcap : m ≤ cap := hs.hcap
 have hmI : (m : Int) ≤ 200000 := by omega
 have hnI : (n : Int) ≤ 65536 := (pw_le hn).2
 have l1 : ¬ e < 1 := by omega
 have l2 : ¬ 2 < e := by omega
 have HRT0 : Hid (∀ u K b off, co = some ⟨b, off, none⟩ → Below w.heap.size w u → K ≤ m → Calls Tryz.prog 39 #[.int .i64 3, .slice (some ⟨b, off, none⟩) m cap, .int .i64 (K : Int)] u fun x w' => ∃ ro rc, x = .returned (.slice ro (m - K) rc) ∧ Hid (SlC w' ro (m - K) rc (rtL 3 cs K)) ∧ Hid (Below u.heap.size u w')) := hidden fun u K b off hco hu hK => by
  subst hco
  refine (right9_any u 3 b off m cap K cs (hs.on hu) hml hK).mono ?_
  rintro x w' ⟨v, rfl, HO, HB⟩
  have hl : (rtL 3 cs K).length = m - K := by rw [rtL_length, hs.hlen]
  obtain ⟨ro, rc, rfl, h1, _⟩ := HO.out.src
  have hsl := h1.slc HB.out (by rw [hl]; omega)
  rw [hl] at hsl ⊢
  exact ⟨ro, rc, rfl, hidden hsl, HB⟩
 have HFL0 : Hid (∀ u K, Below w.heap.size w u → K ≤ m → Calls Tryz.prog 40 #[.int .i64 e, .int .i64 3, .slice co K cap, .int .i64 (n : Int)] u fun x w' => x = .returned (.bool (fitB e 3 n (cs.take K))) ∧ Hid (Below u.heap.size u w')) := hidden fun u K hu hK => by
  rw [← encB_fit he]
  exact rfits8_any e 3 n co K cap (cs.take K) u ((hs.take9 hK).on hu) (hf.take K) (fun _ => Nat.le_trans (szE_take e 3 cs K) hz)
 have HFR0 : Hid (∀ u K ro rc, SlC u ro (m - K) rc (rtL 3 cs K) → Calls Tryz.prog 40 #[.int .i64 e, .int .i64 3, .slice ro (m - K) rc, .int .i64 (n : Int)] u fun x w' => x = .returned (.bool (fitB e 3 n (rtL 3 cs K))) ∧ Hid (Below u.heap.size u w')) := hidden fun u K ro rc h => by
  rw [← encB_fit he]
  exact rfits8_any e 3 n ro (m - K) rc (rtL 3 cs K) u h (hf.rt 3 K) (fun _ => Nat.le_trans (szE_rt e 3 cs K) hz)
 have HSL0 : Hid (∀ u K, Below w.heap.size w u → K ≤ m → Calls Tryz.prog 38 #[.int .i64 e, .int .i64 3, .slice co K cap] u fun x w' => x = .returned (.int .i64 (szE e 3 (cs.take K) : Int)) ∧ Hid (Below u.heap.size u w')) := hidden fun u K hu hK =>
  rsize8_any e 3 he co K cap (cs.take K) u ((hs.take9 hK).on hu) (hf.take K) (Nat.le_trans (szE_take e 3 cs K) hz)
 have HSR0 : Hid (∀ u K ro rc, SlC u ro (m - K) rc (rtL 3 cs K) → Calls Tryz.prog 38 #[.int .i64 e, .int .i64 3, .slice ro (m - K) rc] u fun x w' => x = .returned (.int .i64 (szE e 3 (rtL 3 cs K) : Int)) ∧ Hid (Below u.heap.size u w')) := hidden fun u K ro rc h =>
  rsize8_any e 3 he ro (m - K) rc (rtL 3 cs K) u h (hf.rt 3 K) (Nat.le_trans (szE_rt e 3 cs K) hz)
 have HZB : Hid (∀ K, szE e 3 (cs.take K) ≤ 1099511627776 ∧ szE e 3 (rtL 3 cs K) ≤ 1099511627776) := hidden fun K => ⟨Nat.le_trans (szE_take e 3 cs K) hz, Nat.le_trans (szE_rt e 3 cs K) hz⟩
 have HS := hidden hs
 clear hs hf hz he hn dn
 go_enter Tryz.func13, Tryz.ntmps13
 go_wp2_with (first | (go_at_call 37; refine same_call HP.out ?_))
 go_loopw [11, 12, 13] (fun s11 s12 s13 wr => ∃ (a l K : Nat), s11 = .int .i64 (a : Int) ∧ s12 = .int .i64 (l : Int) ∧ s13 = .int .i64 (K : Int) ∧ 2 ≤ K ∧ (K + 1 ≤ m ∨ K = 2) ∧ Hid (DHalf e 3 n cs K a l) ∧ (a ≤ 200000 ∧ l ≤ 1099511627776) ∧ Hid (Below w.heap.size w wr)) (fun _ _ s13 _ => 210000 - (intOf s13).toNat)
 case atStart => exact ⟨0, 0, 2, rfl, rfl, rfl, by omega, .inr rfl, hidden (DHalf.zero _ _ _ _), ⟨by omega, by omega⟩, hidden (Below.refl _ _)⟩
 case round =>
  obtain ⟨a, l, K, rfl, rfl, rfl, hK2, hKm, HD, ⟨haB, hlB⟩, HB⟩ := hrel
  have KI : (K : Int) ≤ 200001 := by omega
  have aI : (a : Int) ≤ 200000 := by omega
  have lI : (l : Int) ≤ 1099511627776 := by omega
  have HKM := hidden hKm
  have HK2 := hidden hK2
  clear hKm hK2
  by_cases hgo : K + 2 ≤ m
  ·have hgoI : (K : Int) + 2 ≤ (m : Int) := by omega
   obtain ⟨b, off, c0, ka, kc, va, vc, hco, _⟩ := HS.out.item K (by omega)
   have HRT := hidden (HRT0.out wr K b off hco HB.out (by omega))
   have HFLK := hidden (fun u hu => HFL0.out u K hu (by omega))
   have HSLK := hidden (fun u hu => HSL0.out u K hu (by omega))
   have HFRK := hidden (fun u => HFR0.out u K)
   have HSRK := hidden (fun u => HSR0.out u K)
   have hZK := HZB.out K
   subst hco
   obtain ⟨M, hM⟩ : ∃ M, m - K = M := ⟨_, rfl⟩
   rw [hM] at HRT HFRK HSRK
   obtain ⟨A, hA⟩ : ∃ A, fitB e 3 n (cs.take K) = A := ⟨_, rfl⟩
   obtain ⟨B, hB⟩ : ∃ B, fitB e 3 n (rtL 3 cs K) = B := ⟨_, rfl⟩
   obtain ⟨X, hX⟩ : ∃ X, szE e 3 (cs.take K) = X := ⟨_, rfl⟩
   obtain ⟨Y, hY⟩ : ∃ Y, szE e 3 (rtL 3 cs K) = Y := ⟨_, rfl⟩
   have HOK : Hid (okC e 3 n cs K = (A && B) ∧ grC e 3 cs K = max X Y) := hidden ⟨by unfold okC; rw [hA, hB], by unfold grC; rw [hX, hY]⟩
   rw [hA] at HFLK
   rw [hB] at HFRK
   rw [hX] at HSLK hZK
   rw [hY] at HSRK hZK
   have hXI : (X : Int) ≤ 1099511627776 := by omega
   have hYI : (Y : Int) ≤ 1099511627776 := by omega
   have hKc : K ≤ cap := by omega
   have hKcI : (K : Int) ≤ (cap : Int) := by omega
   obtain ⟨G, hG⟩ : ∃ G, max X Y = G := ⟨_, rfl⟩
   have hGI : (G : Int) ≤ 1099511627776 := by omega
   have hmx : max (X : Int) (Y : Int) = (G : Int) := by omega
   have HGG : Hid (grC e 3 cs K = G) := hidden (by rw [HOK.out.2, hG])
   clear hA hB hX hY hM hZK hG
   go_wp2_with (first | (go_at_call 39; refine HRT.out.mono ?_; rintro x2 w2 ⟨ro, rc, rfl, HR2, HB2⟩; refine Hid.out ?_))
   apply hidden
   have HW2 := hidden (bl_go HB.out (Nat.le_refl _) HB2.out)
   have HC := hidden (HFLK.out w2 HW2.out)
   clear HRT HFLK
   go_wp2_with (first | (go_at_call 40; refine HC.out.mono ?_; rintro x2 w3 ⟨rfl, HB3⟩; refine Hid.out ?_))
   apply hidden
   have HW3 := hidden (bl_go HW2.out (Nat.le_refl _) HB3.out)
   have HR3 := hidden (HR2.out.on HB3.out)
   have HC := hidden (HFRK.out w3 _ _ HR3.out)
   clear HFRK HR2 HB2 HW2
   go_wp2_with (first | (go_at_call 40; refine HC.out.mono ?_; rintro x2 w4 ⟨rfl, HB4⟩; refine Hid.out ?_))
   apply hidden
   have HW4 := hidden (bl_go HW3.out (Nat.le_refl _) HB4.out)
   have HR4 := hidden (HR3.out.on HB4.out)
   have HC := hidden (HSLK.out w4 HW4.out)
   clear HSLK HR3 HB3 HW3
   go_wp2_with (first | (go_at_call 38; refine HC.out.mono ?_; rintro x2 w5 ⟨rfl, HB5⟩; refine Hid.out ?_))
   apply hidden
   have HW5 := hidden (bl_go HW4.out (Nat.le_refl _) HB5.out)
   have HR5 := hidden (HR4.out.on HB5.out)
   have HC := hidden (HSRK.out w5 _ _ HR5.out)
   clear HSRK HR4 HB4 HW4
   go_wp2_with (first | (go_at_call 38; refine HC.out.mono ?_; rintro x2 w6 ⟨rfl, HB6⟩; refine Hid.out ?_))
   apply hidden
   have HW6 := hidden (bl_go HW5.out (Nat.le_refl _) HB6.out)
   clear HC HR5 HB5 HW5 HB6 HSL0 HSR0 HFL0 HFR0 HRT0
   cases hAB : (A && B) with
   | false =>
    have HOF : Hid (okC e 3 n cs K = false) := hidden (by rw [HOK.out.1, hAB])
    have hab : A = false ∨ (A = true ∧ B = false) := by cases A <;> cases B <;> simp_all
    clear hAB
    rcases hab with rfl | ⟨rfl, rfl⟩ <;>
    ·go_wp2
     go_roundw
     case rel => exact ⟨a, l, K + 1, rfl, rfl, by go_num, (by have := HK2.out; omega), .inl (by omega), hidden (HD.out.stay (.inl HOF.out)), ⟨haB, hlB⟩, HW6⟩
     case measure => have := HK2.out; simp [intOf]; omega
   | true =>
    have hab : A = true ∧ B = true := by cases A <;> cases B <;> simp_all
    have HOT : Hid (okC e 3 n cs K = true) := hidden (by rw [HOK.out.1, hAB])
    clear hAB
    obtain ⟨rfl, rfl⟩ := hab
    by_cases ha : a = 0
    ·subst ha
     go_wp2
     go_roundw
     case rel => exact ⟨K, G, K + 1, rfl, rfl, by go_num, (by have := HK2.out; omega), .inl (by omega), hidden (by have := HD.out.take HK2.out HOT.out (.inl rfl); rwa [HGG.out] at this), ⟨by omega, by omega⟩, HW6⟩
     case measure => have := HK2.out; simp [intOf]; omega
    ·have haI : ((a : Int) == 0) = false := by simpa using ha
     have haI2 : ¬ (a : Int) = 0 := by omega
     by_cases hlt : G < l
     ·have hltI : (G : Int) < (l : Int) := by omega
      go_wp2
      go_roundw
      case rel => exact ⟨K, G, K + 1, rfl, rfl, by go_num, (by have := HK2.out; omega), .inl (by omega), hidden (by have := HD.out.take HK2.out HOT.out (.inr (by rw [HGG.out]; exact hlt)); rwa [HGG.out] at this), ⟨by omega, by omega⟩, HW6⟩
      case measure => have := HK2.out; simp [intOf]; omega
     ·have hltI : ¬ (G : Int) < (l : Int) := by omega
      go_wp2
      go_roundw
      case rel => exact ⟨a, l, K + 1, rfl, rfl, by go_num, (by have := HK2.out; omega), .inl (by omega), hidden (HD.out.stay (.inr ⟨ha, by rw [HGG.out]; exact hlt⟩)), ⟨haB, hlB⟩, HW6⟩
      case measure => have := HK2.out; simp [intOf]; omega
  ·have hgoI : ¬ (K : Int) + 2 ≤ (m : Int) := by omega
   have HDN := hidden (HD.out.done (by rw [HLEN.out]; exact hgo) (by rw [HLEN.out]; exact HKM.out))
   clear HSL0 HSR0 HFL0 HFR0 HRT0
   by_cases ha : a = 0
   ·have HDZ : Hid (IsHalf e 3 n cs a 61) := hidden (by have := HDN.out; rwa [if_pos ha] at this)
    clear HDN
    subst ha
    go_wp2
    go_ret2
    exact ⟨0, 61, rfl, HDZ, HB⟩
   ·have haI : ((a : Int) == 0) = false := by simpa using ha
    have haI2 : ¬ (a : Int) = 0 := by omega
    have HDZ : Hid (IsHalf e 3 n cs a 0) := hidden (by have := HDN.out; rwa [if_neg ha] at this)
    clear HDN
    go_wp2
    go_ret2
    exact ⟨a, 0, rfl, HDZ, HB⟩
theorem rhalf8_any (e k p : Int) (co : Option Addr) (m cap : Nat) (cs : List Cl) (w : World) (hs : SlC w co m cap cs) (hf : Few cs) (hz : e = 1 ∨ e = 2 → szE e k cs ≤ 1099511627776) :
  Calls Tryz.prog 13 #[.int .i64 e, .int .i64 k, .slice co m cap, .int .i64 p] w fun x w' => ∃ (r : Nat) (c : Int), x = .returned (.tuple #[.int .i64 (r : Int), .int .i64 c]) ∧ Hid (HalfR e k p cs r c) ∧ Hid (Below w.heap.size w w') := by
 unfold HalfR
 by_cases he : e = 1 ∨ e = 2
 ·simp only [if_pos he]
  by_cases hkp : isKd k ∧ pw p
  ·simp only [if_pos hkp]
   obtain ⟨hk, hp⟩ := hkp
   have hp0 : 0 ≤ p := by unfold pw at hp; omega
   obtain ⟨n, rfl⟩ := Int.eq_ofNat_of_zero_le hp0
   simp only [Int.toNat_natCast]
   have hz' := hz he
   have hk2 : k = 2 ∨ k = 3 := by unfold isKd at hk; omega
   rcases hk2 with rfl | rfl
   ·exact rhalf_yes2 e he n hp co m cap cs w hs hf hz'
   ·exact rhalf_yes3 e he n hp co m cap cs w hs hf hz'
  ·simp only [if_neg hkp]
   have HP := hidden (rPage8_any p w)
   have l1 : ¬ e < 1 := by omega
   have l2 : ¬ 2 < e := by omega
   clear hs hf hz he
   by_cases hk : isKd k
   ·have d : decide (pw p) = false := decide_eq_false (fun h => hkp ⟨hk, h⟩)
    rw [d] at HP
    have hk2 : k = 2 ∨ k = 3 := by unfold isKd at hk; omega
    clear d hkp hk
    rcases hk2 with rfl | rfl <;>
    ·go_enter Tryz.func13, Tryz.ntmps13
     go_wp2_with (first | (go_at_call 37; refine same_call HP.out ?_))
     go_ret2
     exact ⟨0, 1, rfl, hidden ⟨rfl, rfl⟩, hidden (Below.refl _ _)⟩
   ·have h2 : ¬ k = 2 := by unfold isKd at hk; omega
    have h3 : ¬ k = 3 := by unfold isKd at hk; omega
    obtain ⟨D, hD⟩ : ∃ D, decide (pw p) = D := ⟨_, rfl⟩
    rw [hD] at HP
    clear hD hkp hk
    go_enter Tryz.func13, Tryz.ntmps13
    go_wp2_with (first | (go_at_call 37; refine same_call HP.out ?_))
    go_ret2
    exact ⟨0, 1, rfl, hidden ⟨rfl, rfl⟩, hidden (Below.refl _ _)⟩
 ·simp only [if_neg he]
  have HP := hidden (rPage8_any p w)
  obtain ⟨D, hD⟩ : ∃ D, decide (pw p) = D := ⟨_, rfl⟩
  rw [hD] at HP
  have hl : e < 1 ∨ 2 < e := by omega
  clear hD hs hf hz he
  rcases hl with hl | hl
  ·go_enter Tryz.func13, Tryz.ntmps13
   go_wp2_with (first | (go_at_call 37; refine same_call HP.out ?_))
   go_ret2
   exact ⟨0, 80, rfl, hidden ⟨rfl, rfl⟩, hidden (Below.refl _ _)⟩
  ·have hl1 : ¬ e < 1 := by omega
   go_enter Tryz.func13, Tryz.ntmps13
   go_wp2_with (first | (go_at_call 37; refine same_call HP.out ?_))
   go_ret2
   exact ⟨0, 80, rfl, hidden ⟨rfl, rfl⟩, hidden (Below.refl _ _)⟩
end Go.Proofs.YtlhkinlgolcpaaaGreatDoor
