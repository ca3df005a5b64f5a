import Derived.Test.YtlhkinlgolcpaaaGreatDoorJ45
import Derived.Test.YtlhkinlgolcpaaaGreatDoorJ38
import Derived.Test.YtlhkinlgolcpaaaGreatDoorJ46
import Derived.Test.YtlhkinlgolcpaaaGreatDoorJ49
import Derived.Test.YtlhkinlgolcpaaaGreatDoorCards
import Derived.Test.YtlhkinlgolcpaaaGreatDoorTie
import Derived.Test.YtlhkinlgolcpaaaGreatDoorJ16
import Derived.WalkKit
import Derived.ProofKit
import Derived.OpenShut
import Derived.Deep.DeepHandedRow
import Derived.Lib.LaidTab
import Derived.ChangeArms
import Derived.DataElems
import Derived.SizedLaws
import Derived.KernelRfl
import Derived.WideShapes
namespace Go.Proofs.YtlhkinlgolcpaaaGreatDoor
set_option maxRecDepth 100000
open Go.RowKit
theorem sl_four (w : World) : Sl (w.alloc (.cells #[.int .u8 2, .int .u8 2, .int .u8 2, .int .u8 2] 5)) (some ⟨w.heap.size, 0, none⟩) 4 4 [2, 2, 2, 2] := by
 refine ⟨rfl, Nat.le_refl _, by omega, (by intro x hx; simp only [List.mem_cons, List.not_mem_nil, or_false] at hx; omega), (by intro h; cases h), .inr ⟨w.heap.size, 0, rfl, by simp, ?_⟩⟩
 intro i hi
 obtain rfl | rfl | rfl | rfl : i = 0 ∨ i = 1 ∨ i = 2 ∨ i = 3 := by omega
 all_goals simp
theorem own_some {w : World} {B n c : Nat} {ao : Option Addr} {l : List Int} (h : OwnB w B (.slice ao n c) l) (hn : l.length = n) (h0 : 0 < n) : ∃ g, ao = some ⟨g, 0, none⟩ := by
 unfold OwnB at h
 rcases h.2 with ⟨h, _⟩ | ⟨g, cap, cur, e, _⟩
 ·cases h; omega
 ·cases e; exact ⟨g, rfl⟩
theorem own_len {w : World} {B n c : Nat} {ao : Option Addr} {l : List Int} (h : OwnB w B (.slice ao n c) l) : l.length = n := by
 obtain ⟨ao', c', e⟩ := own_slice h
 cases e
 rfl
set_option maxHeartbeats 16000000 in
theorem walk_NodeWrites (e k : Int) (co : Option Addr) (cn cc : Nat) (cs : List Cl) (p : Int) (w : World) (ht : Tab w) (h0 : 1 < w.heap.size) (hs : SlC w co cn cc cs) (hf : Few cs) (hz : e = 1 ∨ e = 2 → szE e k cs ≤ 1099511627776) :
  Calls Tryz.prog 3 #[.int .i64 e, .int .i64 k, .slice co cn cc, .int .i64 p] w fun x w' => x = .returned (.bool true) ∧ Below w.heap.size w w' := by
 have HS := hidden hs
 have HT := hidden ht
 have HLEN := hidden hs.hlen
 have HWF := hidden hs.wf
 have HRM := hidden hs.rooms
 have HFW := hidden hf
 have HZ := hidden hz
 have hc9 : cn ≤ 900000 := by have := hf.len; have := hs.hlen; omega
 have HAW := hidden (awake8_any w ht h0)
 clear hs ht hf hz
 go_enter Tryz.func3, Tryz.ntmps3
 go_wp2_with (first | (go_at_call 4; refine HAW.out.mono ?_; rintro x1 w1 ⟨rfl, hb⟩; have HB1 := hidden hb; clear hb; refine Hid.out ?_))
 apply hidden
 have HSG : Hid (SlC w1 co cn cc cs) := hidden (HS.out.on HB1.out)
 have HTG : Hid (Tab w1) := hidden (HT.out.on HB1.out h0)
 have HHG : Hid (1 < w1.heap.size) := hidden (Nat.lt_of_lt_of_le h0 HB1.out.size)
 have HLN := hidden (lent6_any co cn cc cs w1 HSG.out hc9)
 obtain ⟨R, hR⟩ : ∃ R, w1.heap.size = R := ⟨_, rfl⟩
 rw [hR] at HLN
 clear HAW HS HT h0
 go_wp2_with (first | (go_at_call 5; refine HLN.out.mono ?_; rintro x1 u1 ⟨rfl, HL1, HBx⟩; refine Hid.out ?_))
 apply hidden
 have HG1 : Hid (Below w1.heap.size w1 u1) := hidden (by rw [hR]; exact HBx.out)
 have HRL : Hid (R < u1.heap.size) := hidden (by obtain ⟨g, _, h2, _⟩ := HL1.out; exact h2.lt)
 obtain ⟨L, hL⟩ : ∃ L, u1.heap.size = L := ⟨_, rfl⟩
 rw [hL] at HL1 HRL
 have HSL : Hid (∀ u, Lent6 u R cs cn L → SlC u (some ⟨R, 0, none⟩) cn (cn + 3) cs) := hidden (fun u h => h.slc2 HLEN.out hc9 HWF.out HRM.out)
 have HTT : Hid (∀ u, Below w1.heap.size w1 u → Tab u ∧ 1 < u.heap.size) := hidden fun u hu => ⟨HTG.out.on hu HHG.out, Nat.lt_of_lt_of_le HHG.out hu.size⟩
 have HXL : Hid ((enB e k p cs).length ≤ 65536) := hidden enB_len
 have HXW : Hid (Wf (enB e k p cs)) := hidden (enB_wf HWF.out HFW.out.kv7)
 have HENC : Hid (∀ u, Lent6 u R cs cn L → Below w1.heap.size w1 u → Calls Tryz.prog 6 #[.int .i64 e, .int .i64 k, .slice (some ⟨R, 0, none⟩) cn (cn + 3), .int .i64 p] u fun x w' => ∃ ao m cap, x = .returned (.tuple #[.slice ao m cap, .int .i64 (encB e k p cs)]) ∧ Hid (OwnB w' u.heap.size (.slice ao m cap) (enB e k p cs)) ∧ Hid (Below u.heap.size u w')) := hidden fun u h hu => nencode_any e k p _ cn (cn + 3) cs u (HSL.out u h) HZ.out (HTT.out u hu).1 (HTT.out u hu).2
 have HFIT : Hid (∀ u, Lent6 u R cs cn L → Below w1.heap.size w1 u → Calls Tryz.prog 7 #[.int .i64 e, .int .i64 k, .slice (some ⟨R, 0, none⟩) cn (cn + 3), .int .i64 p] u fun x w' => x = .returned (.bool (decide (encB e k p cs = 0))) ∧ Hid (Below u.heap.size u w')) := hidden fun u h hu => nfit_any e k p _ cn (cn + 3) cs u (HSL.out u h) HZ.out (HTT.out u hu).1 (HTT.out u hu).2
 have HFIL : Hid (∀ u, Lent6 u R cs cn L → Calls Tryz.prog 8 #[.int .i64 e, .int .i64 k, .slice (some ⟨R, 0, none⟩) cn (cn + 3), .int .i64 p] u fun x w' => x = .returned (.int .i64 (fillB e k p cs)) ∧ Hid (Below u.heap.size u w')) := hidden fun u h => nfill_any e k p _ cn (cn + 3) cs u (HSL.out u h) HZ.out
 have HHAL : Hid (∀ u, Lent6 u R cs cn L → Below w1.heap.size w1 u → Calls Tryz.prog 9 #[.int .i64 e, .int .i64 k, .slice (some ⟨R, 0, none⟩) cn (cn + 3), .int .i64 p] u fun x w' => ∃ (r : Nat) (c : Int), x = .returned (.tuple #[.int .i64 (r : Int), .int .i64 c]) ∧ Hid (HalfR e k p cs r c) ∧ Hid (Below u.heap.size u w')) := hidden fun u h hu => nhalf_any e k p _ cn (cn + 3) cs u (HSL.out u h) HFW.out HZ.out (HTT.out u hu).1 (HTT.out u hu).2
 have HREN : Hid (∀ u, Below w1.heap.size w1 u → Calls Tryz.prog 11 #[.int .i64 e, .int .i64 k, .slice co cn cc, .int .i64 p] u fun x w' => ∃ ao m cap, x = .returned (.tuple #[.slice ao m cap, .int .i64 (encB e k p cs)]) ∧ Hid (OwnB w' u.heap.size (.slice ao m cap) (enB e k p cs)) ∧ Hid (Below u.heap.size u w')) := hidden fun u hu => rencode8_any e k p co cn cc cs u (HSG.out.on hu) HFW.out HZ.out
 have HRFI : Hid (∀ u, Below w1.heap.size w1 u → Calls Tryz.prog 12 #[.int .i64 e, .int .i64 k, .slice co cn cc, .int .i64 p] u fun x w' => x = .returned (.int .i64 (fillB e k p cs)) ∧ Hid (Below u.heap.size u w')) := hidden fun u hu => rfill8_any e k p co cn cc cs u (HSG.out.on hu) HFW.out HZ.out
 have HRHA : Hid (∀ u r c, HalfR e k p cs r c → Below w1.heap.size w1 u → Calls Tryz.prog 13 #[.int .i64 e, .int .i64 k, .slice co cn cc, .int .i64 p] u fun x w' => x = .returned (.tuple #[.int .i64 (r : Int), .int .i64 c]) ∧ Hid (Below u.heap.size u w')) := hidden fun u r c hr hu => by
  refine (rhalf8_any e k p co cn cc cs u (HSG.out.on hu) HFW.out HZ.out).mono ?_
  rintro x w' ⟨r', c', rfl, hr', hb⟩
  obtain ⟨rfl, rfl⟩ := hr.det hr'.out
  exact ⟨rfl, hb⟩
 have HMK := hidden (fun u => nmostKey_any p u)
 have HMV := hidden (fun u => nmostValue_any p u)
 have HRK := hidden (fun u => rmostKey8_any p u)
 have HRV := hidden (fun u => rmostValue8_any p u)
 obtain ⟨X, hX⟩ : ∃ X, enB e k p cs = X := ⟨_, rfl⟩
 obtain ⟨E, hE⟩ : ∃ E, encB e k p cs = E := ⟨_, rfl⟩
 obtain ⟨Fl, hFl⟩ : ∃ Fl, fillB e k p cs = Fl := ⟨_, rfl⟩
 obtain ⟨MK, hMK⟩ : ∃ MK, (if pw p then p / 8 else 0) = MK := ⟨_, rfl⟩
 obtain ⟨MV, hMV⟩ : ∃ MV, (if pw p then p / 16 * 3 else 0) = MV := ⟨_, rfl⟩
 rw [hX] at HXL HXW HENC HREN
 rw [hE] at HENC HREN HFIT
 rw [hFl] at HFIL HRFI
 simp only [hMK] at HMK HRK
 simp only [hMV] at HMV HRV
 clear hX hE hFl hMK hMV HZ HFW HTT
 have hX6 : X.length ≤ 140737488355328 := by have := HXL.out; omega
 have HE1 := hidden (HENC.out u1 HL1.out HG1.out)
 rw [hL] at HE1
 clear HLN HBx
 go_wp2_with (first | (go_at_call 6; refine HE1.out.mono ?_; rintro x1 u2 ⟨ao, an, ac, rfl, HA2, HBx⟩; refine Hid.out ?_))
 apply hidden
 have hbx : Below u1.heap.size u1 u2 := by rw [hL]; exact HBx.out
 have HG2 : Hid (Below w1.heap.size w1 u2) := hidden (bl_go HG1.out (Nat.le_refl _) hbx)
 have HL2 : Hid (Lent6 u2 R cs cn L) := hidden (HL1.out.on hbx)
 have HS2 : Hid (L ≤ u2.heap.size) := hidden (by rw [← hL]; exact hbx.size)
 have HE2 := hidden (HENC.out u2 HL2.out HG2.out)
 clear hbx HBx HE1 HG1 HL1 hL HENC
 go_wp2_with (first | (go_at_call 6; refine HE2.out.mono ?_; rintro x1 u3 ⟨bo, bn, bc, rfl, HB3, HBx⟩; refine Hid.out ?_))
 apply hidden
 have HG3 : Hid (Below w1.heap.size w1 u3) := hidden (bl_go HG2.out (Nat.le_refl _) HBx.out)
 have HL3 : Hid (Lent6 u3 R cs cn L) := hidden (HL2.out.on HBx.out)
 have HA3 : Hid (OwnB u3 L (.slice ao an ac) X) := hidden (HA2.out.on (Nat.le_refl _) HBx.out)
 have HNab : Hid ((Value.slice ao an ac).ownBlock = none ∨ (Value.slice ao an ac).ownBlock ≠ (Value.slice bo bn bc).ownBlock) := hidden (own_two HA2.out HB3.out (Nat.le_refl _))
 have HS3 : Hid (L ≤ u3.heap.size) := hidden (Nat.le_trans HS2.out HBx.out.size)
 have HB3L : Hid (OwnB u3 L (.slice bo bn bc) X) := hidden (HB3.out.low HS2.out)
 have HF3 := hidden (HFIT.out u3 HL3.out HG3.out)
 clear HBx HE2 HG2 HL2 HA2 HB3 HS2 HFIT
 go_wp2_with (first | (go_at_call 7; refine HF3.out.mono ?_; rintro x1 u4 ⟨rfl, HBx⟩; refine Hid.out ?_))
 apply hidden
 have HG4 : Hid (Below w1.heap.size w1 u4) := hidden (bl_go HG3.out (Nat.le_refl _) HBx.out)
 have HL4 : Hid (Lent6 u4 R cs cn L) := hidden (HL3.out.on HBx.out)
 have HA4 : Hid (OwnB u4 L (.slice ao an ac) X) := hidden (HA3.out.on (Nat.le_refl _) HBx.out)
 have HB4 : Hid (OwnB u4 L (.slice bo bn bc) X) := hidden (HB3L.out.on (Nat.le_refl _) HBx.out)
 have HS4 : Hid (L ≤ u4.heap.size) := hidden (Nat.le_trans HS3.out HBx.out.size)
 have HF4 := hidden (HFIL.out u4 HL4.out)
 clear HBx HF3 HG3 HL3 HA3 HB3L HS3 HFIL
 go_wp2_with (first | (go_at_call 8; refine HF4.out.mono ?_; rintro x1 u5 ⟨rfl, HBx⟩; refine Hid.out ?_))
 apply hidden
 have HG5 : Hid (Below w1.heap.size w1 u5) := hidden (bl_go HG4.out (Nat.le_refl _) HBx.out)
 have HL5 : Hid (Lent6 u5 R cs cn L) := hidden (HL4.out.on HBx.out)
 have HA5 : Hid (OwnB u5 L (.slice ao an ac) X) := hidden (HA4.out.on (Nat.le_refl _) HBx.out)
 have HB5 : Hid (OwnB u5 L (.slice bo bn bc) X) := hidden (HB4.out.on (Nat.le_refl _) HBx.out)
 have HS5 : Hid (L ≤ u5.heap.size) := hidden (Nat.le_trans HS4.out HBx.out.size)
 have HH5 := hidden (HHAL.out u5 HL5.out HG5.out)
 clear HBx HF4 HG4 HL4 HA4 HB4 HS4 HHAL
 go_wp2_with (first | (go_at_call 9; refine HH5.out.mono ?_; rintro x1 u6 ⟨r, c, rfl, HRC, HBx⟩; refine Hid.out ?_))
 apply hidden
 have HG6 : Hid (Below w1.heap.size w1 u6) := hidden (bl_go HG5.out (Nat.le_refl _) HBx.out)
 have HL6 : Hid (Lent6 u6 R cs cn L) := hidden (HL5.out.on HBx.out)
 have HA6 : Hid (OwnB u6 L (.slice ao an ac) X) := hidden (HA5.out.on (Nat.le_refl _) HBx.out)
 have HB6 : Hid (OwnB u6 L (.slice bo bn bc) X) := hidden (HB5.out.on (Nat.le_refl _) HBx.out)
 have HS6 : Hid (L ≤ u6.heap.size) := hidden (Nat.le_trans HS5.out HBx.out.size)
 have HRG : Hid (∀ (a b : World), w1.heap.size ≤ a.heap.size → Cf (Bt R L) a b → Below w1.heap.size a b) := hidden (fun a b h2 hc => hc.below h2 (fun k hk e => by have := e.1; rw [hR] at hk; omega))
 have HAS := hidden (asLent6_any L R cn co cc cs u6 HL6.out (fun u hu => HSG.out.on (HG6.out.trans (HRG.out _ _ HG6.out.size hu))) hc9)
 clear HBx HH5 HG5 HL5 HA5 HB5 HS5
 go_wp2_with (first | (go_at_call 10; refine HAS.out.mono ?_; rintro x1 u7 ⟨rfl, HCx⟩; refine Hid.out ?_))
 apply hidden
 have HG7 : Hid (Below w1.heap.size w1 u7) := hidden (HG6.out.trans (HRG.out _ _ HG6.out.size HCx.out))
 have HKP : Hid (∀ v l, OwnB u6 L v l → OwnB u7 L v l) := hidden (fun v l h => h.cfX HCx.out (fun k hk e => by have := own_in h hk; have := e.2; omega))
 have HA7 := hidden (HKP.out _ _ HA6.out)
 have HB7 := hidden (HKP.out _ _ HB6.out)
 have HS7 : Hid (L ≤ u7.heap.size) := hidden (Nat.le_trans HS6.out HCx.out.size)
 have HE7 := hidden (HREN.out u7 HG7.out)
 clear HCx HAS HG6 HL6 HA6 HB6 HS6 HKP HREN HSL
 go_wp2_with (first | (go_at_call 11; refine HE7.out.mono ?_; rintro x1 u8 ⟨so, sn, sc, rfl, HW8, HBx⟩; refine Hid.out ?_))
 apply hidden
 have HG8 : Hid (Below w1.heap.size w1 u8) := hidden (bl_go HG7.out (Nat.le_refl _) HBx.out)
 have HA8 : Hid (OwnB u8 L (.slice ao an ac) X) := hidden (HA7.out.on (Nat.le_refl _) HBx.out)
 have HB8 : Hid (OwnB u8 L (.slice bo bn bc) X) := hidden (HB7.out.on (Nat.le_refl _) HBx.out)
 have HNaw : Hid ((Value.slice ao an ac).ownBlock = none ∨ (Value.slice ao an ac).ownBlock ≠ (Value.slice so sn sc).ownBlock) := hidden (own_two HA7.out HW8.out (Nat.le_refl _))
 have HW8L : Hid (OwnB u8 L (.slice so sn sc) X) := hidden (HW8.out.low HS7.out)
 have HS8 : Hid (L ≤ u8.heap.size) := hidden (Nat.le_trans HS7.out HBx.out.size)
 have HF8 := hidden (HRFI.out u8 HG8.out)
 have k1 := conv_sl (HA8.out.sl2 HXW.out hX6)
 have k2 := conv_sl (HB8.out.sl2 HXW.out hX6)
 have k3 := conv_sl (HW8L.out.sl2 HXW.out hX6)
 obtain ⟨S, hS⟩ : ∃ S, strOfNums X = S := ⟨_, rfl⟩
 rw [hS] at k1 k2 k3
 have HSS := hidden hS
 have eS : (S.toList == S.toList) = true := by simp
 have eE : (E == E) = true := by simp
 have eF : (Fl == Fl) = true := by simp
 clear HBx HE7 HG7 HA7 HB7 HW8 HS7 hS HRFI
 have HEB : Hid (decide (E = 0) = (E == 0)) := hidden (by by_cases h : E = 0 <;> simp [h])
 rw [HEB.out]
 obtain ⟨Zb, hZb⟩ : ∃ Zb, (E == 0) = Zb := ⟨_, rfl⟩
 have eB : (Zb == Zb) = true := by simp
 have eB2 : (Zb != Zb) = false := by simp
 rw [hZb]
 go_wp2_with (first | (go_at_call 12; refine HF8.out.mono ?_; rintro x1 u9 ⟨rfl, HBx⟩; refine Hid.out ?_))
 apply hidden
 have HG9 : Hid (Below w1.heap.size w1 u9) := hidden (bl_go HG8.out (Nat.le_refl _) HBx.out)
 have HA9 : Hid (OwnB u9 L (.slice ao an ac) X) := hidden (HA8.out.on (Nat.le_refl _) HBx.out)
 have HB9 : Hid (OwnB u9 L (.slice bo bn bc) X) := hidden (HB8.out.on (Nat.le_refl _) HBx.out)
 have HW9 : Hid (OwnB u9 L (.slice so sn sc) X) := hidden (HW8L.out.on (Nat.le_refl _) HBx.out)
 have HS9 : Hid (L ≤ u9.heap.size) := hidden (Nat.le_trans HS8.out HBx.out.size)
 have HRH := hidden (HRHA.out u9 r c HRC.out HG9.out)
 clear k1 k2 k3 eE HF8 HBx HG8 HA8 HB8 HW8L HS8 HEB hZb HRHA
 go_wp2_with (first | (go_at_call 13; refine HRH.out.mono ?_; rintro x1 v0 ⟨rfl, HBx⟩; refine Hid.out ?_))
 apply hidden
 have HG0 : Hid (Below w1.heap.size w1 v0) := hidden (bl_go HG9.out (Nat.le_refl _) HBx.out)
 have HA0 : Hid (OwnB v0 L (.slice ao an ac) X) := hidden (HA9.out.on (Nat.le_refl _) HBx.out)
 have HB0 : Hid (OwnB v0 L (.slice bo bn bc) X) := hidden (HB9.out.on (Nat.le_refl _) HBx.out)
 have HW0 : Hid (OwnB v0 L (.slice so sn sc) X) := hidden (HW9.out.on (Nat.le_refl _) HBx.out)
 have HS0 : Hid (L ≤ v0.heap.size) := hidden (Nat.le_trans HS9.out HBx.out.size)
 have HAL : Hid (X.length = an) := hidden (own_len HA0.out)
 have anB : an ≤ 65536 := by rw [← HAL.out]; exact HXL.out
 have anI : (an : Int) ≤ 65536 := by omega
 clear HRH HBx HG9 HA9 HB9 HW9 HS9 eB eB2 eF
 go_wp2_with fail
 go_loopw [24] (fun i wr => ∃ (j : Nat) (l' : List Int), j ≤ an ∧ i = .int .i64 (j : Int) ∧ l'.length = an ∧ Hid (OwnB wr L (.slice ao an ac) l') ∧ Hid (Gr v0 (.slice ao an ac) wr (.slice ao an ac))) (fun i _ => an - (intOf i).toNat)
 case atStart => exact ⟨0, X, by omega, rfl, HAL.out, HA0, hidden (Gr.refl _ _)⟩
 case round =>
  obtain ⟨j, l', hj, rfl, hl', HOA, HGR⟩ := hrel
  have jI : (j : Int) ≤ 65536 := by omega
  by_cases hlt : j < an
  ·obtain ⟨g, rfl⟩ := own_some HOA.out hl' (by omega)
   have hltI : (j : Int) < (an : Int) := by omega
   have hce := own_cell HOA.out hl' hlt
   have hfr := own_free HOA.out hl' j
   have HO2 := hidden (own_set (x := 1) HOA.out hl' hlt)
   have hst : wr.grownBy (wr.setCell ⟨g, j, none⟩ (.int .u8 1)) (some g) := by
    have h' : wr.ownsRow L 5 1 (.slice (some ⟨g, 0, none⟩) an ac) an (By l') := by have := HOA.out; unfold OwnB at this; rw [hl'] at this; exact this
    exact (World.ownsRow.stored h' j (.int .u8 1)).2
   have HG2 : Hid (Gr v0 (.slice (some ⟨g, 0, none⟩) an ac) (wr.setCell ⟨g, j, none⟩ (.int .u8 1)) (.slice (some ⟨g, 0, none⟩) an ac)) := hidden (HGR.out.trans ⟨hst, .inl rfl⟩)
   clear hst HOA HGR
   go_wp2
   go_roundw
   case rel => exact ⟨j + 1, l'.set j 1, by omega, by go_num, by simp [hl'], HO2, HG2⟩
   case measure => simp [intOf]; omega
  ·have hltI : ¬ (j : Int) < (an : Int) := by omega
   have HRL2 : Hid (w1.heap.size ≤ L) := hidden (by have := HRL.out; omega)
   have HGw : Hid (Below w1.heap.size w1 wr) := hidden (HG0.out.trans ((HGR.out.below HA0.out HS0.out).mono HRL2.out))
   have HBw : Hid (OwnB wr L (.slice bo bn bc) X) := hidden (own_keep HB0.out HGR.out (Apt.symm HNab.out))
   have HWw : Hid (OwnB wr L (.slice so sn sc) X) := hidden (own_keep HW0.out HGR.out (Apt.symm HNaw.out))
   have HSw : Hid (L ≤ wr.heap.size) := hidden (Nat.le_trans HS0.out HGR.out.grow.size)
   obtain ⟨y, hy⟩ : ∃ y, wr.alloc (.cells #[.int .u8 2, .int .u8 2, .int .u8 2, .int .u8 2] 5) = y := ⟨_, rfl⟩
   have hby : Below wr.heap.size wr y := by rw [← hy]; exact bl_al (Below.refl _ _) (Nat.le_refl _) _
   have HS4 : Hid (Sl y (some ⟨wr.heap.size, 0, none⟩) 4 4 [2, 2, 2, 2]) := hidden (by rw [← hy]; exact sl_four wr)
   have HAy : Hid (OwnB y L (.slice ao an ac) l') := hidden (HOA.out.on (Nat.le_refl _) hby)
   have HBy : Hid (OwnB y L (.slice bo bn bc) X) := hidden (HBw.out.on (Nat.le_refl _) hby)
   have HWy : Hid (OwnB y L (.slice so sn sc) X) := hidden (HWw.out.on (Nat.le_refl _) hby)
   have HGy : Hid (Below w1.heap.size w1 y) := hidden (bl_go HGw.out (Nat.le_refl _) hby)
   have HSy : Hid (L ≤ y.heap.size) := hidden (Nat.le_trans HSw.out hby.size)
   obtain ⟨N4, hN4⟩ : ∃ N4, an + 4 = N4 := ⟨_, rfl⟩
   have hN4I : (an : Int) + 4 = (N4 : Int) := by omega
   have hN4B : (N4 : Int) ≤ 65540 := by omega
   have HL4 : Hid ((l' ++ [2, 2, 2, 2] : List Int).length = N4) := hidden (by rw [List.length_append, hl', ← hN4]; rfl)
   have HLB : Hid (l'.length + 4 ≤ 140737488355328) := hidden (by omega)
   clear hby HOA HGR HGw HBw HWw HSw HA0 HB0 HW0 hN4
   go_wp2_with (at_builtin; refine app_sl _ rfl _ _ rfl L l' [2, 2, 2, 2] _ _ 4 4 rfl rfl HAy.out HS4.out HLB.out HSy.out ?_; intro v' u12 hO hGx; have HO := hidden hO; have HGx := hidden hGx; clear hO hGx; obtain ⟨go, gc, hv'⟩ := own_slice HO.out; rw [HL4.out] at hv'; subst hv'; refine Hid.out ?_)
   apply hidden
   have HGz : Hid (Below w1.heap.size w1 u12) := hidden (HGy.out.trans ((HGx.out.below HAy.out HSy.out).mono HRL2.out))
   have HBz : Hid (OwnB u12 L (.slice bo bn bc) X) := hidden (own_keep HBy.out HGx.out (Apt.symm HNab.out))
   have HWz : Hid (OwnB u12 L (.slice so sn sc) X) := hidden (own_keep HWy.out HGx.out (Apt.symm HNaw.out))
   have k1 := conv_sl (HBz.out.sl2 HXW.out hX6)
   have k2 := conv_sl (HWz.out.sl2 HXW.out hX6)
   rw [HSS.out] at k1 k2
   have e1 : ((r : Int) == (r : Int)) = true := by simp
   have e2 : (c == c) = true := by simp
   have e3 : ((N4 : Int) == (N4 : Int)) = true := by simp
   have e4 : (MK == MK) = true := by simp
   have e5 : (MV == MV) = true := by simp
   clear hy HGx HO HAy HBy HWy HGy HSy HS4
   go_wp2_with (first
    | (go_at_call 14; refine same_call (HMK.out _) ?_)
    | (go_at_call 15; refine same_call (HRK.out _) ?_)
    | (go_at_call 16; refine same_call (HMV.out _) ?_)
    | (go_at_call 17; refine same_call (HRV.out _) ?_))
   go_ret
   exact ⟨by first | rfl | simp, bl_go HB1.out (Nat.le_refl _) HGz.out⟩
end Go.Proofs.YtlhkinlgolcpaaaGreatDoor

namespace Go.Proofs.YtlhkinlgolcpaaaGreatDoor
set_option maxRecDepth 100000
open Go.ChangeShapes Go.WideShapes Go.ChangeAt Go.RowKit
theorem own : ownKnob Tryz.prog.godebug = none := by kernel_rfl
theorem gTab : Tryz.prog.globalNamed "espalier/ink.steps" = some 1 := by kernel_rfl
theorem gTabType : (Tryz.prog.globals[1]?).map (·.type) = some 151 := by kernel_rfl
theorem cellsR : Tryz.prog.cellsOf 150 = 16 := by kernel_rfl
theorem cellsU : Tryz.prog.cellsOf 84 = 1 := by kernel_rfl
def rowZ (i : Nat) : List Int := ((tabN.drop (16 * i)).take 16).map fun (x : Nat) => (x : Int)
theorem laid_eq {H : Type} : (Rows.laid_espalier_ink_steps : DataW H) = .agg ((List.range 8).map fun i => Lib.tabData .u32 (rowZ i)) := by kernel_rfl
theorem rowZ_at (i r : Nat) (hi : i < 8) (hr : r < 16) : (rowZ i)[r]? = some ((tN (16 * i + r) : Nat) : Int) := by
 have h : ∀ (a : Fin 8) (b : Fin 16), (rowZ a.val)[b.val]? = some ((tN (16 * a.val + b.val) : Nat) : Int) := by decide +kernel
 exact h ⟨i, hi⟩ ⟨r, hr⟩
theorem tab_of_laid {W : World} (h : laidMetH Tryz.prog [("espalier/ink.steps", Rows.laid_espalier_ink_steps)] W) : Tab W := by
 have h' : laidMet Tryz.prog [("espalier/ink.steps", Rows.laid_espalier_ink_steps)] W := h
 obtain ⟨ps, ⟨g', t', cs, fuel, p, q, hg', ht', hvar, hd, _, _⟩, _⟩ := h'
 obtain rfl := Option.some.inj (gTab.symm.trans hg')
 obtain rfl := Option.some.inj (gTabType.symm.trans ht')
 obtain ⟨xs, m, _, hx, _, hxl, hat⟩ := DataW.trod_array Tryz.underlying151 hd
 rw [laid_eq] at hx
 have hxs : (List.range 8).map (fun i => Lib.tabData .u32 (rowZ i)) = xs.map (·.1) := by
  have := congrArg Prod.fst hx
  simpa using this
 rw [cellsR] at hat
 intro j hj
 have e : j = 16 * (j / 16) + j % 16 := by omega
 have hi : j / 16 < 8 := by omega
 have hr : j % 16 < 16 := by omega
 generalize j / 16 = i at *
 generalize j % 16 = r at *
 subst e
 have hxi : xs[i]? = some xs[i] := List.getElem?_eq_getElem (by omega)
 have hfst : xs[i].1 = Lib.tabData .u32 (rowZ i) := by
  have := congrArg (·[i]?) hxs
  simpa [hi, hxl] using this.symm
 have hrow := hat i hi
 rw [hxi] at hrow
 have hc := Lib.cells_of_tab (zs := rowZ i) (p := xs[i].2) (k := .u32) Tryz.underlying150 Tryz.underlying84 cellsU cellsR (hrow.trans (by rw [← hfst]))
 have hcj : cs[16 * i + r]? = some (.int .u32 (tN (16 * i + r))) := by
  have h1 := congrArg (·[r]?) hc
  simp only [List.getElem?_map, rowZ_at i r hi hr, Option.map_some] at h1
  rw [List.getElem?_take_of_lt hr, List.getElem?_drop] at h1
  rw [Nat.mul_comm i 16] at h1
  simpa using h1
 have := World.var?_cell gTab hvar (16 * i + r)
 rw [this]
 simpa using hcj
theorem laidOut : laidOutB Tryz.prog = true := by kernel_rfl
end Go.Proofs.YtlhkinlgolcpaaaGreatDoor

namespace Go.Proofs.YtlhkinlgolcpaaaGreatDoor
set_option maxRecDepth 100000
open Go.ChangeShapes Go.WideShapes Go.ChangeAt Go.RowKit
theorem bytesU8 : Tryz.prog.bytesOf 5 = 1 := by kernel_rfl
theorem cells5 : Tryz.prog.cellsOf 5 = 1 := by kernel_rfl
theorem bulk_lits {H : Type} (k : IntKind) (zs : List Int) : Rows.uptoBulkAll (lits (H := H) k zs) = zs.length := by
 induction zs with
 | nil => rfl
 | cons z zs ih =>
  show Rows.uptoBulkAll (DataW.lit (.int k z) :: lits k zs) = _
  simp only [Rows.uptoBulkAll, Rows.uptoBulk, ih, List.length_cons]
  omega
theorem cellsSl : Tryz.prog.cellsOf 25 = 1 := by kernel_rfl
theorem weights_part {H : Type} {t : TypeId} {d : DataW H} {n : Nat} : ∀ {ds : List (DataW H)}, d ∈ ds → n ∈ d.weights Tryz.prog t → n ∈ DataW.weightsAll Tryz.prog t ds
 | [], h, _ => by cases h
 | x :: ds, h, hn => by
  simp only [DataW.weightsAll, List.mem_append]
  rcases List.mem_cons.1 h with rfl | h
  ·exact .inl hn
  ·exact .inr (weights_part h hn)
theorem cellsCell : Tryz.prog.cellsOf 41 = 5 := by kernel_rfl
theorem cellsInt : Tryz.prog.cellsOf 3 = 1 := by kernel_rfl
theorem bytesCell : Tryz.prog.bytesOf 41 = 72 := by kernel_rfl
theorem lit_i64 {n : Int} (h : (Lit.int .i64 n).wf = true) : -9223372036854775808 ≤ n ∧ n ≤ 9223372036854775807 := by
 simp only [Lit.wf, Bool.and_eq_true, decide_eq_true_eq] at h
 have h1 : IntKind.i64.min = -9223372036854775808 := rfl
 have h2 : IntKind.i64.max = 9223372036854775807 := rfl
 omega
end Go.Proofs.YtlhkinlgolcpaaaGreatDoor
