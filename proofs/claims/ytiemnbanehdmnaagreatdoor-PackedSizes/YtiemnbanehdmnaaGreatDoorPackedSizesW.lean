/- The walk of the law PackedSizes. -/
import Derived.Test.YtiemnbanehdmnaaGreatDoorJn
import Derived.Test.YtiemnbanehdmnaaGreatDoorJo
import Derived.Test.YtiemnbanehdmnaaGreatDoorJm
namespace Go.Proofs.YtiemnbanehdmnaaGreatDoor
open Go.RowKit

set_option maxRecDepth 100000 in
theorem LentC.on {w w' : World} {R n : Nat} {cs : List Cl} (h : LentC w R cs n) (hb : Below w.heap.size w w') : LentC w' R cs n := by
  obtain ⟨g, h1, h2, h3, h4⟩ := h
  have hR := h2.lt
  exact ⟨g, h1.keep (Nat.le_refl _) hb.size (fun j _ => hb.cell (p := ⟨R, j, none⟩) hR) (fun a _ ha => hb.block _ (h1.lt a ha)), h2.on hb, (hb.cell (p := ⟨R, _, none⟩) hR).trans h3, (hb.cell (p := ⟨R, _, none⟩) hR).trans h4⟩
set_option maxRecDepth 100000 in
theorem LentC.slc {w : World} {R n : Nat} {cs : List Cl} (h : LentC w R cs n) (hl : cs.length = n) (hn : n ≤ 900000) (hw : ∀ c ∈ cs, c.Wf) (hkv : ∀ c ∈ cs, c.key.length + c.val.length ≤ 35184372088832) : SlC w (some ⟨R, 0, none⟩) n (n + 2) cs := by
  obtain ⟨g, h1, h2, _⟩ := h
  refine ⟨hl, by omega, by omega, (by intro h; cases h), .inr ⟨R, 0, rfl, h2.lt, fun i c hc => ?_⟩⟩
  have hi := (List.getElem?_eq_some_iff.1 hc).1
  have hm := List.mem_of_getElem? hc
  have hb := hkv c hm
  obtain ⟨a0, a1, a2, a3, a4, a5, a6⟩ := h1.at_ i c (by omega) (by omega) hc
  rw [Nat.zero_add]
  have s1 := own_head (m := c.key.length) a5 ((hw c hm).1.append (by unfold Wf; decide)) (by simp) (by omega) (by omega) (c.key.length + 3) (by omega)
  have s2 := own_head (m := c.val.length) a6 ((hw c hm).2.append (by unfold Wf; decide)) (by simp) (by omega) (by omega) (c.val.length + 3) (by omega)
  rw [List.take_left] at s1 s2
  exact ⟨_, _, _, _, a0, a1, a2, a3, a4, s1, s2⟩
set_option maxRecDepth 100000 in
theorem gS_mem {cs : List Cl} {c : Cl} (h : c ∈ cs) : 1 + c.key.length + c.val.length ≤ gS cs := by
  induction cs with
  | nil => cases h
  | cons d r ih =>
    rw [gS_cons]
    rcases List.mem_cons.1 h with rfl | h
    · omega
    · have := ih h
      omega

set_option maxRecDepth 100000 in
set_option maxHeartbeats 4000000 in
theorem walk_PackedSizes (kd : Int) (co : Option Addr) (cn cc : Nat) (cs : List Cl) (w : World) (ht : Tab w) (h0 : 1 < w.heap.size) (hs : SlC w co cn cc cs) :
    Calls Tryz.prog 3 #[.int .i64 kd, .slice co cn cc] w fun e w' => e = .returned (.bool true) ∧ Below w.heap.size w w' := by
  have HS := hidden hs
  have HT := hidden ht
  have HLEN := hidden hs.hlen
  have HWF := hidden hs.wf
  have HG := hidden (greatQ_any co cn cc cs w hs)
  clear hs ht
  go_enter Tryz.func3, Tryz.ntmps3
  go_wp2_with (first | (go_at_call 7; refine HG.out.mono ?_; rintro e w1 ⟨b, rfl, HB1, HGQ⟩; refine Hid.out ?_))
  apply hidden
  clear HG
  cases b with
  | true =>
    go_wp2
    go_ret
    exact ⟨rfl, HB1.out⟩
  | false =>
    obtain ⟨hcn, hgs⟩ := HGQ.out rfl
    have HKV : Hid (∀ c ∈ cs, c.key.length + c.val.length ≤ 35184372088832) := hidden fun c hc => by have := gS_mem hc; omega
    have hzb : szQ kd (shP kd cs).length cs ≤ 1099511627776 := by have := szQ_gS kd cs; omega
    have HZB := hidden hzb
    have hcI : (cn : Int) ≤ 300000 := by omega
    have hc9 : cn ≤ 900000 := by omega
    have HAW := hidden (live_any w1 (HT.out.on HB1.out h0) (Nat.lt_of_lt_of_le h0 HB1.out.size))
    clear HGQ hgs hzb
    go_wp2_with (first | (go_at_call 8; refine HAW.out.mono ?_; rintro e w2 ⟨rfl, hb2⟩; have HB2 := hidden hb2; clear hb2; refine Hid.out ?_))
    apply hidden
    have HW2 : Hid (Below w.heap.size w w2) := hidden (bl_go HB1.out (Nat.le_refl _) HB2.out)
    clear HAW HB1 HB2
    have HLE := hidden (lentC_any co cn cc cs w2 (HS.out.on HW2.out) hc9)
    have hsz2 := HW2.out.size
    obtain ⟨R, hR⟩ : ∃ R, w2.heap.size = R := ⟨_, rfl⟩
    rw [hR] at HLE hsz2
    go_wp2_with (first | (go_at_call 9; refine HLE.out.mono ?_; rintro e w3 ⟨rfl, HL3, HB3⟩; refine Hid.out ?_))
    apply hidden
    have HW3 : Hid (Below w.heap.size w w3) := hidden (HW2.out.trans (HB3.out.mono hsz2))
    have HPS := hidden (psize_any kd (some ⟨R, 0, none⟩) cn (cn + 2) cs w3 (HL3.out.slc HLEN.out hc9 HWF.out HKV.out) HZB.out)
    obtain ⟨Z, hZ⟩ : ∃ Z : Nat, szQ kd (shP kd cs).length cs = Z := ⟨_, rfl⟩
    rw [hZ] at HPS
    have hZb : (Z : Int) ≤ 1099511627776 := by have := HZB.out; omega
    clear HLE HB3 HW2
    go_wp2_with (first | (go_at_call 10; refine HPS.out.mono ?_; rintro e w4 ⟨rfl, HB4⟩; refine Hid.out ?_))
    apply hidden
    have HW4 : Hid (Below w.heap.size w w4) := hidden (bl_go HW3.out (Nat.le_refl _) HB4.out)
    have HL4 := hidden (HL3.out.on HB4.out)
    have HRS := hidden (rsize_any kd co cn cc cs w4 (HS.out.on HW4.out) hc9 HKV.out HZB.out)
    rw [hZ] at HRS
    clear HPS HB4 HL3 HW3
    go_wp2_with (first | (go_at_call 11; refine HRS.out.mono ?_; rintro e w5 ⟨rfl, HB5⟩; refine Hid.out ?_))
    apply hidden
    have HW5 : Hid (Below w.heap.size w w5) := hidden (bl_go HW4.out (Nat.le_refl _) HB5.out)
    have HL5 := hidden (HL4.out.on HB5.out)
    have HAS := hidden (asLentC_any R cn co cc cs w5 HL5.out (fun u hu => HS.out.on (HW5.out.trans (hu.mono hsz2))) hc9 HKV.out)
    clear HRS HB5 HL4 HW4 hZ
    go_wp2_with (first | (go_at_call 12; refine HAS.out.mono ?_; rintro e w6 ⟨rfl, HB6⟩; refine Hid.out ?_))
    apply hidden
    have HW6 : Hid (Below w.heap.size w w6) := hidden (HW5.out.trans (HB6.out.mono hsz2))
    clear HAS HB6 HW5 HL5
    go_wp2
    go_ret
    exact ⟨by simp, HW6.out⟩
end Go.Proofs.YtiemnbanehdmnaaGreatDoor
