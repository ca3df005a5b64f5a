/- The walk of the law PackedSizes. -/
import Derived.Test.YtpjgmepafekhkaaGreatDoorJm
import Derived.Test.YtpjgmepafekhkaaGreatDoorJu
import Derived.Test.YtpjgmepafekhkaaGreatDoorIy
namespace Go.Proofs.YtpjgmepafekhkaaGreatDoor
open Go.RowKit

set_option maxRecDepth 100000 in
theorem LentC.on {w w' : World} {R n : Nat} {cs : List Cl} (h : LentC w R cs n) (hb : Below w.heap.size w w') : LentC w' R cs n := by
  obtain ⟨g, h1, h2, h3, h4⟩ := h
  have hR := h2.lt
  exact ⟨g, h1.keep (Nat.le_refl _) hb.size (fun j _ => hb.cell (p := ⟨R, j, none⟩) hR) (fun a _ ha => hb.block _ (h1.lt a ha)), h2.on hb, (hb.cell (p := ⟨R, _, none⟩) hR).trans h3, (hb.cell (p := ⟨R, _, none⟩) hR).trans h4⟩
set_option maxRecDepth 100000 in
theorem LentC.slc {w : World} {R n : Nat} {cs : List Cl} (h : LentC w R cs n) (hl : cs.length = n) (hn : n ≤ 900000) (hw : ∀ c ∈ cs, c.Wf) (hkv : ∀ c ∈ cs, c.key.length + c.val.length ≤ 35184372088832) : SlC w (some ⟨R, 0, none⟩) n (n + 2) cs := by
  obtain ⟨g, h1, h2, _⟩ := h
  refine ⟨hl, by omega, by omega, (by intro h; cases h), .inr ⟨R, 0, rfl, h2.lt, fun i c hc => ?_⟩⟩
  have hi := (List.getElem?_eq_some_iff.1 hc).1
  have hm := List.mem_of_getElem? hc
  have hb := hkv c hm
  obtain ⟨a0, a1, a2, a3, a4, a5, a6⟩ := h1.at_ i c (by omega) (by omega) hc
  rw [Nat.zero_add]
  have s1 := own_head (m := c.key.length) a5 ((hw c hm).1.append (by unfold Wf; decide)) (by simp) (by omega) (by omega) (c.key.length + 3) (by omega)
  have s2 := own_head (m := c.val.length) a6 ((hw c hm).2.append (by unfold Wf; decide)) (by simp) (by omega) (by omega) (c.val.length + 3) (by omega)
  rw [List.take_left] at s1 s2
  exact ⟨_, _, _, _, a0, a1, a2, a3, a4, s1, s2⟩
set_option maxRecDepth 100000 in
theorem gS_mem {cs : List Cl} {c : Cl} (h : c ∈ cs) : 1 + c.key.length + c.val.length ≤ gS cs := by
  induction cs with
  | nil => cases h
  | cons d r ih =>
    rw [gS_cons]
    rcases List.mem_cons.1 h with rfl | h
    · omega
    · have := ih h
      omega

end Go.Proofs.YtpjgmepafekhkaaGreatDoor

/- The law's asLent (layer 7): only what was lent turns. -/

namespace Go.Proofs.YtpjgmepafekhkaaGreatDoor
open Go.RowKit

/-- Between R and L. -/
def Bt (R L k : Nat) : Prop := R ≤ k ∧ k < L
set_option maxRecDepth 100000 in
theorem cf_grown {w w' : World} {g : Nat} {F : Nat → Prop} (h : w.grownBy w' (some g)) (hg : F g) : Cf F w w' := ⟨h.os, h.tape, h.output, h.size, fun k hk hf => h.block k hk (fun e => hf (by injection e with e; rw [e]; exact hg))⟩
set_option maxRecDepth 100000 in
theorem sets5_cf {b : Nat} {F : Nat → Prop} (hb : F b) : ∀ (vs : List Value) (i : Nat) (w : World), Cf F w (w.setCells b i vs)
  | [], _, w => Cf.refl _ w
  | v :: r, i, w => (Cf.setCell (F := F) w (p := ⟨b, i, none⟩) hb v).go (sets5_cf hb r (i + 1) _)
/-- Lent cells, all below L. -/
def LentL (w : World) (R : Nat) (cs : List Cl) (n L : Nat) : Prop :=
  ∃ g, LnC w R cs g 0 n ∧ RowC w R (n + 2) ∧ w.cell? ⟨R, n * 5 + 1, none⟩ = some (.int .i64 (-7)) ∧ w.cell? ⟨R, (n + 1) * 5 + 1, none⟩ = some (.int .i64 (-8)) ∧ (∀ a, a < 2 * n → g a < L) ∧ R < L
set_option maxRecDepth 100000 in
theorem LentC.toL {w : World} {R n : Nat} {cs : List Cl} (h : LentC w R cs n) : LentL w R cs n w.heap.size := by
  obtain ⟨g, h1, h2, h3, h4⟩ := h
  exact ⟨g, h1, h2, h3, h4, h1.lt, h2.lt⟩
set_option maxRecDepth 100000 in
theorem LentL.on {w w' : World} {R n L : Nat} {cs : List Cl} (h : LentL w R cs n L) (hb : Below w.heap.size w w') : LentL w' R cs n L := by
  obtain ⟨g, h1, h2, h3, h4, h5, h6⟩ := h
  have hR := h2.lt
  exact ⟨g, h1.keep (Nat.le_refl _) hb.size (fun j _ => hb.cell (p := ⟨R, j, none⟩) hR) (fun a _ ha => hb.block _ (h1.lt a ha)), h2.on hb, (hb.cell (p := ⟨R, _, none⟩) hR).trans h3, (hb.cell (p := ⟨R, _, none⟩) hR).trans h4, h5, h6⟩
set_option maxRecDepth 100000 in
theorem LentL.toC {w : World} {R n L : Nat} {cs : List Cl} (h : LentL w R cs n L) : LentC w R cs n := by
  obtain ⟨g, h1, h2, h3, h4, _⟩ := h
  exact ⟨g, h1, h2, h3, h4⟩
set_option maxHeartbeats 4000000 in
set_option maxRecDepth 100000 in
theorem asLentL_any (Lz R n : Nat) (ao : Option Addr) (cap : Nat) (cs : List Cl) (w : World) (hL : LentL w R cs n Lz) (hs : ∀ u, Below R w u → SlC u ao n cap cs) (hn : n ≤ 900000) (hkv : ∀ c ∈ cs, c.key.length + c.val.length ≤ 35184372088832) :
    Calls Tryz.prog 11 #[.slice (some ⟨R, 0, none⟩) n (n + 2), .slice ao n cap] w fun e w' => e = .returned (.bool true) ∧ Hid (Below R w w') ∧ Hid (Cf (Bt R Lz) w w') := by
  have HS := hidden hs
  have HKV := hidden hkv
  obtain ⟨g, hLn, hR, m7, m8, hgl, hrl⟩ := hL
  have HGL := hidden hgl
  have HRL := hidden hrl
  clear hgl hrl
  have HL := hidden hLn
  have HR := hidden hR
  clear hs hkv hLn hR
  go_enter Tryz.func11, Tryz.ntmps11
  go_wp2_with fail
  clear m7 m8
  go_loopw [7, 8] (fun v i wr => ∃ j : Nat, j ≤ n ∧ v = .bool true ∧ i = .int .i64 j ∧ Hid (LnC wr R cs g j n) ∧ Hid (RowC wr R (n + 2)) ∧ Hid (Below R w wr) ∧ Hid (Cf (Bt R Lz) w wr)) (fun _ i _ => n - (RowKit.intOf i).toNat)
  case atStart => exact ⟨0, by omega, rfl, rfl, HL, HR, hidden (Below.refl _ _), hidden (Cf.refl _ _)⟩
  case round =>
    clear HL HR
    obtain ⟨j, hj, rfl, rfl, HL, HR, HB, HCF⟩ := hrel
    have bj : (j : Int) ≤ 900000 := by omega
    by_cases hlt : j < n
    · have hltI : (j : Int) < (n : Int) := by omega
      have hltJ : (j : Int) < (n : Int) + 2 := by omega
      obtain ⟨b, off, c, ka, kc, va, vc, rfl, hbl, hci, c0, c1, c2, c3, c4, hk1, hv1⟩ := (HS.out wr HB.out).item j hlt
      obtain ⟨a0, a1, a2, a3, a4, a5, a6⟩ := HL.out.at_ j c (Nat.le_refl _) hlt hci
      have g1 := HL.out.gt (2 * j) (by omega)
      have g2 := HL.out.gt (2 * j + 1) (by omega)
      have g3 := HL.out.mono (2 * j) (2 * j + 1) (by omega) (by omega)
      have hkb := HKV.out c (List.mem_of_getElem? hci)
      have HA1 := hidden (asLent_on (g (2 * j)) R c.key.length ka kc c.key wr a5 hk1 (by omega))
      have HA6 := hidden a6
      have HCI := hidden hci
      have HAT := hidden (And.intro a1 (And.intro a2 (And.intro a3 a4)))
      have HRr := HR.out.lt
      have hsz := HB.out.size
      obtain ⟨kn, hkn⟩ : ∃ kn, c.key.length = kn := ⟨_, rfl⟩
      rw [hkn] at HA1 a0 c0 hkb
      obtain ⟨G1, hG1⟩ : ∃ G, g (2 * j) = G := ⟨_, rfl⟩
      obtain ⟨G2, hG2⟩ : ∃ G, g (2 * j + 1) = G := ⟨_, rfl⟩
      rw [hG1] at HA1 a0 g1 g3
      rw [hG2] at HA6 HAT g2 g3
      have HG := hidden (And.intro hG1 hG2)
      clear a1 a2 a3 a4 a5 a6 c1 c2 c3 c4 hk1 hv1 hci hG1 hG2 hkn
      go_wp2_with fail
      go_region_with (first | (go_at_call 19; refine (HA1.out _ ?_).mono ?_; (repeat (first | exact Below.refl _ _ | apply Below.drew | apply below_drewN)); rintro e w2 ⟨rfl, hg2⟩))
      all_goals
        have HB2 : Hid (Below R w w2) := hidden (HB.out.trans (grown_below hg2 (by omega) (fun k hk => by injection hk with hk; omega)))
        have HC2 : Hid (Cf (Bt R Lz) w w2) := hidden (HCF.out.go (cf_grown hg2 ⟨by omega, by have := HGL.out (2 * j) (by omega); rw [HG.out.1] at this; exact this⟩))
        obtain ⟨b', off', c', ka', kc', va', vc', hao, hbl', hci', _, _, c2, _, _, _, hv2⟩ := (HS.out w2 HB2.out).item j hlt
        rw [HCI.out] at hci'
        injection hci' with hcc
        subst hcc
        injection hao with hao
        injection hao with h1 h2
        subst h1 h2
        have hO2 : OwnB w2 R (.slice (some ⟨G2, 0, none⟩) (c.val.length + 3) (c.val.length + 3)) (c.val ++ [71, 72, 73]) := World.ownsRow.kept HA6.out hg2 (.inr (by simp [Value.ownBlock]; omega))
        have HA2 := hidden (asLent_on G2 R c.val.length va' vc' c.val w2 hO2 hv2 (by omega))
        have hR2 := grown_row HR.out hg2 (by omega)
        have hcl : ∀ i v, wr.cell? ⟨R, i, none⟩ = some v → w2.cell? ⟨R, i, none⟩ = some v := fun i v h => hg2.cell h (by simp; omega)
        have HAT2 := hidden (And.intro (hcl _ _ HAT.out.1) (And.intro (hcl _ _ HAT.out.2.1) (And.intro (hcl _ _ HAT.out.2.2.1) (hcl _ _ HAT.out.2.2.2))))
        have a2 := HAT2.out.2.1
        have HG12 : Hid (∀ a, 2 * (j + 1) ≤ a → a < 2 * n → w2.heap[g a]? = wr.heap[g a]?) := hidden fun a h1 h2 => by
          have := HL.out.mono (2 * j) a (by omega) h2
          rw [HG.out.1] at this
          exact hg2.block _ (HL.out.lt a h2) (by simp; omega)
        have hsz2 := HB2.out.size
        have hz12 := hg2.size
        obtain ⟨vn, hvn⟩ : ∃ vn, c.val.length = vn := ⟨_, rfl⟩
        rw [hvn] at HA2 a2 c2 hkb
        have HR2 := hidden hR2
        have hRr2 := hR2.lt
        have HCL := hidden hcl
        clear HA1 a0 c0 hg2 hv2 hO2 HA6 HAT hbl' hcl hR2 hvn
        go_wp2_with fail
        go_region_with (first | (go_at_call 19; refine (HA2.out _ ?_).mono ?_; (repeat (first | exact Below.refl _ _ | apply Below.drew | apply below_drewN)); rintro e w3 ⟨rfl, hg3⟩))
        all_goals
          have HB3 : Hid (Below R w w3) := hidden (HB2.out.trans (grown_below hg3 (by omega) (fun k hk => by injection hk with hk; omega)))
          have HC3 : Hid (Cf (Bt R Lz) w w3) := hidden (HC2.out.go (cf_grown hg3 ⟨by omega, by have := HGL.out (2 * j + 1) (by omega); rw [HG.out.2] at this; exact this⟩))
          obtain ⟨b3, off3, c3, ka3, kc3, va3, vc3, hao, hbl3, hci', _, d1, _, d3, d4, _, _⟩ := (HS.out w3 HB3.out).item j hlt
          rw [HCI.out] at hci'
          injection hci' with hcc
          subst hcc
          injection hao with hao
          injection hao with h1 h2
          subst h1 h2
          have hcl3 : ∀ i v, w2.cell? ⟨R, i, none⟩ = some v → w3.cell? ⟨R, i, none⟩ = some v := fun i v h => hg3.cell h (by simp; omega)
          have a1 := hcl3 _ _ HAT2.out.1
          have a3 := hcl3 _ _ HAT2.out.2.2.1
          have a4 := hcl3 _ _ HAT2.out.2.2.2
          have HR3 := hidden (grown_row HR2.out hg3 (by omega))
          have HL3 : Hid (LnC w3 R cs g (j + 1) n) := hidden (HL.out.keep (by omega) (by have := hg3.size; omega) (fun i hi => by
              obtain ⟨v, hv⟩ := Option.isSome_iff_exists.1 (HR.out.cell i (by omega))
              rw [hv]
              exact hcl3 _ _ (HCL.out _ _ hv)) (fun a h1 h2 => by
              have := HL.out.mono (2 * j + 1) a (by omega) h2
              rw [HG.out.2] at this
              rw [hg3.block _ (Nat.lt_of_lt_of_le (HL.out.lt a h2) hz12) (by simp; omega)]
              exact HG12.out a h1 h2))
          obtain ⟨kd, hkd⟩ : ∃ kd, c.kd = kd := ⟨_, rfl⟩
          obtain ⟨pg, hpg⟩ : ∃ pg, c.pg = pg := ⟨_, rfl⟩
          obtain ⟨ct, hct⟩ : ∃ ct, c.ct = ct := ⟨_, rfl⟩
          rw [hkd] at a1 d1
          rw [hpg] at a3 d3
          rw [hct] at a4 d4
          clear HA2 a2 c2 hg3 hbl3 hcl3 HCL HG12 HL HR HR2 HB HB2 HAT2 hkd hpg hct
          go_wp2_with fail
          go_quiet (fail)
          go_wp2
          go_roundw
          case rel => exact ⟨j + 1, by omega, by simp, by go_num, hidden (by first | exact HL3.out | exact HL3.out.drew _), hidden (by exact HR3.out), hidden (by first | exact HB3.out | exact bl_dr HB3.out _), hidden (by first | exact HC3.out | exact HC3.out.go (Cf.drew _ _ _))⟩
          case measure => simp [RowKit.intOf]; omega
    · clear HL
      go_wp2_with fail
      go_loopw [11] (fun i wq => ∃ t : Nat, t ≤ n + 2 ∧ i = .int .i64 t ∧ Hid (RowC wq R (n + 2)) ∧ Hid (Below R w wq) ∧ Hid (Cf (Bt R Lz) w wq)) (fun i _ => n + 2 - (RowKit.intOf i).toNat)
      case atStart => exact ⟨0, by omega, rfl, HR, HB, HCF⟩
      case round =>
        clear HR HB HCF
        obtain ⟨t, ht, rfl, HR, HB, HCF⟩ := hrel
        have bt : (t : Int) ≤ 900002 := by omega
        by_cases htl : t < n + 2
        · have htI : (t : Int) < (n : Int) + 2 := by omega
          go_wp2_with (refine put_cell (by rfl) _ _ (by rfl) R (t * 5) (n + 2) none none 0 0 0 0 (-9) 0 0 HR.out (by rfl) (by rfl) (by omega) ?_; intro w2 HU2; refine Hid.out ?_)
          apply hidden
          have HR2 : Hid (RowC w2 R (n + 2)) := hidden (by rw [HU2.out]; exact RowC.sets _ _ _ HR.out)
          have HB2 : Hid (Below R w w2) := hidden (by rw [HU2.out]; exact HB.out.trans (sets5_below (j := 0) _ _ _))
          have HC2 : Hid (Cf (Bt R Lz) w w2) := hidden (by rw [HU2.out]; exact HCF.out.go (sets5_cf ⟨Nat.le_refl _, HRL.out⟩ _ _ _))
          clear HU2 HR HB HCF
          go_wp2
          go_roundw
          case rel => exact ⟨t + 1, by omega, by go_num, HR2, HB2, HC2⟩
          case measure => simp [RowKit.intOf]; omega
        · have htI : ¬ (t : Int) < (n : Int) + 2 := by omega
          go_wp2
          go_ret
          exact ⟨rfl, HB, HCF⟩
end Go.Proofs.YtpjgmepafekhkaaGreatDoor
