import Derived.Test.YtlhkinlgolcpaaaGreatDoorJ37
import Derived.Test.YtlhkinlgolcpaaaGreatDoorJ16
namespace Go.Proofs.YtlhkinlgolcpaaaGreatDoor
set_option maxRecDepth 100000
open Go.RowKit
structure Ln6 (w : World) (R : Nat) (cs : List Cl) (g : Nat → Nat) (lo k : Nat) : Prop where
 at_ : ∀ (i : Nat) (c : Cl), lo ≤ i → i < k → cs[i]? = some c →
  w.cell? ⟨R, i * 5, none⟩ = some (.slice (some ⟨g (2 * i), 0, none⟩) c.key.length (c.key.length + 9)) ∧ w.cell? ⟨R, i * 5 + 1, none⟩ = some (.int .i64 c.kd) ∧ w.cell? ⟨R, i * 5 + 2, none⟩ = some (.slice (some ⟨g (2 * i + 1), 0, none⟩) c.val.length (c.val.length + 9)) ∧ w.cell? ⟨R, i * 5 + 3, none⟩ = some (.int .i64 c.pg) ∧ w.cell? ⟨R, i * 5 + 4, none⟩ = some (.int .i64 c.ct) ∧
  Bk w (g (2 * i)) (c.key ++ mks 9) ∧ Bk w (g (2 * i + 1)) (c.val ++ mks 9)
 mono : ∀ a b, a < b → b < 2 * k → g a < g b
 gt : ∀ a, a < 2 * k → R < g a
 lt : ∀ a, a < 2 * k → g a < w.heap.size
theorem Ln6.keep {w w' : World} {R lo lo' k : Nat} {cs : List Cl} {g : Nat → Nat} (h : Ln6 w R cs g lo k) (hl : lo ≤ lo') (hz : w.heap.size ≤ w'.heap.size) (h1 : ∀ j, 5 * lo' ≤ j → j < 5 * k → w'.cell? ⟨R, j, none⟩ = w.cell? ⟨R, j, none⟩) (h2 : ∀ a, 2 * lo' ≤ a → a < 2 * k → w'.heap[g a]? = w.heap[g a]?) : Ln6 w' R cs g lo' k := by
 refine ⟨fun i c hi hk hc => ?_, h.mono, h.gt, fun a ha => Nat.lt_of_lt_of_le (h.lt a ha) hz⟩
 obtain ⟨a0, a1, a2, a3, a4, a5, a6⟩ := h.at_ i c (by omega) hk hc
 exact ⟨(h1 _ (by omega) (by omega)).trans a0, (h1 _ (by omega) (by omega)).trans a1, (h1 _ (by omega) (by omega)).trans a2, (h1 _ (by omega) (by omega)).trans a3, (h1 _ (by omega) (by omega)).trans a4, (h2 _ (by omega) (by omega)).trans a5, (h2 _ (by omega) (by omega)).trans a6⟩
theorem Ln6.step {wr w5 w6 : World} {R k n G1 G2 : Nat} {cs : List Cl} {c : Cl} {g : Nat → Nat} (h : Ln6 wr R cs g 0 k) (hr : RowC w5 R (n + 3)) (hk : k < n) (hc : cs[k]? = some c) (hR : R < wr.heap.size)
  (e5 : ∀ b, b < wr.heap.size → w5.heap[b]? = wr.heap[b]?) (h1 : wr.heap.size < G1) (h2 : G1 < G2)
  (o1 : Bk w5 G1 (c.key ++ mks 9)) (o2 : Bk w5 G2 (c.val ++ mks 9))
  (e6 : w6 = w5.setCells R (k * 5) [.slice (some ⟨G1, 0, none⟩) c.key.length (c.key.length + 9), .int .i64 c.kd, .slice (some ⟨G2, 0, none⟩) c.val.length (c.val.length + 9), .int .i64 c.pg, .int .i64 c.ct]) :
  Ln6 w6 R cs (fun a => if a < 2 * k then g a else if a = 2 * k then G1 else G2) 0 (k + 1) := by
 have l1 : G1 < w5.heap.size := lt_some o1
 have l2 : G2 < w5.heap.size := lt_some o2
 have hsz : w6.heap.size = w5.heap.size := by rw [e6, sets5_size]
 have hob : ∀ b, b < w5.heap.size → b ≠ R → w6.heap[b]? = w5.heap[b]? := fun b hb hne => by rw [e6]; exact World.heap_setCells_other _ _ _ _ hb hne
 refine ⟨fun i d _ hi hd => ?_, fun a b hab hb => ?_, fun a ha => ?_, fun a ha => ?_⟩
 ·by_cases hik : i < k
  ·obtain ⟨a0, a1, a2, a3, a4, a5, a6⟩ := h.at_ i d (by omega) hik hd
   have hcl : ∀ j, j < 5 * k → w6.cell? ⟨R, j, none⟩ = wr.cell? ⟨R, j, none⟩ := fun j hj => by
    rw [e6, World.cell?_setCells_out R _ _ w5 _ (fun _ _ => .inl (by simp only; omega))]
    exact World.cell?_of_block (e5 R hR)
   simp only [show 2 * i < 2 * k by omega, show 2 * i + 1 < 2 * k by omega, if_true]
   have b1 := h.lt (2 * i) (by omega)
   have b2 := h.lt (2 * i + 1) (by omega)
   have c1 := h.gt (2 * i) (by omega)
   have c2 := h.gt (2 * i + 1) (by omega)
   refine ⟨(hcl _ (by omega)).trans a0, (hcl _ (by omega)).trans a1, (hcl _ (by omega)).trans a2, (hcl _ (by omega)).trans a3, (hcl _ (by omega)).trans a4, ?_, ?_⟩
   ·exact ((hob _ (by omega) (by omega)).trans (e5 _ b1)).trans a5
   ·exact ((hob _ (by omega) (by omega)).trans (e5 _ b2)).trans a6
  ·obtain rfl : i = k := by omega
   rw [hc] at hd
   injection hd with hd
   subst hd
   simp only [show ¬ 2 * i < 2 * i by omega, show ¬ 2 * i + 1 < 2 * i by omega, show ¬ 2 * i + 1 = 2 * i by omega, if_true, if_false]
   have hcs := World.rangeAt_setCells_same w5 R (i * 5) [.slice (some ⟨G1, 0, none⟩) c.key.length (c.key.length + 9), .int .i64 c.kd, .slice (some ⟨G2, 0, none⟩) c.val.length (c.val.length + 9), .int .i64 c.pg, .int .i64 c.ct] (hr.there (by omega))
   rw [← e6] at hcs
   exact ⟨hcs 0 _ rfl, hcs 1 _ rfl, hcs 2 _ rfl, hcs 3 _ rfl, hcs 4 _ rfl, (hob _ l1 (by omega)).trans o1, (hob _ l2 (by omega)).trans o2⟩
 ·by_cases hb2 : b < 2 * k
  ·have := h.mono a b hab hb2
   simp only [show a < 2 * k by omega, hb2, if_true]
   exact this
  ·by_cases ha2 : a < 2 * k
   ·have := h.lt a ha2
    simp only [ha2, hb2, if_true, if_false]
    split <;> omega
   ·obtain rfl : a = 2 * k := by omega
    obtain rfl : b = 2 * k + 1 := by omega
    simp only [hb2, ha2, show ¬ 2 * k + 1 = 2 * k by omega, if_true, if_false]
    exact h2
 ·by_cases ha2 : a < 2 * k
  ·simp only [ha2, if_true]
   exact h.gt a ha2
  ·simp only [ha2, if_false]
   split <;> omega
 ·rw [hsz]
  by_cases ha2 : a < 2 * k
  ·simp only [ha2, if_true]
   have := h.lt a ha2
   have : wr.heap.size < w5.heap.size := by omega
   omega
  ·simp only [ha2, if_false]
   split <;> assumption
def Lent6 (w : World) (R : Nat) (cs : List Cl) (n L : Nat) : Prop :=
 ∃ g, Ln6 w R cs g 0 n ∧ RowC w R (n + 3) ∧ (∀ j, n ≤ j → j < n + 3 → w.cell? ⟨R, j * 5 + 1, none⟩ = some (.int .i64 (-7))) ∧ (∀ a, a < 2 * n → g a < L) ∧ R < L
theorem Lent6.on {w w' : World} {R n L : Nat} {cs : List Cl} (h : Lent6 w R cs n L) (hb : Below w.heap.size w w') : Lent6 w' R cs n L := by
 obtain ⟨g, h1, h2, h3, h5, h6⟩ := h
 have hR := h2.lt
 exact ⟨g, h1.keep (Nat.le_refl _) hb.size (fun j _ _ => hb.cell (p := ⟨R, j, none⟩) hR) (fun a _ ha => hb.block _ (h1.lt a ha)), h2.on hb, fun j h1 h2 => (hb.cell (p := ⟨R, _, none⟩) hR).trans (h3 j h1 h2), h5, h6⟩
set_option maxHeartbeats 2000000 in
theorem lent6_any (ao : Option Addr) (n cap : Nat) (cs : List Cl) (w : World) (hs : SlC w ao n cap cs) (hn : n ≤ 900000) :
  Calls Tryz.prog 5 #[.slice ao n cap] w fun e w' => e = .returned (.slice (some ⟨w.heap.size, 0, none⟩) n (n + 3)) ∧ Hid (Lent6 w' w.heap.size cs n w'.heap.size) ∧ Hid (Below w.heap.size w w') := by
 obtain ⟨i0, hi, hz0, hz1, hz2⟩ := info_parts infoC
 have HS := hidden hs
 have HLEN := hidden hs.hlen
 clear hs
 go_enter Tryz.func5, Tryz.ntmps5
 go_wp2_with (at_make; refine wpList_make_full _ rfl _ _ 22 rfl w.heap.size 41 i0 _ 5 Tryz.underlying22 hi hz0 hz1 .i64 .i64 (n + 3) (n + 3) (n + 3) rfl rfl rfl rfl (by rw [hz2]; omega) (by unfold maxLen; omega) (Nat.le_refl _) ?_)
 intro w1 hown1 hg1
 have hb1 : Below w.heap.size w w1 := (Below.refl _ _).grown hg1 (Nat.le_refl _) (fun k hk => by cases hk)
 have hR1 : RowC w1 w.heap.size (n + 3) := by
  rcases hown1.2 with ⟨h, _⟩ | ⟨g, c, cur, h, _, hh, _, _, hs, ht⟩
  ·cases h
  ·cases h
   exact ⟨cur, hh, by omega⟩
 have HR1 := hidden hR1
 have HB1 := hidden hb1
 obtain ⟨R, hR⟩ : ∃ R, w.heap.size = R := ⟨_, rfl⟩
 rw [hR] at HR1 HB1 ⊢
 clear hown1 hg1 hb1 hR1 hi hz0 hz1 hz2
 go_wp2_with fail
 go_loopw [5] (fun i wr => ∃ (k : Nat) (g : Nat → Nat), k ≤ n + 3 ∧ i = .int .i64 k ∧ Hid (Ln6 wr R cs g 0 (min k n)) ∧ Hid (∀ j, n ≤ j → j < k → wr.cell? ⟨R, j * 5 + 1, none⟩ = some (.int .i64 (-7))) ∧ Hid (RowC wr R (n + 3)) ∧ Hid (Below R w wr)) (fun i _ => n + 3 - (intOf i).toNat)
 case atStart => exact ⟨0, fun _ => 0, by omega, rfl, hidden ⟨fun i c _ h _ => by omega, fun a b _ h => by omega, fun a h => by omega, fun a h => by omega⟩, hidden (fun j h1 h2 => by omega), HR1, HB1⟩
 case round =>
  clear HR1 HB1
  obtain ⟨k, g, hk, rfl, HL, HM, HR, HB⟩ := hrel
  have bk : (k : Int) ≤ 900003 := by omega
  by_cases hlt : k < n + 3
  ·have hltI : (k : Int) < (n : Int) + 3 := by omega
   have hRr := HR.out.lt
   go_wp2_with (refine put_cell (by rfl) _ _ (by rfl) R (k * 5) (n + 3) none none 0 0 0 0 (-7) 0 0 HR.out (by rfl) (by rfl) (by omega) ?_; intro w2 HU2; refine Hid.out ?_)
   apply hidden
   have HR2 : Hid (RowC w2 R (n + 3)) := hidden (by rw [HU2.out]; exact RowC.sets _ _ _ HR.out)
   have HB2 : Hid (Below R w w2) := hidden (by rw [HU2.out]; exact HB.out.trans (sets5_below (j := 0) _ _ _))
   have HZ2 : Hid (w2.heap.size = wr.heap.size) := hidden (by rw [HU2.out, sets5_size])
   have HL2 : Hid (Ln6 w2 R cs g 0 (min k n)) := hidden (HL.out.keep (Nat.le_refl _) (by rw [HZ2.out]; exact Nat.le_refl _) (fun j _ hj => by
     rw [HU2.out]; exact World.cell?_setCells_out R _ _ wr _ (fun _ _ => .inl (by simp only; omega))) (fun a _ ha => by
     have h1 := HL.out.lt a ha
     have h2 := HL.out.gt a ha
     rw [HU2.out, World.heap_setCells_other _ _ _ _ (by omega) (by omega)]))
   have HMO : Hid (∀ j, n ≤ j → j < k → w2.cell? ⟨R, j * 5 + 1, none⟩ = some (.int .i64 (-7))) := hidden (fun j h1 h2 => by
    rw [HU2.out, World.cell?_setCells_out R _ _ wr _ (fun _ _ => .inl (by simp only; omega))]
    exact HM.out j h1 h2)
   have HMK : Hid (w2.cell? ⟨R, k * 5 + 1, none⟩ = some (.int .i64 (-7))) := hidden (by
    have hr2 := World.rangeAt_setCells_same wr R (k * 5) [.slice none 0 0, .int .i64 (-7), .slice none 0 0, .int .i64 0, .int .i64 0] (HR.out.there (by omega))
    rw [← HU2.out] at hr2
    exact hr2 1 _ rfl)
   clear HU2 HL HM HR HB
   by_cases hkn : k < n
   ·have hknI : (k : Int) < (n : Int) := by omega
    obtain ⟨b, off, c, ka, kc, va, vc, rfl, hbl, hci, c0, c1, c2, c3, c4, hk1, hv1⟩ := HS.out.item k hkn
    have hbR : b < R := by rw [← hR]; exact hbl
    have d0 := (HB2.out.cell (p := ⟨b, off + k * 5, none⟩) hbR).trans c0
    have d1 := (HB2.out.cell (p := ⟨b, off + k * 5 + 1, none⟩) hbR).trans c1
    have d2 := (HB2.out.cell (p := ⟨b, off + k * 5 + 2, none⟩) hbR).trans c2
    have d3 := (HB2.out.cell (p := ⟨b, off + k * 5 + 3, none⟩) hbR).trans c3
    have d4 := (HB2.out.cell (p := ⟨b, off + k * 5 + 4, none⟩) hbR).trans c4
    have HCI := hidden hci
    obtain ⟨key, kd, val, pg, ct⟩ := c
    simp only at d0 d1 d2 d3 d4 hk1 hv1
    obtain ⟨kn, hkn'⟩ : ∃ kn, key.length = kn := ⟨_, rfl⟩
    obtain ⟨vn, hvn⟩ : ∃ vn, val.length = vn := ⟨_, rfl⟩
    rw [hkn'] at hk1 d0
    rw [hvn] at hv1 d2
    have HLN := hidden (And.intro hkn' hvn)
    have HLC := hidden (lentCell_any key val kd pg ct ka va kn vn kc vc w2 (hk1.on (by omega) HB2.out) (hv1.on (by omega) HB2.out))
    clear c0 c1 c2 c3 c4 hk1 hv1 hci hkn' hvn
    go_wp2_with (first | (go_at_call 21; refine HLC.out.mono ?_; rintro e w4 ⟨G1, G2, rfl, HG, HBc⟩; refine Hid.out ?_))
    apply hidden
    have HR4 : Hid (RowC w4 R (n + 3)) := hidden (HR2.out.on HBc.out)
    have HB4 : Hid (Below R w w4) := hidden (HB2.out.trans (HBc.out.mono (Nat.le_of_lt HR2.out.lt)))
    have hRr4 := HR4.out.lt
    clear d0 d1 d2 d3 d4 HLC
    go_wp2_with (refine put_cell (by rfl) _ _ (by rfl) R (k * 5) (n + 3) (some ⟨G1, 0, none⟩) (some ⟨G2, 0, none⟩) kn (kn + 9) vn (vn + 9) kd pg ct HR4.out (by rfl) (by rfl) (by omega) ?_; intro w6 HU; refine Hid.out ?_)
    apply hidden
    have HN : Hid (Ln6 w6 R cs (fun a => if a < 2 * k then g a else if a = 2 * k then G1 else G2) 0 (min (k + 1) n)) := hidden (by
     have hl2 := HL2.out
     rw [Nat.min_eq_left (by omega)] at hl2 ⊢
     exact hl2.step (n := n) HR4.out hkn HCI.out HR2.out.lt (fun b hb => HBc.out.block b hb) HG.out.2.2.1 HG.out.2.2.2 HG.out.1 HG.out.2.1 (by simp only [HLN.out.1, HLN.out.2]; exact HU.out))
    have HR6 : Hid (RowC w6 R (n + 3)) := hidden (by rw [HU.out]; exact RowC.sets _ _ _ HR4.out)
    have HB6 : Hid (Below R w w6) := hidden (by rw [HU.out]; exact HB4.out.trans (sets5_below (j := 0) _ _ _))
    clear HU HR4 HB4 HG HBc HR2 HB2 HL2 HMO HMK
    go_wp2
    go_roundw
    case rel => exact ⟨k + 1, _, by omega, by go_num, HN, hidden (fun j h1 h2 => by omega), HR6, HB6⟩
    case measure => simp [intOf]; omega
   ·have hknI : ¬ (k : Int) < (n : Int) := by omega
    have HN : Hid (Ln6 w2 R cs g 0 (min (k + 1) n)) := hidden (by
     have hl2 := HL2.out
     rw [Nat.min_eq_right (by omega)] at hl2 ⊢
     exact hl2)
    clear HL2
    go_wp2
    go_roundw
    case rel => exact ⟨k + 1, g, by omega, by go_num, HN, hidden (fun j h1 h2 => by
      by_cases e : j = k
      ·rw [e]; exact HMK.out
      ·exact HMO.out j h1 (by omega)), HR2, HB2⟩
    case measure => simp [intOf]; omega
  ·obtain rfl : k = n + 3 := by omega
   have hltI : ¬ ((n + 3 : Nat) : Int) < (n : Int) + 3 := by omega
   have HE : Hid (Lent6 wr R cs n wr.heap.size) := hidden (by
    have hl := HL.out
    rw [Nat.min_eq_right (by omega)] at hl
    exact ⟨g, hl, HR.out, fun j h1 h2 => HM.out j h1 h2, hl.lt, HR.out.lt⟩)
   clear HL HM HR
   go_wp2
   go_ret
   exact ⟨rfl, HE, HB⟩
end Go.Proofs.YtlhkinlgolcpaaaGreatDoor

namespace Go.Proofs.YtlhkinlgolcpaaaGreatDoor
set_option maxRecDepth 100000
open Go.RowKit
set_option maxHeartbeats 4000000 in
theorem asLent6_any (Lz R n : Nat) (ao : Option Addr) (cap : Nat) (cs : List Cl) (w : World) (hL : Lent6 w R cs n Lz) (hs : ∀ u, Cf (Bt R Lz) w u → SlC u ao n cap cs) (hn : n ≤ 900000) :
  Calls Tryz.prog 10 #[.slice (some ⟨R, 0, none⟩) n (n + 3), .slice ao n cap] w fun e w' => e = .returned (.bool true) ∧ Hid (Cf (Bt R Lz) w w') := by
 have HS := hidden hs
 obtain ⟨g, hLn, hR, hm, hgl, hrl⟩ := hL
 have HGL := hidden hgl
 have HRL := hidden hrl
 have HL := hidden hLn
 have HR := hidden hR
 have HM := hidden hm
 clear hs hLn hR hm hgl hrl
 go_enter Tryz.func10, Tryz.ntmps10
 go_wp2_with fail
 go_loopw [7, 8] (fun v i wr => ∃ j : Nat, j ≤ n + 3 ∧ v = .bool true ∧ i = .int .i64 j ∧ Hid (Ln6 wr R cs g j n) ∧ Hid (∀ t, n ≤ t → j ≤ t → t < n + 3 → wr.cell? ⟨R, t * 5 + 1, none⟩ = some (.int .i64 (-7))) ∧ Hid (RowC wr R (n + 3)) ∧ Hid (Cf (Bt R Lz) w wr)) (fun _ i _ => n + 3 - (RowKit.intOf i).toNat)
 case atStart => exact ⟨0, by omega, rfl, rfl, HL, hidden (fun t h1 _ h2 => HM.out t h1 h2), HR, hidden (Cf.refl _ _)⟩
 case round =>
  clear HL HR HM
  obtain ⟨j, hj, rfl, rfl, HL, HM, HR, HCF⟩ := hrel
  have bj : (j : Int) ≤ 900003 := by omega
  have hRr := HR.out.lt
  by_cases hlt : j < n + 3
  ·have hltI : (j : Int) < (n : Int) + 3 := by omega
   by_cases hjn : j < n
   ·have hjI : (j : Int) < (n : Int) := by omega
    obtain ⟨b, off, c, ka, kc, va, vc, rfl, hbl, hci, c0, c1, c2, c3, c4, hk1, hv1⟩ := (HS.out wr HCF.out).item j hjn
    obtain ⟨a0, a1, a2, a3, a4, a5, a6⟩ := HL.out.at_ j c (Nat.le_refl _) hjn hci
    have g1 := HL.out.gt (2 * j) (by omega)
    have g2 := HL.out.gt (2 * j + 1) (by omega)
    have g3 := HL.out.mono (2 * j) (2 * j + 1) (by omega) (by omega)
    have l1 := HGL.out (2 * j) (by omega)
    have l2 := HGL.out (2 * j + 1) (by omega)
    have HNX : Hid (∀ a, 2 * (j + 1) ≤ a → a < 2 * n → g (2 * j + 1) < g a) := hidden fun a h1 h2 => HL.out.mono _ a (by omega) h2
    have HBT : Hid (∀ k, k = g (2 * j) ∨ k = g (2 * j + 1) → Bt R Lz k) := hidden (fun k hk => by rcases hk with rfl | rfl <;> exact ⟨by omega, by omega⟩)
    have HIT : Hid (∀ u, Cf (fun k => k = g (2 * j) ∨ k = g (2 * j + 1)) wr u → Sl u ka c.key.length kc c.key ∧ Sl u va c.val.length vc c.val) := hidden (fun u hu => by
     obtain ⟨b', off', c', ka', kc', va', vc', hao, _, hci', e0, _, e2, _, _, hk', hv'⟩ := (HS.out u (HCF.out.go (hu.wide HBT.out))).item j hjn
     rw [hci] at hci'
     injection hci' with hcc
     subst hcc
     injection hao with hao
     injection hao with h1 h2
     subst h1 h2
     obtain ⟨b2, off2, c2', ka2, kc2, va2, vc2, hao2, hbl2, hci2, f0, _, f2, _, _, _, _⟩ := (HS.out wr HCF.out).item j hjn
     have hbR : ¬ (b = g (2 * j) ∨ b = g (2 * j + 1)) := by
      intro hh
      have q0 := c0
      have q1 := a5
      have q2 := a6
      rcases hh with rfl | rfl
      ·have := cell9 (i := off + j * 5) q1
       rw [c0] at this
       obtain ⟨_, e⟩ := getElem?_By _ _ _ this.symm
       cases e
      ·have := cell9 (i := off + j * 5) q2
       rw [c0] at this
       obtain ⟨_, e⟩ := getElem?_By _ _ _ this.symm
       cases e
     have hbb := hu.block b hbl hbR
     have s0 : u.cell? ⟨b, off + j * 5, none⟩ = wr.cell? ⟨b, off + j * 5, none⟩ := World.cell?_of_block hbb
     have s2 : u.cell? ⟨b, off + j * 5 + 2, none⟩ = wr.cell? ⟨b, off + j * 5 + 2, none⟩ := World.cell?_of_block hbb
     rw [c0, e0] at s0
     rw [c2, e2] at s2
     injection s0 with s0
     injection s0 with t1 t2 t3
     injection s2 with s2
     injection s2 with t4 t5 t6
     subst t1 t3 t4 t6
     exact ⟨hk', hv'⟩)
    have HCI := hidden hci
    obtain ⟨key, kd, val, pg, ct⟩ := c
    simp only at a0 a1 a2 a3 a4 a5 a6 c0 c1 c2 c3 c4 hk1 hv1 HIT
    obtain ⟨kn, hkn⟩ : ∃ kn, key.length = kn := ⟨_, rfl⟩
    obtain ⟨vn, hvn⟩ : ∃ vn, val.length = vn := ⟨_, rfl⟩
    rw [hkn] at a0 c0 HIT
    rw [hvn] at a2 c2 HIT
    obtain ⟨G1, hG1⟩ : ∃ G, g (2 * j) = G := ⟨_, rfl⟩
    obtain ⟨G2, hG2⟩ : ∃ G, g (2 * j + 1) = G := ⟨_, rfl⟩
    rw [hG1] at a0 a5 g1 g3 l1 HBT HIT
    rw [hG2] at a2 a6 g2 g3 l2 HBT HNX HIT
    have HA : Hid (∀ u, u.heap = wr.heap → Cf (fun k => k = G1 ∨ k = G2) wr u → Calls Tryz.prog 34 #[.agg #[.slice (some ⟨G1, 0, none⟩) kn (kn + 9), .int .i64 kd, .slice (some ⟨G2, 0, none⟩) vn (vn + 9), .int .i64 pg, .int .i64 ct], .agg #[.slice ka kn kc, .int .i64 kd, .slice va vn vc, .int .i64 pg, .int .i64 ct]] u fun e w' => e = .returned (.bool true) ∧ Hid (Cf (fun k => k = G1 ∨ k = G2) u w')) := hidden (fun u hu hcu => asLentCell_any key val kd pg ct G1 G2 ka va kn vn kc vc u (by unfold Bk; rw [hu]; exact a5) (by unfold Bk; rw [hu]; exact a6) (by omega) (fun x hx => (HIT.out x (hcu.go hx)).1) (fun x hx => (HIT.out x (hcu.go hx)).2))
    obtain ⟨q, hq⟩ : ∃ q : Bool, (kd == -7) = q := ⟨_, rfl⟩
    clear a5 a6 hk1 hv1 hci hG1 hG2 hkn hvn HIT
    go_wp2_with fail
    go_region_with (first | (go_at_call 34; refine (HA.out _ (by rfl) (Cf.drew _ _ _)).mono ?_; rintro e w2 ⟨rfl, HC⟩))
    all_goals
     have HC2 : Hid (Cf (fun k => k = G1 ∨ k = G2) wr w2) := hidden ((Cf.drew _ _ _).go HC.out)
     have HC2B : Hid (Cf (Bt R Lz) w w2) := hidden (HCF.out.go (HC2.out.wide HBT.out))
     have hRb : w2.heap[R]? = wr.heap[R]? := HC2.out.block R (by omega) (by omega)
     have HR2 : Hid (RowC w2 R (n + 3)) := hidden (by
      obtain ⟨cur, h1, h2⟩ := HR.out
      exact ⟨cur, hRb.trans h1, h2⟩)
     have hRr2 := HR2.out.lt
     have HL2 : Hid (Ln6 w2 R cs g (j + 1) n) := hidden (HL.out.keep (by omega) HC2.out.size (fun i _ _ => World.cell?_of_block hRb) (fun a h1 h2 => HC2.out.block _ (HL.out.lt a h2) (by have := HNX.out a h1 h2; omega)))
     have HM2 : Hid (∀ t, n ≤ t → j ≤ t → t < n + 3 → w2.cell? ⟨R, t * 5 + 1, none⟩ = some (.int .i64 (-7))) := hidden (fun t h1 h2 h3 => (World.cell?_of_block hRb).trans (HM.out t h1 h2 h3))
     clear HC HA a0 a1 a2 a3 a4 c0 c1 c2 c3 c4 hRb HL HM HR HCF
     go_wp2_with (refine put_cell (by rfl) _ _ (by rfl) R (j * 5) (n + 3) none none 0 0 0 0 (-8) 0 0 HR2.out (by rfl) (by rfl) (by omega) ?_; intro w3 HU; refine Hid.out ?_)
     apply hidden
     have HR3 : Hid (RowC w3 R (n + 3)) := hidden (by rw [HU.out]; exact RowC.sets _ _ _ HR2.out)
     have HC3 : Hid (Cf (Bt R Lz) w w3) := hidden (by rw [HU.out]; exact HC2B.out.go (sets5_cf ⟨Nat.le_refl _, HRL.out⟩ _ _ _))
     have HZ3 : Hid (w3.heap.size = w2.heap.size) := hidden (by rw [HU.out, sets5_size])
     have HCL : Hid (∀ i, (j + 1) * 5 ≤ i → w3.cell? ⟨R, i, none⟩ = w2.cell? ⟨R, i, none⟩) := hidden (fun i hi => by
      rw [HU.out]; exact World.cell?_setCells_out R _ _ w2 _ (fun _ _ => .inr (by simp only [List.length_cons, List.length_nil]; omega)))
     have HL3 : Hid (Ln6 w3 R cs g (j + 1) n) := hidden (HL2.out.keep (Nat.le_refl _) (by rw [HZ3.out]; exact Nat.le_refl _) (fun i h1 _ => HCL.out i (by omega)) (fun a _ ha => by
      have h1 := HL2.out.lt a ha
      have h2 := HL2.out.gt a ha
      rw [HU.out, World.heap_setCells_other _ _ _ _ (by omega) (by omega)]))
     have HM3 : Hid (∀ t, n ≤ t → j + 1 ≤ t → t < n + 3 → w3.cell? ⟨R, t * 5 + 1, none⟩ = some (.int .i64 (-7))) := hidden (fun t h1 h2 h3 => (HCL.out _ (by omega)).trans (HM2.out t h1 (by omega) h3))
     clear HU HR2 HL2 HM2 HC2 HC2B HCL
     go_wp2
     go_roundw
     case rel => exact ⟨j + 1, by omega, rfl, by go_num, HL3, HM3, HR3, HC3⟩
     case measure => simp [RowKit.intOf]; omega
   ·have hjI : ¬ (j : Int) < (n : Int) := by omega
    have hm7 := HM.out j (by omega) (Nat.le_refl _) hlt
    go_wp2_with (refine put_cell (by rfl) _ _ (by rfl) R (j * 5) (n + 3) none none 0 0 0 0 (-8) 0 0 HR.out (by rfl) (by rfl) (by omega) ?_; intro w3 HU; refine Hid.out ?_)
    apply hidden
    have HR3 : Hid (RowC w3 R (n + 3)) := hidden (by rw [HU.out]; exact RowC.sets _ _ _ HR.out)
    have HC3 : Hid (Cf (Bt R Lz) w w3) := hidden (by rw [HU.out]; exact HCF.out.go (sets5_cf ⟨Nat.le_refl _, HRL.out⟩ _ _ _))
    have HZ3 : Hid (w3.heap.size = wr.heap.size) := hidden (by rw [HU.out, sets5_size])
    have HCL : Hid (∀ i, (j + 1) * 5 ≤ i → w3.cell? ⟨R, i, none⟩ = wr.cell? ⟨R, i, none⟩) := hidden (fun i hi => by
     rw [HU.out]; exact World.cell?_setCells_out R _ _ wr _ (fun _ _ => .inr (by simp only [List.length_cons, List.length_nil]; omega)))
    have HL3 : Hid (Ln6 w3 R cs g (j + 1) n) := hidden (HL.out.keep (by omega) (by rw [HZ3.out]; exact Nat.le_refl _) (fun i h1 _ => HCL.out i (by omega)) (fun a _ ha => by
     have h1 := HL.out.lt a ha
     have h2 := HL.out.gt a ha
     rw [HU.out, World.heap_setCells_other _ _ _ _ (by omega) (by omega)]))
    have HM3 : Hid (∀ t, n ≤ t → j + 1 ≤ t → t < n + 3 → w3.cell? ⟨R, t * 5 + 1, none⟩ = some (.int .i64 (-7))) := hidden (fun t h1 h2 h3 => (HCL.out _ (by omega)).trans (HM.out t h1 (by omega) h3))
    clear HU HR HL HM HCF HCL hm7
    go_wp2
    go_roundw
    case rel => exact ⟨j + 1, by omega, rfl, by go_num, HL3, HM3, HR3, HC3⟩
    case measure => simp [RowKit.intOf]; omega
  ·have hltI : ¬ (j : Int) < (n : Int) + 3 := by omega
   clear HL HM
   go_wp2
   go_ret
   exact ⟨rfl, HCF⟩
end Go.Proofs.YtlhkinlgolcpaaaGreatDoor

namespace Go.Proofs.YtlhkinlgolcpaaaGreatDoor
set_option maxRecDepth 100000
open Go.RowKit
theorem own_in {w : World} {B : Nat} {v : Value} {l : List Int} {k : Nat} (h : OwnB w B v l) (hk : v.ownBlock = some k) : B ≤ k ∧ k < w.heap.size := by
 unfold OwnB at h
 rcases h.2 with ⟨rfl, _⟩ | ⟨g, cap, cur, rfl, hg, hh, _⟩
 ·cases hk
 ·cases hk
  exact ⟨hg, lt_some hh⟩
theorem own_two {w u : World} {B C : Nat} {v x : Value} {l m : List Int} (h : OwnB w B v l) (k : OwnB u C x m) (hC : w.heap.size ≤ C) : v.ownBlock = none ∨ v.ownBlock ≠ x.ownBlock := by
 cases hv : v.ownBlock with
 | none => exact .inl rfl
 | some a =>
  right
  intro e
  have h1 := own_in h hv
  have h2 := own_in k e.symm
  omega
end Go.Proofs.YtlhkinlgolcpaaaGreatDoor

namespace Go.Proofs.YtlhkinlgolcpaaaGreatDoor
set_option maxRecDepth 100000
open Go.RowKit
def en6 (k n : Int) (cs : List Cl) : List Int := if encE k n cs = 0 then pgB k n.toNat cs else []
theorem en6_size {k n : Int} {cs : List Cl} (h : encE k n cs = 0) : isKd k ∧ pw n ∧ (szN cs : Int) ≤ n := by
 unfold encE at h
 by_cases h1 : isKd k ∧ pw n
 ·rw [if_pos h1] at h
  by_cases h2 : chk k n none cs = 0
  ·rw [if_pos h2] at h
   by_cases h3 : n < szN cs
   ·rw [if_pos h3] at h; cases h
   ·exact ⟨h1.1, h1.2, by omega⟩
  ·rw [if_neg h2] at h; exact absurd h h2
 ·rw [if_neg h1] at h; cases h
theorem en6_len {k n : Int} {cs : List Cl} : (en6 k n cs).length ≤ 65536 := by
 unfold en6
 split
 ·rename_i h
  obtain ⟨_, h2, h3⟩ := en6_size h
  have := pw_le h2
  rw [pgB_length _ _ _ (by omega)]
  omega
 ·simp
theorem en6_wf {k n : Int} {cs : List Cl} (hw : ∀ c ∈ cs, c.Wf) : Wf (en6 k n cs) := by
 unfold en6
 split
 ·rename_i h
  obtain ⟨h1, _⟩ := en6_size h
  exact pgB_wf (by unfold isKd at h1; omega) hw
 ·exact Wf.nil
theorem encU6 (k n : Int) (co : Option Addr) (cn cc : Nat) (cs : List Cl) (w : World) (hs : SlC w co cn cc cs) (hz : szN cs ≤ 1099511627776) (ht : Tab w) (h0 : 1 < w.heap.size) :
  Calls Tryz.prog 46 #[.int .i64 k, .slice co cn cc, .int .i64 n] w fun e w' => ∃ ao m cap, e = .returned (.tuple #[.slice ao m cap, .int .i64 (encE k n cs)]) ∧ Hid (OwnB w' w.heap.size (.slice ao m cap) (en6 k n cs)) ∧ Hid (Below w.heap.size w w') := by
 refine (encode_plain k n co cn cc cs w hs hz ht h0).mono ?_
 rintro e w' ⟨ao, m, cap, c, rfl, hb, hq⟩
 obtain ⟨rfl, h⟩ := hq.out
 refine ⟨ao, m, cap, rfl, hidden ?_, hb⟩
 unfold en6
 rcases h with ⟨h1, rfl, rfl, rfl⟩ | ⟨h1, h2⟩
 ·rw [if_neg h1]
  exact OwnB.nil _ _
 ·rw [if_pos h1]
  obtain ⟨g, rfl, rfl, rfl, hg, hbk⟩ := h2
  obtain ⟨_, h4, h5⟩ := en6_size h1
  have hp := pw_le h4
  have hl : (pgB k n.toNat cs).length = n.toNat := pgB_length _ _ _ (by omega)
  have := own_of_heap (l := pgB k n.toNat cs) hbk hg (by rw [hl]; unfold maxLen; omega)
  rw [hl] at this
  exact this
theorem rencU6 (k n : Int) (co : Option Addr) (cn cc : Nat) (cs : List Cl) (w : World) (hs : SlC w co cn cc cs) (hcn : cn ≤ 900000) (hz : szN cs ≤ 1099511627776) :
  Calls Tryz.prog 35 #[.int .i64 k, .slice co cn cc, .int .i64 n] w fun e w' => ∃ ao m cap, e = .returned (.tuple #[.slice ao m cap, .int .i64 (encE k n cs)]) ∧ Hid (OwnB w' w.heap.size (.slice ao m cap) (en6 k n cs)) ∧ Hid (Below w.heap.size w w') := by
 by_cases he : encE k n cs = 0
 ·obtain ⟨h1, h2, h3⟩ := en6_size he
  have := pw_le h2
  obtain ⟨N, rfl⟩ := Int.eq_ofNat_of_zero_le (show 0 ≤ n by omega)
  refine (rencode6_yes k N co cn cc cs w hs hcn he).mono ?_
  rintro e w' ⟨v, rfl, ho, hb⟩
  obtain ⟨ao, c, rfl⟩ := own_slice6 ho.out
  refine ⟨ao, _, c, by rw [he], hidden ?_, hb⟩
  unfold en6
  rw [if_pos he, Int.toNat_natCast]
  exact ho.out
 ·refine (rencode6_no k n co cn cc cs w hs hcn hz he).mono ?_
  rintro e w' ⟨rfl, hb⟩
  refine ⟨none, 0, 0, rfl, hidden ?_, hb⟩
  unfold en6
  rw [if_neg he]
  exact OwnB.nil _ _
theorem SlC.rooms {w : World} {ao : Option Addr} {n cap : Nat} {cs : List Cl} (h : SlC w ao n cap cs) : ∀ c ∈ cs, c.key.length ≤ 140737488355328 ∧ c.val.length ≤ 140737488355328 := by
 intro c hc
 obtain ⟨i, hi, e⟩ := List.getElem_of_mem hc
 rcases h.hat with h0 | ⟨b, off, _, _, hcs⟩
 ·have := h.hlen; omega
 ·obtain ⟨_, _, _, _, _, _, _, _, _, h5, h6⟩ := hcs i c (by rw [List.getElem?_eq_getElem hi, e])
  exact ⟨h5.hroom, h6.hroom⟩
theorem Lent6.slc2 {w : World} {R n L : Nat} {cs : List Cl} (h : Lent6 w R cs n L) (hl : cs.length = n) (hn : n ≤ 900000) (hw : ∀ c ∈ cs, c.Wf) (hk : ∀ c ∈ cs, c.key.length ≤ 140737488355328 ∧ c.val.length ≤ 140737488355328) : SlC w (some ⟨R, 0, none⟩) n (n + 3) cs := by
 obtain ⟨g, h1, h2, _⟩ := h
 refine ⟨hl, by omega, by omega, (by intro h; cases h), .inr ⟨R, 0, rfl, h2.lt, fun i c hi => ?_⟩⟩
 have hil : i < n := by have := (List.getElem?_eq_some_iff.1 hi).1; omega
 obtain ⟨a0, a1, a2, a3, a4, a5, a6⟩ := h1.at_ i c (by omega) hil hi
 have hm := List.mem_of_getElem? hi
 have := hk c hm
 rw [Nat.zero_add]
 exact ⟨_, _, _, _, a0, a1, a2, a3, a4, sl_lent a5 (hw c hm).1 this.1, sl_lent a6 (hw c hm).2 this.2⟩
end Go.Proofs.YtlhkinlgolcpaaaGreatDoor
