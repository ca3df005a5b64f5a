/- Layer 6: the document's AsLent: the cells are as they were lent; only what was lent turns. -/
import Derived.Test.YtmdabgpeeelhmaaDoorJl
namespace Go.Proofs.YtmdabgpeeelhmaaDoor
open Go.RowKit

set_option maxHeartbeats 4000000 in
set_option maxRecDepth 100000 in
theorem asLent6_any (Lz R n : Nat) (ao : Option Addr) (cap : Nat) (cs : List Cl) (w : World) (hL : Lent6 w R cs n Lz) (hs : ∀ u, Cf (Bt R Lz) w u → SlC u ao n cap cs) (hn : n ≤ 900000) :
    Calls Tryd.prog 11 #[.slice (some ⟨R, 0, none⟩) n (n + 3), .slice ao n cap] w fun e w' => e = .returned (.bool true) ∧ Hid (Cf (Bt R Lz) w w') := by
  have HS := hidden hs
  obtain ⟨g, hLn, hR, hm, hgl, hrl⟩ := hL
  have HGL := hidden hgl
  have HRL := hidden hrl
  have HL := hidden hLn
  have HR := hidden hR
  have HM := hidden hm
  clear hs hLn hR hm hgl hrl
  go_enter Tryd.func11, Tryd.ntmps11
  go_wp2_with fail
  go_loopw [7, 8] (fun v i wr => ∃ j : Nat, j ≤ n + 3 ∧ v = .bool true ∧ i = .int .i64 j ∧ Hid (Ln6 wr R cs g j n) ∧ Hid (∀ t, n ≤ t → j ≤ t → t < n + 3 → wr.cell? ⟨R, t * 5 + 1, none⟩ = some (.int .i64 (-7))) ∧ Hid (RowC wr R (n + 3)) ∧ Hid (Cf (Bt R Lz) w wr)) (fun _ i _ => n + 3 - (RowKit.intOf i).toNat)
  case atStart => exact ⟨0, by omega, rfl, rfl, HL, hidden (fun t h1 _ h2 => HM.out t h1 h2), HR, hidden (Cf.refl _ _)⟩
  case round =>
    clear HL HR HM
    obtain ⟨j, hj, rfl, rfl, HL, HM, HR, HCF⟩ := hrel
    have bj : (j : Int) ≤ 900003 := by omega
    have hRr := HR.out.lt
    by_cases hlt : j < n + 3
    · have hltI : (j : Int) < (n : Int) + 3 := by omega
      by_cases hjn : j < n
      · have hjI : (j : Int) < (n : Int) := by omega
        obtain ⟨b, off, c, ka, kc, va, vc, rfl, hbl, hci, c0, c1, c2, c3, c4, hk1, hv1⟩ := (HS.out wr HCF.out).item j hjn
        obtain ⟨a0, a1, a2, a3, a4, a5, a6⟩ := HL.out.at_ j c (Nat.le_refl _) hjn hci
        have g1 := HL.out.gt (2 * j) (by omega)
        have g2 := HL.out.gt (2 * j + 1) (by omega)
        have g3 := HL.out.mono (2 * j) (2 * j + 1) (by omega) (by omega)
        have l1 := HGL.out (2 * j) (by omega)
        have l2 := HGL.out (2 * j + 1) (by omega)
        have HNX : Hid (∀ a, 2 * (j + 1) ≤ a → a < 2 * n → g (2 * j + 1) < g a) := hidden fun a h1 h2 => HL.out.mono _ a (by omega) h2
        have HBT : Hid (∀ k, k = g (2 * j) ∨ k = g (2 * j + 1) → Bt R Lz k) := hidden (fun k hk => by rcases hk with rfl | rfl <;> exact ⟨by omega, by omega⟩)
        have HIT : Hid (∀ u, Cf (fun k => k = g (2 * j) ∨ k = g (2 * j + 1)) wr u → Sl u ka c.key.length kc c.key ∧ Sl u va c.val.length vc c.val) := hidden (fun u hu => by
          obtain ⟨b', off', c', ka', kc', va', vc', hao, _, hci', e0, _, e2, _, _, hk', hv'⟩ := (HS.out u (HCF.out.go (hu.wide HBT.out))).item j hjn
          rw [hci] at hci'
          injection hci' with hcc
          subst hcc
          injection hao with hao
          injection hao with h1 h2
          subst h1 h2
          obtain ⟨b2, off2, c2', ka2, kc2, va2, vc2, hao2, hbl2, hci2, f0, _, f2, _, _, _, _⟩ := (HS.out wr HCF.out).item j hjn
          have hbR : ¬ (b = g (2 * j) ∨ b = g (2 * j + 1)) := by
            intro hh
            have q0 := c0
            have q1 := a5
            have q2 := a6
            rcases hh with rfl | rfl
            · have := cell9 (i := off + j * 5) q1
              rw [c0] at this
              obtain ⟨_, e⟩ := getElem?_By _ _ _ this.symm
              cases e
            · have := cell9 (i := off + j * 5) q2
              rw [c0] at this
              obtain ⟨_, e⟩ := getElem?_By _ _ _ this.symm
              cases e
          have hbb := hu.block b hbl hbR
          have s0 : u.cell? ⟨b, off + j * 5, none⟩ = wr.cell? ⟨b, off + j * 5, none⟩ := World.cell?_of_block hbb
          have s2 : u.cell? ⟨b, off + j * 5 + 2, none⟩ = wr.cell? ⟨b, off + j * 5 + 2, none⟩ := World.cell?_of_block hbb
          rw [c0, e0] at s0
          rw [c2, e2] at s2
          injection s0 with s0
          injection s0 with t1 t2 t3
          injection s2 with s2
          injection s2 with t4 t5 t6
          subst t1 t3 t4 t6
          exact ⟨hk', hv'⟩)
        have HCI := hidden hci
        obtain ⟨key, kd, val, pg, ct⟩ := c
        simp only at a0 a1 a2 a3 a4 a5 a6 c0 c1 c2 c3 c4 hk1 hv1 HIT
        obtain ⟨kn, hkn⟩ : ∃ kn, key.length = kn := ⟨_, rfl⟩
        obtain ⟨vn, hvn⟩ : ∃ vn, val.length = vn := ⟨_, rfl⟩
        rw [hkn] at a0 c0 HIT
        rw [hvn] at a2 c2 HIT
        obtain ⟨G1, hG1⟩ : ∃ G, g (2 * j) = G := ⟨_, rfl⟩
        obtain ⟨G2, hG2⟩ : ∃ G, g (2 * j + 1) = G := ⟨_, rfl⟩
        rw [hG1] at a0 a5 g1 g3 l1 HBT HIT
        rw [hG2] at a2 a6 g2 g3 l2 HBT HNX HIT
        have HA : Hid (∀ u, u.heap = wr.heap → Cf (fun k => k = G1 ∨ k = G2) wr u → Calls Tryd.prog 32 #[.agg #[.slice (some ⟨G1, 0, none⟩) kn (kn + 9), .int .i64 kd, .slice (some ⟨G2, 0, none⟩) vn (vn + 9), .int .i64 pg, .int .i64 ct], .agg #[.slice ka kn kc, .int .i64 kd, .slice va vn vc, .int .i64 pg, .int .i64 ct]] u fun e w' => e = .returned (.bool true) ∧ Hid (Cf (fun k => k = G1 ∨ k = G2) u w')) := hidden (fun u hu hcu => asLentCell_any key val kd pg ct G1 G2 ka va kn vn kc vc u (by unfold Bk; rw [hu]; exact a5) (by unfold Bk; rw [hu]; exact a6) (by omega) (fun x hx => (HIT.out x (hcu.go hx)).1) (fun x hx => (HIT.out x (hcu.go hx)).2))
        obtain ⟨q, hq⟩ : ∃ q : Bool, (kd == -7) = q := ⟨_, rfl⟩
        clear a5 a6 hk1 hv1 hci hG1 hG2 hkn hvn HIT
        go_wp2_with fail
        go_region_with (first | (go_at_call 32; refine (HA.out _ (by rfl) (Cf.drew _ _ _)).mono ?_; rintro e w2 ⟨rfl, HC⟩))
        all_goals
          have HC2 : Hid (Cf (fun k => k = G1 ∨ k = G2) wr w2) := hidden ((Cf.drew _ _ _).go HC.out)
          have HC2B : Hid (Cf (Bt R Lz) w w2) := hidden (HCF.out.go (HC2.out.wide HBT.out))
          have hRb : w2.heap[R]? = wr.heap[R]? := HC2.out.block R (by omega) (by omega)
          have HR2 : Hid (RowC w2 R (n + 3)) := hidden (by
            obtain ⟨cur, h1, h2⟩ := HR.out
            exact ⟨cur, hRb.trans h1, h2⟩)
          have hRr2 := HR2.out.lt
          have HL2 : Hid (Ln6 w2 R cs g (j + 1) n) := hidden (HL.out.keep (by omega) HC2.out.size (fun i _ _ => World.cell?_of_block hRb) (fun a h1 h2 => HC2.out.block _ (HL.out.lt a h2) (by have := HNX.out a h1 h2; omega)))
          have HM2 : Hid (∀ t, n ≤ t → j ≤ t → t < n + 3 → w2.cell? ⟨R, t * 5 + 1, none⟩ = some (.int .i64 (-7))) := hidden (fun t h1 h2 h3 => (World.cell?_of_block hRb).trans (HM.out t h1 h2 h3))
          clear HC HA a0 a1 a2 a3 a4 c0 c1 c2 c3 c4 hRb HL HM HR HCF
          go_wp2_with (refine put_cell (by rfl) _ _ (by rfl) R (j * 5) (n + 3) none none 0 0 0 0 (-8) 0 0 HR2.out (by rfl) (by rfl) (by omega) ?_; intro w3 HU; refine Hid.out ?_)
          apply hidden
          have HR3 : Hid (RowC w3 R (n + 3)) := hidden (by rw [HU.out]; exact RowC.sets _ _ _ HR2.out)
          have HC3 : Hid (Cf (Bt R Lz) w w3) := hidden (by rw [HU.out]; exact HC2B.out.go (sets5_cf ⟨Nat.le_refl _, HRL.out⟩ _ _ _))
          have HZ3 : Hid (w3.heap.size = w2.heap.size) := hidden (by rw [HU.out, sets5_size])
          have HCL : Hid (∀ i, (j + 1) * 5 ≤ i → w3.cell? ⟨R, i, none⟩ = w2.cell? ⟨R, i, none⟩) := hidden (fun i hi => by
            rw [HU.out]; exact World.cell?_setCells_out R _ _ w2 _ (fun _ _ => .inr (by simp only [List.length_cons, List.length_nil]; omega)))
          have HL3 : Hid (Ln6 w3 R cs g (j + 1) n) := hidden (HL2.out.keep (Nat.le_refl _) (by rw [HZ3.out]; exact Nat.le_refl _) (fun i h1 _ => HCL.out i (by omega)) (fun a _ ha => by
            have h1 := HL2.out.lt a ha
            have h2 := HL2.out.gt a ha
            rw [HU.out, World.heap_setCells_other _ _ _ _ (by omega) (by omega)]))
          have HM3 : Hid (∀ t, n ≤ t → j + 1 ≤ t → t < n + 3 → w3.cell? ⟨R, t * 5 + 1, none⟩ = some (.int .i64 (-7))) := hidden (fun t h1 h2 h3 => (HCL.out _ (by omega)).trans (HM2.out t h1 (by omega) h3))
          clear HU HR2 HL2 HM2 HC2 HC2B HCL
          go_wp2
          go_roundw
          case rel => exact ⟨j + 1, by omega, rfl, by go_num, HL3, HM3, HR3, HC3⟩
          case measure => simp [RowKit.intOf]; omega
      · have hjI : ¬ (j : Int) < (n : Int) := by omega
        have hm7 := HM.out j (by omega) (Nat.le_refl _) hlt
        go_wp2_with (refine put_cell (by rfl) _ _ (by rfl) R (j * 5) (n + 3) none none 0 0 0 0 (-8) 0 0 HR.out (by rfl) (by rfl) (by omega) ?_; intro w3 HU; refine Hid.out ?_)
        apply hidden
        have HR3 : Hid (RowC w3 R (n + 3)) := hidden (by rw [HU.out]; exact RowC.sets _ _ _ HR.out)
        have HC3 : Hid (Cf (Bt R Lz) w w3) := hidden (by rw [HU.out]; exact HCF.out.go (sets5_cf ⟨Nat.le_refl _, HRL.out⟩ _ _ _))
        have HZ3 : Hid (w3.heap.size = wr.heap.size) := hidden (by rw [HU.out, sets5_size])
        have HCL : Hid (∀ i, (j + 1) * 5 ≤ i → w3.cell? ⟨R, i, none⟩ = wr.cell? ⟨R, i, none⟩) := hidden (fun i hi => by
          rw [HU.out]; exact World.cell?_setCells_out R _ _ wr _ (fun _ _ => .inr (by simp only [List.length_cons, List.length_nil]; omega)))
        have HL3 : Hid (Ln6 w3 R cs g (j + 1) n) := hidden (HL.out.keep (by omega) (by rw [HZ3.out]; exact Nat.le_refl _) (fun i h1 _ => HCL.out i (by omega)) (fun a _ ha => by
          have h1 := HL.out.lt a ha
          have h2 := HL.out.gt a ha
          rw [HU.out, World.heap_setCells_other _ _ _ _ (by omega) (by omega)]))
        have HM3 : Hid (∀ t, n ≤ t → j + 1 ≤ t → t < n + 3 → w3.cell? ⟨R, t * 5 + 1, none⟩ = some (.int .i64 (-7))) := hidden (fun t h1 h2 h3 => (HCL.out _ (by omega)).trans (HM.out t h1 (by omega) h3))
        clear HU HR HL HM HCF HCL hm7
        go_wp2
        go_roundw
        case rel => exact ⟨j + 1, by omega, rfl, by go_num, HL3, HM3, HR3, HC3⟩
        case measure => simp [RowKit.intOf]; omega
    · have hltI : ¬ (j : Int) < (n : Int) + 3 := by omega
      clear HL HM
      go_wp2
      go_ret
      exact ⟨rfl, HCF⟩
end Go.Proofs.YtmdabgpeeelhmaaDoor
