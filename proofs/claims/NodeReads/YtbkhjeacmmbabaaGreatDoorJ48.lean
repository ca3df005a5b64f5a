import Derived.Test.YtbkhjeacmmbabaaGreatDoorJ44
import Derived.Test.YtbkhjeacmmbabaaGreatDoorJ47
import Derived.Deep.DeepCutAuto
import Derived.Deep.CutRange
import Derived.Deep.RegionHeld
namespace Go.Proofs.YtbkhjeacmmbabaaGreatDoor
set_option maxRecDepth 100000
open Go.RowKit
set_option maxHeartbeats 4000000 in
theorem put_0 (w : World) (B a : Nat) (k : Int) (n : Nat) (vb vs : Value) (cs : List Cl) (i j : Nat) (ka : Option Addr) (kn kc : Nat) (kd : Int) (va : Option Addr) (vn vc : Nat) (pg ct : Int) (key val : List Int) (hp : Po w B a k n vb vs cs) (C2 : i ≤ j) (C3 : i = 0) (A4 : i = j) (hj : j ≤ cs.length) (hn : n ≤ 65536) (hw : ∀ c ∈ cs, c.Wf) (C4 : ∀ c ∈ cs, c.fit) (hz : szN cs ≤ n) (hk : Sl w ka kn kc key) (hv : Sl w va vn vc val) (hB : B ≤ w.heap.size) :
  Calls Tryz.prog 227 #[.pointer (some ⟨a, 0, none⟩), .int .i64 (i : Int), .int .i64 (j : Int), .agg #[.slice ka kn kc, .int .i64 kd, .slice va vn vc, .int .i64 pg, .int .i64 ct]] w (PuTo w B a k n vb vs cs (cs.take i ++ [⟨key, kd, val, pg, ct⟩] ++ cs.drop j) (putE k n cs i j ⟨key, kd, val, pg, ct⟩)) := by
 have G2 := zaa C3
 have C0 := zaa A4
 clear C3 A4
 have C6 : (n : Int) ≤ 65536 := zq
 have C7 := hk.hroom
 have C8 := hv.hroom
 have A8 := hk.hlen
 have A9 := hv.hlen
 have G3 := zaw cs
 have I8 : (i : Int) ≤ 65536 := zq
 have I9 : (j : Int) ≤ 65536 := zq
 obtain ⟨bo, bc, rfl⟩ := hp.body.slice
 obtain ⟨so, sc, rfl⟩ := hp.starts.shape
 have C9 : mayN k n kn kd vn pg ct ↔ mayP k n ⟨key, kd, val, pg, ct⟩ := by
  have := mayP_iff k n ⟨key, kd, val, pg, ct⟩
  simp only [A8, A9] at this
  exact this
 obtain ⟨s, hs⟩ : ∃ s, w.heap.size = s := ⟨_, rfl⟩
 obtain ⟨x, hx⟩ : ∃ x, w.alloc (.cells #[.slice ka kn kc, .int .i64 kd, .slice va vn vc, .int .i64 pg, .int .i64 ct] 50) = x := ⟨_, rfl⟩
 have J : Below w.heap.size w x := by rw [← hx]; exact zab Br Lr _
 have B8 : Hid (C5 x s (.slice ka kn kc) (.int .i64 kd) (.slice va vn vc) (.int .i64 pg) (.int .i64 ct)) := by rw [← hx, ← hs]; exact zaa (C5.box _ _ _ _ _ _)
 have V := zaa (hp.on J)
 have HK := zaa (hk.on Lr J)
 have HV := zaa (hv.on Lr J)
 have G4 := zaa J
 have HP := zaa hp
 have HW := zaa hw
 have D0 := zaa C4
 have B0 := zaa (fun u => mayBe_any k (n : Int) ka kn kc kd va vn vc pg ct u zq C6 C7 C8)
 have D3 := zaa A8
 have D4 := zaa A9
 have G5 := zaa hB
 rw [zak] at V HP
 rw [zak]
 obtain ⟨bl, W⟩ : ∃ bl, (bdy cs).length = bl := ⟨_, rfl⟩
 obtain ⟨sn, X⟩ : ∃ sn, cs.length = sn := ⟨_, rfl⟩
 rw [W, X] at V HP
 rw [W, X]
 obtain ⟨c0, c1, c2, c3⟩ := V.out.row.cells
 obtain ⟨z0, z1, z2, z3, z4⟩ := B8.out.cells
 obtain ⟨R, hR⟩ : ∃ R, putE k n cs i j ⟨key, kd, val, pg, ct⟩ = R := ⟨_, rfl⟩
 rw [hR]
 unfold putE at hR
 have O : bl ≤ 65536 := zq
 have F7 : sn ≤ 65536 := zq
 have G6 : j ≤ sn := zq
 have Y : Hid (szN cs ≤ 65536) := zaa zq
 have D5 := zaa W
 have D := zaa X
 clear hp hk hv J A8 A9 hw C4 G3 hB W X hz hj
 obtain ⟨bm, B1⟩ : ∃ bm : Bool, decide (mayN k n kn kd vn pg ct) = bm := ⟨_, rfl⟩
 have B2 : Hid (mayP k n ⟨key, kd, val, pg, ct⟩ ↔ bm = true) := zaa (by rw [← C9, ← B1]; simp)
 rw [B1] at B0
 have B3 := zaa hR
 clear hR B1 C9
 go_enter Tryz.func227, Tryz.ntmps227
 go_upto_region 1 with fail
 go_cut [20] (fun v u => v = .bool (!bm) ∧ Hid (Below x.heap.size x u))
 case first =>
  go_wp2_with fail
  go_region_law (first | (go_simp; go_at_call 71; refine (B0.out _).mono ?_; rintro e y ⟨rfl, D7⟩; have B4 := zaa D7; clear D7))
  all_goals (try go_wp2_with fail)
  all_goals go_meet
  all_goals exact ⟨rfl, zaa (by first | exact B4.out | exact zae Br.drew Lr B4.out | exact zae (zac Br _) Lr B4.out)⟩
 obtain ⟨rfl, L⟩ := hcut
 obtain ⟨u1, G7⟩ : ∃ u1, u1 = wc := ⟨_, rfl⟩
 subst G7
 have D8 : Hid (Below w.heap.size w u1) := zaa (zae G4.out Lr L.out)
 cases bm with
 | false =>
  have hR := B3.out
  rw [if_pos (by rw [B2.out]; simp)] at hR
  subst hR
  go_wp2
  go_ret
  exact PuTo.same HP.out D8.out zd
 | true =>
  have D9 := zaa (V.out.on L.out)
  have A5 : Hid (C5 u1 s (.slice ka kn kc) (.int .i64 kd) (.slice va vn vc) (.int .i64 pg) (.int .i64 ct)) := zaa (zag B8.out L.out)
  have E0 := zaa (HK.out.on Lr L.out)
  have G8 := zaa (HV.out.on Lr L.out)
  have G : ∀ y, Below u1.heap.size u1 y → PgAt y a k n bo bl bc so sn sc cs := fun y hy => (D9.out.on hy).pg HW.out Y.out
  have HO : Hid (OrdC u1 s a ka kn kc key cs i j sn) := zaa ⟨fun y hy => (show C5 y s (.slice ka kn kc) (.int .i64 kd) (.slice va vn vc) (.int .i64 pg) (.int .i64 ct) from zag A5.out hy).cells.1, fun y hy => E0.out.on Lr hy,
   fun y hy => (lenR_any y a k n (.slice bo bl bc) so sn sc (G y hy).row).mono (by rintro e y' ⟨rfl, rfl⟩; exact ⟨rfl, zaa hy⟩),
   fun t ht y hy => (key_any y a k n bo bl bc so sn sc cs (G y hy) D0.out t (by have := D.out; omega) O).mono (by rintro e y' ⟨k1, k2, k3, rfl, H1, H2⟩; exact ⟨k1, k2, k3, rfl, H1, zaa (zae hy Lr H2.out)⟩),
   fun Z y hy => (key_any y a k n bo bl bc so sn sc cs (G y hy) D0.out j (by have := D.out; omega) O).mono (by rintro e y' ⟨k1, k2, k3, rfl, H1, H2⟩; exact ⟨k1, k2, k3, rfl, H1, zaa (zae hy Lr H2.out)⟩)⟩
  have E1 : Hid ((if (0 < i ∧ ¬ kl (kyL cs (i - 1)) key) ∨ (j < cs.length ∧ ¬ kl key (kyL cs j)) then 63 else if n < szN (cs.take i ++ [⟨key, kd, val, pg, ct⟩] ++ cs.drop j) then 61 else 0) = R) := zaa (by
   have := B3.out
   rw [if_neg (by rw [B2.out]; simp)] at this
   exact this)
  clear c0 c1 c2 c3 z0 z1 z2 z3 z4 hx B0 G B3
  have E : Hid (∀ y, Below u1.heap.size u1 y → y.cell? ⟨s, 0, none⟩ = some (.slice ka kn kc)) := zaa HO.out.box
  have E2 : Hid (∀ y, Below u1.heap.size u1 y → Sl y ka kn kc key) := zaa HO.out.ck
  have P := zaa HO.out.len
  go_upto_region 3 with fail
  go_cut [47] (fun v u => ∃ bb : Bool, v = .bool bb ∧ Hid (bb = true ↔ badO cs i j key) ∧ Hid (Below u1.heap.size u1 u))
  case first =>
   by_cases E3 : i = 0
   ·subst E3
    by_cases Z : j < sn
    ·have F8 : (j : Int) < (sn : Int) := zq
     have G9 := zaa (HO.out.kj Z)
     go_wp2_with fail
     refine wp_region_held_drew (S := (fun u => u.cell? ⟨s, 0, none⟩ = some (.slice ka kn kc))) (by kernel_rfl) (E.out _ Br.drew) (fun A => ?_)
     refine zCi 0 ?_
     iterate 3 (refine zTc ?_ rfl ?_ ?_; rotate_left; (· (intro w s0; go_simp; try with_reducible rfl)); try simp only [Act.put, zA, zB, zC, zD, zE, zF])
     refine zCo ?_
     refine zCi 3 ?_
     iterate 8 (refine zUc rfl ?_; try simp only [Act.put, zA, zB, zC, zD, zE, zF])
     refine zCo ?_
     refine zCi 11 ?_
     iterate 4 (refine zTc ?_ rfl ?_ ?_; rotate_left; (· (intro w s0; go_simp; try with_reducible rfl)); try simp only [Act.put, zA, zB, zC, zD, zE, zF])
     refine zCo ?_
     refine zY (i := 15) rfl fun K hK => ?_
     go_simp
     go_at_call 75
     refine (P.out _ zW1).mono ?_
     rintro e yl ⟨rfl, C⟩
     dsimp only
     refine hK.out _ _ (E.out _ C.out) (fun A => ?_)
     clear hK K
     try simp only [Act.put, zA, zB, zC, zD, zE, zF]
     refine zCi 16 ?_
     iterate 6 (refine zTc ?_ rfl ?_ ?_; rotate_left; (· (intro w s0; go_simp; try with_reducible rfl)); try simp only [Act.put, zA, zB, zC, zD, zE, zF])
     refine zCo ?_
     refine zY (i := 22) rfl fun K hK => ?_
     go_simp
     go_at_call 228
     refine (G9.out _ (by first | exact Br | exact Br.drew | exact zac Br _ | exact C.out | exact zac C.out _)).mono ?_
     rintro e yj ⟨koyj, knyj, kcyj, rfl, F9, H⟩
     dsimp only
     refine hK.out _ _ (E.out _ H.out) (fun A => ?_)
     clear hK K
     try simp only [Act.put, zA, zB, zC, zD, zE, zF]
     refine zY (i := 23) rfl fun K hK => ?_
     go_simp
     go_at_call 72
     refine zad (rise_any _ _ _ _ _ _ _ _ _ (E2.out _ H.out) F9.out) ?_
     dsimp only
     refine hK.out _ _ (E.out _ H.out) (fun A => ?_)
     clear hK K
     try simp only [Act.put, zA, zB, zC, zD, zE, zF]
     refine zCi 24 ?_
     iterate 3 (refine zTc ?_ rfl ?_ ?_; rotate_left; (· (intro w s0; go_simp; try with_reducible rfl)); try simp only [Act.put, zA, zB, zC, zD, zE, zF])
     refine zCo ?_
     refine wpAnyH_done (by kernel_rfl) ?_ _
     try go_wp2_with fail
     go_meet
     exact ⟨_, rfl, zaa (by unfold badO; rw [D.out]; simp [Z]), zaa (zac H.out 0)⟩
    ·have F8 : ¬ (j : Int) < (sn : Int) := zq
     go_wp2_with fail
     refine wp_region_held_drew (S := (fun u => u.cell? ⟨s, 0, none⟩ = some (.slice ka kn kc))) (by kernel_rfl) (E.out _ Br.drew) (fun A => ?_)
     refine zCi 0 ?_
     iterate 3 (refine zTc ?_ rfl ?_ ?_; rotate_left; (· (intro w s0; go_simp; try with_reducible rfl)); try simp only [Act.put, zA, zB, zC, zD, zE, zF])
     refine zCo ?_
     refine zCi 3 ?_
     iterate 8 (refine zUc rfl ?_; try simp only [Act.put, zA, zB, zC, zD, zE, zF])
     refine zCo ?_
     refine zCi 11 ?_
     iterate 4 (refine zTc ?_ rfl ?_ ?_; rotate_left; (· (intro w s0; go_simp; try with_reducible rfl)); try simp only [Act.put, zA, zB, zC, zD, zE, zF])
     refine zCo ?_
     refine zY (i := 15) rfl fun K hK => ?_
     go_simp
     go_at_call 75
     refine (P.out _ zW1).mono ?_
     rintro e yl ⟨rfl, C⟩
     dsimp only
     refine hK.out _ _ (E.out _ C.out) (fun A => ?_)
     clear hK K
     try simp only [Act.put, zA, zB, zC, zD, zE, zF]
     refine zCi 16 ?_
     iterate 2 (refine zTc ?_ rfl ?_ ?_; rotate_left; (· (intro w s0; go_simp; try with_reducible rfl)); try simp only [Act.put, zA, zB, zC, zD, zE, zF])
     refine zCo ?_
     refine zCi 18 ?_
     iterate 7 (refine zUc rfl ?_; try simp only [Act.put, zA, zB, zC, zD, zE, zF])
     refine zCo ?_
     refine zCi 25 ?_
     iterate 2 (refine zTc ?_ rfl ?_ ?_; rotate_left; (· (intro w s0; go_simp; try with_reducible rfl)); try simp only [Act.put, zA, zB, zC, zD, zE, zF])
     refine zCo ?_
     refine wpAnyH_done (by kernel_rfl) ?_ _
     try go_wp2_with fail
     go_meet
     exact ⟨false, rfl, zaa (by unfold badO; rw [D.out]; simp [Z]), zaa (zac C.out 0)⟩
   ·exact absurd G2.out E3
  obtain ⟨bb, rfl, E4, M⟩ := hcut
  obtain ⟨u2, H0⟩ : ∃ u2, u2 = wc := ⟨_, rfl⟩
  subst H0
  have E5 : Hid (Below w.heap.size w u2) := zaa (zae D8.out Lr M.out)
  clear E E2 P HO
  cases bb with
  | true =>
   have hR := E1.out
   have H3 : (0 < i ∧ ¬ kl (kyL cs (i - 1)) key) ∨ (j < cs.length ∧ ¬ kl key (kyL cs j)) := E4.out.1 rfl
   rw [if_pos H3] at hR
   subst hR
   go_wp2
   go_ret
   exact PuTo.same HP.out E5.out zd
  | false =>
   have E7 : Hid ((if n < szN (cs.take i ++ [⟨key, kd, val, pg, ct⟩] ++ cs.drop j) then 61 else 0) = R) := zaa (by
    have := E1.out
    rw [if_neg (fun h => by have := E4.out.2 h; cases this)] at this
    exact this)
   have N := zaa (D9.out.on M.out)
   have A6 : Hid (C5 u2 s (.slice ka kn kc) (.int .i64 kd) (.slice va vn vc) (.int .i64 pg) (.int .i64 ct)) := zaa (zag A5.out M.out)
   have E8 := zaa (E0.out.on Lr M.out)
   have E9 := zaa (G8.out.on Lr M.out)
   obtain ⟨F, hF⟩ : ∃ F, (bdy (cs.take i)).length = F := ⟨_, rfl⟩
   obtain ⟨T, hT⟩ : ∃ T, (bdy (cs.take j)).length = T := ⟨_, rfl⟩
   have F0 : Hid (∀ x y : Nat, (x = i ∧ y = F) ∨ (x = j ∧ y = T) → Calls Tryz.prog 112 #[.pointer (some ⟨a, 0, none⟩), .int .i64 (x : Int)] u2 fun e w' => e = .returned (.int .i64 (y : Int)) ∧ w' = u2) := zaa (by
    rintro x y (⟨rfl, rfl⟩ | ⟨rfl, rfl⟩)
    ·rw [← hF]; exact start_any u2 B a k n _ _ cs N.out Y.out x (by have := D.out; omega)
    ·rw [← hT]; exact start_any u2 B a k n _ _ cs N.out Y.out x (by have := D.out; omega))
   have J0 : T ≤ bl := by rw [← hT, ← D5.out]; exact zce cs j
   have J1 : F ≤ T := by
    rw [← hF, ← hT]
    have := zce (cs.take j) i
    rwa [List.take_take, Nat.min_eq_left C2] at this
   obtain ⟨Gn, H4⟩ : ∃ Gn : Nat, T - F + (j - i) * 2 = Gn := ⟨_, rfl⟩
   have J2 : (T : Int) - (F : Int) + ((j : Int) - (i : Int)) * 2 = (Gn : Int) := zq
   obtain ⟨Tk, A0⟩ : ∃ Tk : Nat, ctk ⟨key, kd, val, pg, ct⟩ = Tk := ⟨_, rfl⟩
   have F1 : Hid ((if kd = 1 then 7 + (kn : Int) + (vn : Int) else 13 + (kn : Int)) = (Tk : Int)) := by
    have := ctk_int ⟨key, kd, val, pg, ct⟩
    rw [A0] at this
    simp only [D3.out, D4.out] at this
    exact zaa this
   have B5 : Hid (szN (cs.take i ++ [⟨key, kd, val, pg, ct⟩] ++ cs.drop j) + Gn = 8 + 2 * sn + bl + Tk) := zaa (by
    have h1 := cB_length ⟨key, kd, val, pg, ct⟩
    have h2 : (bdy [(⟨key, kd, val, pg, ct⟩ : Cl)]).length = (cB ⟨key, kd, val, pg, ct⟩).length := by simp [bdy]
    have h3 : (bdy (cs.drop j)).length = bl - T := by rw [← bdy_drop, zK, D5.out, hT]
    have h4 : (cs.take i ++ [(⟨key, kd, val, pg, ct⟩ : Cl)] ++ cs.drop j).length = i + 1 + (sn - j) := by
     simp only [zG, zJ, zK, List.length_cons, List.length_nil, D.out]
     omega
    have h5 : (bdy (cs.take i ++ [(⟨key, kd, val, pg, ct⟩ : Cl)] ++ cs.drop j)).length = F + (cB ⟨key, kd, val, pg, ct⟩).length + (bl - T) := by rw [zbe, zbe, zG, zG, h2, h3, hF]
    rw [zaw, h4, h5]
    rw [A0] at h1
    have I3 : j ≤ sn := G6
    omega)
   have I4 : (Tk : Int) ≤ 281474976800000 := by
    have := F1.out
    split at this <;> omega
   have G0 : Gn ≤ 8 + 2 * sn + bl := zq
   have I5 : (Gn : Int) ≤ 300000 := zq
   have J3 : (F : Int) ≤ 65536 := zq
   have I6 : (T : Int) ≤ 65536 := zq
   have I : Hid (∀ y, Below u2.heap.size u2 y → y.cell? ⟨a, 1, none⟩ = some (.int .i64 (n : Int)) ∧ y.cell? ⟨s, 0, none⟩ = some (.slice ka kn kc) ∧ y.cell? ⟨s, 1, none⟩ = some (.int .i64 kd) ∧ y.cell? ⟨s, 2, none⟩ = some (.slice va vn vc) ∧ y.cell? ⟨s, 3, none⟩ = some (.int .i64 pg) ∧ y.cell? ⟨s, 4, none⟩ = some (.int .i64 ct)) := zaa fun y hy => by
    have h5 : C5 y s (.slice ka kn kc) (.int .i64 kd) (.slice va vn vc) (.int .i64 pg) (.int .i64 ct) := zag A6.out hy
    exact ⟨(N.out.on hy).row.cells.2.1, h5.cells⟩
   have CU : Hid (∀ y, Below u2.heap.size u2 y → Calls Tryz.prog 222 #[.pointer (some ⟨a, 0, none⟩)] y fun e y' => e = .returned (.int .i64 ((8 + 2 * sn + bl : Nat) : Int)) ∧ Hid (Below u2.heap.size u2 y') ∧ (y'.cell? ⟨a, 1, none⟩ = some (.int .i64 (n : Int)) ∧ y'.cell? ⟨s, 0, none⟩ = some (.slice ka kn kc) ∧ y'.cell? ⟨s, 1, none⟩ = some (.int .i64 kd) ∧ y'.cell? ⟨s, 2, none⟩ = some (.slice va vn vc) ∧ y'.cell? ⟨s, 3, none⟩ = some (.int .i64 pg) ∧ y'.cell? ⟨s, 4, none⟩ = some (.int .i64 ct))) := by
    refine zaa fun y hy => (used_row y a k n bo bl bc so sn sc (N.out.on hy).row O F7).mono ?_
    rintro e y' ⟨rfl, q, rfl⟩
    exact ⟨rfl, zaa (zac hy _), I.out _ (zac hy _)⟩
   have CT : Hid (∀ y, Hid (Below u2.heap.size u2 y) → Calls Tryz.prog 70 #[.agg #[.slice ka kn kc, .int .i64 kd, .slice va vn vc, .int .i64 pg, .int .i64 ct]] y fun e y' => e = .returned (.int .i64 (Tk : Int)) ∧ Hid (Below u2.heap.size u2 y') ∧ (y'.cell? ⟨a, 1, none⟩ = some (.int .i64 (n : Int)) ∧ y'.cell? ⟨s, 0, none⟩ = some (.slice ka kn kc) ∧ y'.cell? ⟨s, 1, none⟩ = some (.int .i64 kd) ∧ y'.cell? ⟨s, 2, none⟩ = some (.slice va vn vc) ∧ y'.cell? ⟨s, 3, none⟩ = some (.int .i64 pg) ∧ y'.cell? ⟨s, 4, none⟩ = some (.int .i64 ct))) := by
    refine zaa fun y hy => (ptaken_any ka kn kc kd va vn vc pg ct y C7 C8).mono ?_
    rintro e y' ⟨rfl, hb⟩
    rw [F1.out]
    exact ⟨rfl, zaa (zae hy.out Lr hb), I.out _ (zae hy.out Lr hb)⟩
   obtain ⟨Us, B6⟩ : ∃ Us : Nat, 8 + 2 * sn + bl = Us := ⟨_, rfl⟩
   rw [B6] at CU G0 B5
   have I7 : (Us : Int) ≤ 300000 := zq
   have H5 := zaa B6
   have J4 := zaa hF
   have J5 := zaa hT
   have G1 := zaa A0
   obtain ⟨c1, z0, z1, z2, z3, z4⟩ := I.out u2 Br
   have w1 : IntKind.i64.wrap ((Us : Int) - (Gn : Int)) = (Us : Int) - (Gn : Int) := by rw [IntKind.wrap_i64]; omega
   have w2 : IntKind.i64.wrap ((Us : Int) - (Gn : Int) + (Tk : Int)) = (Us : Int) - (Gn : Int) + (Tk : Int) := by rw [IntKind.wrap_i64]; omega
   obtain ⟨bs, F2⟩ : ∃ bs : Bool, decide ((n : Int) < (Us : Int) - (Gn : Int) + (Tk : Int)) = bs := ⟨_, rfl⟩
   have F3 : Hid (n < szN (cs.take i ++ [⟨key, kd, val, pg, ct⟩] ++ cs.drop j) ↔ bs = true) := zaa (by
    rw [← F2, zQ]
    have := B5.out
    omega)
   clear B6 hF hT A0 D3 D4 H4
   go_wp2_with (go_at_call 112; refine zad (F0.out _ _ (by first | exact .inl ⟨rfl, rfl⟩ | exact .inr ⟨rfl, rfl⟩)) ?_)
   clear F0
   go_cut [71] (fun v u => v = .bool bs ∧ Hid (Below u2.heap.size u2 u))
   case first =>
    go_wp2_with fail
    go_region_law (first
     | (go_simp; go_at_call 70; refine (CT.out _ H6).mono ?_; rintro e y2 ⟨rfl, H7, t1, t2, t3, t4, t5, t6⟩)
     | (go_simp; go_at_call 222; refine (CU.out _ zW1).mono ?_; rintro e y1 ⟨rfl, H6, s1, s2, s3, s4, s5, s6⟩))
    all_goals (try go_wp2_with fail)
    all_goals go_meet
    all_goals exact ⟨by congr 1, H7⟩
   obtain ⟨rfl, A1⟩ := hcut
   obtain ⟨u3, H8⟩ : ∃ u3, u3 = wc := ⟨_, rfl⟩
   subst H8
   have F4 : Hid (Below w.heap.size w u3) := zaa (zae E5.out Lr A1.out)
   clear c1 z0 z1 z2 z3 z4 CU CT I w1 w2 F2
   cases bs with
   | true =>
    have hR := E7.out
    rw [if_pos (F3.out.2 rfl)] at hR
    subst hR
    go_wp2
    go_ret
    exact PuTo.same HP.out F4.out zd
   | false =>
    have A7 : ¬ n < szN (cs.take i ++ [⟨key, kd, val, pg, ct⟩] ++ cs.drop j) := fun h => by have := F3.out.1 h; cases this
    have hR := E7.out
    rw [if_neg A7] at hR
    subst hR
    have H9 := zaa (N.out.on A1.out)
    have C1 : Hid (C5 u3 s (.slice ka kn kc) (.int .i64 kd) (.slice va vn vc) (.int .i64 pg) (.int .i64 ct)) := zaa (zag A6.out A1.out)
    obtain ⟨z0, z1, z2, z3, z4⟩ := C1.out.cells
    obtain ⟨v, hv⟩ : ∃ v, u3.alloc (.cells #[.slice ka kn kc, .int .i64 kd, .slice va vn vc, .int .i64 pg, .int .i64 ct] 50) = v := ⟨_, rfl⟩
    have A2 : Below u3.heap.size u3 v := by rw [← hv]; exact zab Br Lr _
    obtain ⟨g, hg⟩ : ∃ g, u3.heap.size = g := ⟨_, rfl⟩
    have B7 : Below u2.heap.size u2 v := zae A1.out Lr A2
    have A3 : Hid (Below w.heap.size w v) := zaa (zae F4.out Lr A2)
    have Q := E8.out.hlen
    have U := E9.out.hlen
    have I0 : Hid (SlC v (some ⟨g, 0, none⟩) 1 1 [⟨key, kd, val, pg, ct⟩]) := by
     have F5 : C5 v g (.slice ka kn kc) (.int .i64 kd) (.slice va vn vc) (.int .i64 pg) (.int .i64 ct) := by rw [← hv, ← hg]; exact C5.box _ _ _ _ _ _
     obtain ⟨e0, e1, e2, e3, e4⟩ := F5.cells
     refine zaa ⟨rfl, Lr, zq, (by intro h; cases h), .inr ⟨g, 0, rfl, zaf F5, fun q c hc => ?_⟩⟩
     have hi : q = 0 := by have := (zH.1 hc).1; simpa using this
     subst hi
     simp only [List.getElem?_cons_zero, Option.some.injEq] at hc
     subst hc
     refine ⟨ka, kc, va, vc, ?_, e1, ?_, e3, e4, ?_, ?_⟩
     ·rw [Q]; exact e0
     ·rw [U]; exact e2
     ·rw [Q]; exact E8.out.on Lr B7
     ·rw [U]; exact E9.out.on Lr B7
    have B9 : szN [(⟨key, kd, val, pg, ct⟩ : Cl)] ≤ 65536 := by
     have h1 := B5.out
     have h2 := H5.out
     have h3 := G1.out
     have e : szN [(⟨key, kd, val, pg, ct⟩ : Cl)] = 8 + Tk := by simp [szN, h3]
     rw [e]
     omega
    have F6 := zaa (replace_eq v B a k n (.slice bo bl bc) (.slice so sn sc) cs i j (some ⟨g, 0, none⟩) 1 1 [⟨key, kd, val, pg, ct⟩] (H9.out.on A2) C2 C0.out (by have := D.out; omega) I0.out (fun c hc => by
     simp at hc
     subst hc
     exact (B2.out.2 (by first | rfl | trivial)).fit C6) Y.out B9 (.inr zq) (zN G5.out A3.out.size))
    clear A2 B7 Q U A7 B9
    go_wp2_with (go_at_call 73; refine F6.out.mono ?_; rintro e w9 ⟨rfl, I1, I2⟩; refine Hid.out ?_)
    apply zaa
    clear F6
    go_wp2
    go_ret
    refine ⟨rfl, zaa ?_, zaa ((Cf.of_below A3.out).go I2.out)⟩
    obtain ⟨vb', vs', p1, p2, p3⟩ := I1.out
    exact ⟨vb', vs', by simpa using p1, p2.imp id (fun ⟨q, h1, h2⟩ => ⟨q, h1, zN A3.out.size h2⟩), p3.imp id (fun ⟨q, h1, h2⟩ => ⟨q, h1, zN A3.out.size h2⟩)⟩
end Go.Proofs.YtbkhjeacmmbabaaGreatDoor
