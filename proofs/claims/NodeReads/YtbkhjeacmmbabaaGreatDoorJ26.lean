import Derived.Test.YtbkhjeacmmbabaaGreatDoorJ25
namespace Go.Proofs.YtbkhjeacmmbabaaGreatDoor
set_option maxRecDepth 100000
open Go.RowKit
theorem bz {w u u' : World} {g : Nat} (hg : w.heap.size = g) (hb : Below w.heap.size w u) (hc : Cf (· = g) u u') : Below w.heap.size w u' := hb.trans (hc.below hb.size (by intro k hk e; omega))
theorem made_bk (w : World) (n : Nat) : OwnZ (w.alloc (.cells (madeCells #[.int .u8 0] n) 5)) w.heap.size n [] := by
 refine ⟨?_, Nat.zero_le _⟩
 unfold Bk
 rw [heap_alloc_last]
 congr 2
 apply Array.toList_inj.1
 rw [toList_madeCells_one]
 simp [By, zs]
theorem OwnZ.more {w : World} {g N : Nat} {l : List Int} (h : OwnZ w g N l) (m : Nat) (hm : l.length + m ≤ N) : OwnZ w g N (l ++ zs m) := by
 obtain ⟨h1, h2⟩ := h
 refine ⟨?_, by rw [zG, zbc]; exact hm⟩
 rw [zM, ← zs_add, zG, zbc, show m + (N - (l.length + m)) = N - l.length by omega]
 exact h1
theorem OwnZ.sl {w : World} {g N : Nat} {l : List Int} (h : OwnZ w g N l) (hw : Wf l) (hN : N ≤ 140737488355328) : Sl w (some ⟨g, 0, none⟩) l.length N l := by
 obtain ⟨h1, h2⟩ := h
 refine ⟨rfl, h2, zq, hw, (by intro h; cases h), .inr ⟨g, 0, rfl, zaf h1, fun i hi => ?_⟩⟩
 rw [Nat.zero_add, h1.cell i (by rw [zG]; omega)]
 simp [List.getD, zL hi]
def wrL (k : Int) (n : Nat) (P body : List Int) (st : List Nat) : List Int := [k, 2] ++ (fB 2 st.length ++ (fB 2 P.length ++ (P ++ (sloB (st.map (6 + P.length + 2 * st.length + ·)) ++ (body ++ zs (n - (10 + P.length + 2 * st.length + body.length)))))))
theorem sloB_take (l : List Nat) (j : Nat) (s : Nat) (h : l[j]? = some s) : sloB (l.take (j + 1)) = sloB (l.take j) ++ fB 2 (s : Int) := by
 rw [List.take_add_one, h]
 simp [sloB]
set_option maxHeartbeats 8000000 in
theorem written_any (w : World) (a : Nat) (k : Int) (n : Nat) (po : Option Addr) (pn pc : Nat) (bo : Option Addr) (bn bc : Nat) (so : Option Addr) (sn sc : Nat) (ws : Int) (P body : List Int) (st : List Nat) (h : PgQ w a k n po pn pc bo bn bc so sn sc ws P body st) (hk : isKd k) (hn : n ≤ 65536)
  (F1 : 10 + P.length + 2 * st.length + body.length ≤ n) (B4 : ∀ s ∈ st, s ≤ body.length) (ht : Tab w) (h0 : 1 < w.heap.size) :
  Calls Tryz.prog 87 #[.pointer (some ⟨a, 0, none⟩)] w fun e w' => ∃ g, e = .returned (.slice (some ⟨g, 0, none⟩) n n) ∧ w.heap.size ≤ g ∧ Hid (Bk w' g (sealB (wrL k n P body st))) ∧ Hid (Below w.heap.size w w') := by
 have A := zaa h
 have HT := zaa ht
 have G7 : IntKind.u8.wrap k = k := by unfold isKd at hk; rw [IntKind.wrap_u8]; omega
 have B5 : 0 ≤ k ∧ k ≤ 255 := by unfold isKd at hk; omega
 have T : P.length = pn := h.pre.hlen
 have U : body.length = bn := h.body.hlen
 have V : st.length = sn := h.starts.hlen
 rw [T, U, V] at F1
 have B6 := zaa T
 have W := zaa U
 have X := zaa V
 have F3 := zaa B4
 obtain ⟨g, hg⟩ : ∃ g, w.heap.size = g := ⟨_, rfl⟩
 have HG := zaa hg
 have G8 := made_run n zq
 obtain ⟨x, hx⟩ : ∃ x, w.alloc (.cells (madeCells #[.int .u8 0] n) 5) = x := ⟨_, rfl⟩
 have Y : Below w.heap.size w x := by rw [← hx]; exact zab Br Lr _
 have B7 : Hid (OwnZ x g n []) := zaa (by rw [← hx, ← hg]; exact made_bk w n)
 obtain ⟨y, hy⟩ : ∃ y, x.alloc (.cells #[.int .u8 k, .int .u8 2] 5) = y := ⟨_, rfl⟩
 have Z : Below x.heap.size x y := by rw [← hy]; exact zab Br Lr _
 have B8 : Hid (OwnZ y g n []) := zaa (B7.out.on Z)
 have B9 : Hid (Sl y (some ⟨x.heap.size, 0, none⟩) 2 2 [k, 2]) := zaa (by
  refine ⟨rfl, Lr, zq, Wf.cons B5 (Wf.cons zq Wf.nil), (by intro h; cases h), .inr ⟨x.heap.size, 0, rfl, by rw [← hy]; simp, fun i hi => ?_⟩⟩
  have hi' : i = 0 ∨ i = 1 := zq
  rw [← hy]
  rcases hi' with rfl | rfl <;> simp)
 have C0 : Hid (Below w.heap.size w y) := zaa (zae Y Lr Z)
 obtain ⟨c0, c1, c2, c3, c4, c5⟩ := h.cells
 obtain ⟨d0, d1, d2, d3, d4, d5⟩ := (h.on Y).cells
 have G9 : (n : Int) ≤ 65536 := zq
 have G3 : (sn : Int) ≤ 65536 := zq
 have G4 : (pn : Int) ≤ 65536 := zq
 clear h ht hk B4 Y Z T U V
 go_enter Tryz.func87, Tryz.ntmps87
 go_wp2_with (at_builtin; refine app_z _ rfl _ _ rfl g n [] [k, 2] 0 (some ⟨x.heap.size, 0, none⟩) 2 2 rfl rfl rfl B8.out B9.out zq zq ?_; refine Hid.out ?_)
 apply zaa
 intro w2 C1 C2
 have A0 : Hid (Below w.heap.size w w2) := zaa (bz HG.out C0.out C2.out)
 clear B7 B8 B9 C0 C2 c0 c1 c2 c3 c4 c5 d0 d1 d2 d3 d4 d5 hx hy
 obtain ⟨c0, c1, c2, c3, c4, c5⟩ := (A.out.on A0.out).cells
 have HW := zaa (withShort_z g n [k, 2] 2 sn w2 rfl C1.out zq zq hn)
 go_wp2_with (go_at_call 128; refine HW.out.mono ?_; rintro e w3 ⟨rfl, C3, C4⟩; refine Hid.out ?_)
 apply zaa
 have A1 : Hid (Below w.heap.size w w3) := zaa (bz HG.out A0.out C4.out)
 clear HW C1 C4 A0 c0 c1 c2 c3 c4 c5
 obtain ⟨c0, c1, c2, c3, c4, c5⟩ := (A.out.on A1.out).cells
 have HW := zaa (withShort_z g n ([k, 2] ++ fB 2 (sn : Int)) 4 pn w3 (by simp [zah]) C3.out zq zq hn)
 go_wp2_with (go_at_call 128; refine HW.out.mono ?_; rintro e w4 ⟨rfl, G, C6⟩; refine Hid.out ?_)
 apply zaa
 have I : Hid (Below w.heap.size w w4) := zaa (bz HG.out A1.out C6.out)
 clear HW C3 C6 A1 c0 c1 c2 c3 c4 c5
 obtain ⟨c0, c1, c2, c3, c4, c5⟩ := (A.out.on I.out).cells
 obtain ⟨L4, J⟩ : ∃ L, [k, 2] ++ fB 2 (sn : Int) ++ fB 2 (pn : Int) = L := ⟨_, rfl⟩
 replace G : Hid (OwnZ w4 g n L4) := zaa (by rw [← J]; simpa using G.out)
 have C7 : Hid (L4.length = 6) := zaa (by rw [← J]; simp [zah])
 have A2 := zaa J
 have C8 := zaa (A.out.on I.out).pre
 clear J
 go_wp2_with (at_builtin; refine app_z _ rfl _ _ rfl g n L4 P 6 po pn pc C7.out rfl rfl G.out C8.out zq zq ?_; refine Hid.out ?_)
 apply zaa
 intro w5 K C9
 have A3 : Hid (Below w.heap.size w w5) := zaa (bz HG.out I.out C9.out)
 clear G C9 I C8 c0 c1 c2 c3 c4 c5
 obtain ⟨c0, c1, c2, c3, c4, c5⟩ := (A.out.on A3.out).cells
 obtain ⟨L5, M⟩ : ∃ L, L4 ++ P = L := ⟨_, rfl⟩
 replace K : Hid (OwnZ w5 g n L5) := zaa (by rw [← M]; simpa using K.out)
 have F4 : Hid (L5.length = 6 + pn) := zaa (by rw [← M, zG, C7.out, B6.out])
 have A4 := zaa M
 obtain ⟨F, hF⟩ : ∃ F, 6 + pn + 2 * sn = F := ⟨_, rfl⟩
 have HF := zaa hF
 have H0 : 6 + (pn : Int) + 2 * (sn : Int) = (F : Int) := zq
 have H1 : (F : Int) ≤ 65536 := zq
 clear M
 obtain ⟨tt, N⟩ : ∃ tt, st.map (F + ·) = tt := ⟨_, rfl⟩
 have A5 : Hid (tt.length = sn) := zaa (by rw [← N, List.length_map, X.out])
 have F5 : Hid (∀ j s, st[j]? = some s → tt[j]? = some (F + s)) := zaa (by intro j s hj; rw [← N, List.getElem?_map, hj]; rfl)
 have D0 := zaa N
 clear N
 go_wp2_with fail
 go_loopw [3, 54] (fun v i wr => ∃ j : Nat, j ≤ sn ∧ i = .int .i64 j ∧ v = .slice (some ⟨g, 0, none⟩) (6 + pn + 2 * j) n ∧ Hid (OwnZ wr g n (L5 ++ sloB (tt.take j))) ∧ Hid (Below w.heap.size w wr)) (fun _ i _ => sn - (intOf i).toNat)
 case atStart => exact ⟨0, zq, rfl, zv, zaa (by simpa [sloB] using K.out), A3⟩
 case round =>
  obtain ⟨j, hj, rfl, rfl, HZ, HB⟩ := hrel
  clear K A3 c0 c1 c2 c3 c4 c5
  have bj : (j : Int) ≤ 65536 := zq
  have B := zaa (A.out.on HB.out)
  obtain ⟨c0, c1, c2, c3, c4, c5⟩ := B.out.cells
  have A6 : Hid ((L5 ++ sloB (tt.take j)).length = 6 + pn + 2 * j) := zaa (by
   rw [zG, F4.out, zbl, zJ, A5.out]
   omega)
  by_cases D3 : j < sn
  ·have G5 : (j : Int) < (sn : Int) := zq
   obtain ⟨gs, offs, rfl, H2, D4⟩ : ∃ b off, so = some ⟨b, off, none⟩ ∧ b < wr.heap.size ∧ ∀ j, j < sn → wr.cell? ⟨b, off + j, none⟩ = some (.int .i64 ((st.getD j 0 : Nat) : Int)) := by
    rcases B.out.starts.hat with h0 | h0
    ·omega
    ·exact h0
   have cj := D4 j D3
   obtain ⟨s, hs⟩ : ∃ s, st[j]? = some s := ⟨_, zI (by rw [X.out]; exact D3)⟩
   rw [show st.getD j 0 = s from by simp [List.getD, hs]] at cj
   have F6 := F3.out s (List.mem_of_getElem? hs)
   rw [W.out] at F6
   have A7 := zaa (sloB_take tt j (F + s) (F5.out j s hs))
   obtain ⟨q, hq⟩ : ∃ q, F + s = q := ⟨_, rfl⟩
   rw [hq] at A7
   have H3 : (F : Int) + (s : Int) = (q : Int) := zq
   have H4 : (q : Int) ≤ 65536 := zq
   have G6 : (s : Int) ≤ 65536 := zq
   have HW := zaa (withShort_z g n (L5 ++ sloB (tt.take j)) (6 + pn + 2 * j) q wr A6.out HZ.out zq zq hn)
   clear D4 hs hq
   go_wp2_with (go_at_call 128; refine HW.out.mono ?_; rintro e w6 ⟨rfl, C, D5⟩; refine Hid.out ?_)
   apply zaa
   have F7 : Hid (Below w.heap.size w w6) := zaa (bz HG.out HB.out D5.out)
   have O : Hid (OwnZ w6 g n (L5 ++ sloB (tt.take (j + 1)))) := zaa (by rw [A7.out, ← zM]; exact C.out)
   clear HW C D5 HZ HB B A7 cj
   go_wp2
   go_roundw
   case rel => exact ⟨j + 1, zq, by go_num, by simp; omega, O, F7⟩
   case measure => simp [intOf]; omega
  ·obtain rfl : j = sn := zq
   have H5 : ¬ (j : Int) < (j : Int) := zq
   obtain ⟨L6, Q⟩ : ∃ L, L5 ++ sloB tt = L := ⟨_, rfl⟩
   have C : Hid (OwnZ wr g n L6) := zaa (by
    have := HZ.out
    rwa [List.take_of_length_le (by rw [A5.out]; exact Lr), Q] at this)
   have D7 : Hid (L6.length = 6 + pn + 2 * j) := zaa (by
    have := A6.out
    rwa [List.take_of_length_le (by rw [A5.out]; exact Lr), Q] at this)
   have A8 := zaa Q
   have D8 := zaa B.out.body
   clear HZ A6 Q
   go_wp2_with (at_builtin; refine app_z _ rfl _ _ rfl g n L6 body (6 + pn + 2 * j) bo bn bc D7.out rfl rfl C.out D8.out zq zq ?_; refine Hid.out ?_)
   apply zaa
   intro w7 O D9
   have R : Hid (Below w.heap.size w w7) := zaa (bz HG.out HB.out D9.out)
   clear C D9 HB B D8 c0 c1 c2 c3 c4 c5
   obtain ⟨c0, c1, c2, c3, c4, c5⟩ := (A.out.on R.out).cells
   obtain ⟨E, hE⟩ : ∃ E, n - 4 = E := ⟨_, rfl⟩
   have H6 : (n : Int) - 4 = (E : Int) := zq
   have H7 : E + 4 = n := zq
   have H8 : (E : Int) ≤ (n : Int) := zq
   have H9 : IntKind.i64.wrap (E : Int) = (E : Int) := by rw [IntKind.wrap_i64]; omega
   obtain ⟨H, hH⟩ : ∃ H, L6 ++ body ++ zs (E - (6 + pn + 2 * j + bn)) = H := ⟨_, rfl⟩
   have A9 : (L6 ++ body).length = 6 + pn + 2 * j + bn := by rw [zG, D7.out, W.out]
   have B0 : Hid (OwnZ w7 g n H) := zaa (by rw [← hH]; exact O.out.more _ (by rw [A9]; omega))
   have B1 : Hid (H.length = E) := zaa (by rw [← hH, zG, A9, zbc]; omega)
   have F8 : Hid (wrL k n P body st = H) := zaa (by
    unfold wrL
    rw [X.out, B6.out, W.out, HF.out, D0.out, ← hH, ← A8.out, ← A4.out, ← A2.out]
    simp only [zM]
    rw [show n - (10 + pn + 2 * j + bn) = E - (6 + pn + 2 * j + bn) by omega])
   have E0 : Hid (Wf H) := zaa (by
    rw [← hH, ← A8.out, ← A4.out, ← A2.out]
    exact ((((((Wf.cons B5 (Wf.cons zq Wf.nil)).append (zbb _ _)).append (zbb _ _)).append A.out.pre.wf).append (sloB_wf _)).append A.out.body.wf).append (zs_wf _))
   clear O hH A9 A2 A4 A8 D0
   have E1 : Hid (Sl w7 (some ⟨g, 0, none⟩) E n H) := zaa (by have := B0.out.sl E0.out zq; rwa [B1.out] at this)
   have F2 := sumN_lt H E0.out
   obtain ⟨SN, hS⟩ : ∃ SN, sumN [H] = SN := ⟨_, rfl⟩
   rw [hS] at F2
   have E2 := zaa hS
   have I0 : IntKind.u64.wrap ((SN : Nat) : Int) = (SN : Int) := by rw [IntKind.wrap_u64]; omega
   have B2 : Hid (Calls Tryz.prog 118 #[.slice (some ⟨w7.heap.size, 0, none⟩) 1 1] (w7.alloc (.cells #[.slice (some ⟨g, 0, none⟩) E n] 22)) fun e v2 => e = .returned (.int .u32 (SN : Int)) ∧ Hid (Below w7.heap.size w7 v2)) := by
    have F9 : SlS (w7.alloc (.cells #[.slice (some ⟨g, 0, none⟩) E n] 22)) (some ⟨w7.heap.size, 0, none⟩) 1 1 [H] := sls_one5 w7 _ _ _ _ E1.out _ rfl
    refine zaa ((sum_any _ _ _ _ _ F9 ((HT.out.on R.out h0).on (Br.alloc Lr _) (zO h0 R.out.size))).mono ?_)
    rintro e v2 ⟨rfl, q, rfl⟩
    rw [E2.out]
    exact ⟨rfl, zac (zab Br Lr _) q⟩
   clear hS E1
   go_wp2_with (go_at_call 118; refine B2.out.mono ?_; rintro e w8 ⟨rfl, E3⟩; refine Hid.out ?_)
   apply zaa
   have E4 := zaa (fixed_row (SN : Int) 4 w8 zq zq zq)
   clear B2
   go_wp2_with (go_at_call 117; refine E4.out.mono ?_; rintro e w9 ⟨fb, fo, fc, rfl, E5, E7⟩; refine Hid.out ?_)
   apply zaa
   have D : Hid (Below w7.heap.size w7 w9) := zaa (zae E3.out Lr E7.out)
   have E8 : Hid (OwnZ w9 g n H) := zaa (B0.out.on D.out)
   have B3 : Hid (Below w.heap.size w w9) := zaa (zae R.out Lr D.out)
   clear E4 B0 E3 E7 D
   go_wp2_with (at_builtin; refine app_z _ rfl _ _ rfl g n H (fB 4 (SN : Int)) E (some ⟨fb, fo, none⟩) 4 fc B1.out rfl rfl E8.out E5.out zq zq ?_; refine Hid.out ?_)
   apply zaa
   intro wA E9 F0
   have G0 : Hid (Below w.heap.size w wA) := zaa (bz HG.out B3.out F0.out)
   have G1 : Hid (Bk wA g (sealB (wrL k n P body st))) := zaa (by
    have h1 := E9.out.1
    rw [show n - (H ++ fB 4 (SN : Int)).length = 0 by rw [zG, B1.out, zah]; omega] at h1
    rw [F8.out]
    unfold sealB
    rw [E2.out]
    simpa [zs] using h1)
   have G2 : Hid (w.heap.size ≤ g) := zaa (by have := HG.out; omega)
   clear E8 E9 F0 B3 E5
   go_wp2
   go_ret
   exact ⟨g, rfl, G2.out, G1, G0⟩
end Go.Proofs.YtbkhjeacmmbabaaGreatDoor
