import Derived.Test.YtlhkinlgolcpaaaGreatDoorJ19
namespace Go.Proofs.YtlhkinlgolcpaaaGreatDoor
set_option maxRecDepth 100000
open Go.RowKit
theorem bz {w u u' : World} {g : Nat} (hg : w.heap.size = g) (hb : Below w.heap.size w u) (hc : Cf (· = g) u u') : Below w.heap.size w u' := hb.trans (hc.below hb.size (by intro k hk e; omega))
theorem made_bk (w : World) (n : Nat) : OwnZ (w.alloc (.cells (madeCells #[.int .u8 0] n) 5)) w.heap.size n [] := by
 refine ⟨?_, Nat.zero_le _⟩
 unfold Bk
 rw [heap_alloc_last]
 congr 2
 apply Array.toList_inj.1
 rw [toList_madeCells_one]
 simp [By, zs]
theorem OwnZ.more {w : World} {g N : Nat} {l : List Int} (h : OwnZ w g N l) (m : Nat) (hm : l.length + m ≤ N) : OwnZ w g N (l ++ zs m) := by
 obtain ⟨h1, h2⟩ := h
 refine ⟨?_, by rw [List.length_append, zs_length]; exact hm⟩
 rw [List.append_assoc, ← zs_add, List.length_append, zs_length, show m + (N - (l.length + m)) = N - l.length by omega]
 exact h1
theorem OwnZ.sl {w : World} {g N : Nat} {l : List Int} (h : OwnZ w g N l) (hw : Wf l) (hN : N ≤ 140737488355328) : Sl w (some ⟨g, 0, none⟩) l.length N l := by
 obtain ⟨h1, h2⟩ := h
 refine ⟨rfl, h2, by omega, hw, (by intro h; cases h), .inr ⟨g, 0, rfl, lt_some h1, fun i hi => ?_⟩⟩
 rw [Nat.zero_add, h1.cell i (by rw [List.length_append]; omega)]
 simp [List.getD, List.getElem?_append_left hi]
def wrL (k : Int) (n : Nat) (P body : List Int) (st : List Nat) : List Int := [k, 2] ++ (fB 2 st.length ++ (fB 2 P.length ++ (P ++ (sloB (st.map (6 + P.length + 2 * st.length + ·)) ++ (body ++ zs (n - (10 + P.length + 2 * st.length + body.length)))))))
theorem sloB_take (l : List Nat) (j : Nat) (s : Nat) (h : l[j]? = some s) : sloB (l.take (j + 1)) = sloB (l.take j) ++ fB 2 (s : Int) := by
 rw [List.take_add_one, h]
 simp [sloB]
set_option maxHeartbeats 8000000 in
theorem written_any (w : World) (a : Nat) (k : Int) (n : Nat) (po : Option Addr) (pn pc : Nat) (bo : Option Addr) (bn bc : Nat) (so : Option Addr) (sn sc : Nat) (ws : Int) (P body : List Int) (st : List Nat) (h : PgQ w a k n po pn pc bo bn bc so sn sc ws P body st) (hk : isKd k) (hn : n ≤ 65536)
  (hfit : 10 + P.length + 2 * st.length + body.length ≤ n) (hst : ∀ s ∈ st, s ≤ body.length) (ht : Tab w) (h0 : 1 < w.heap.size) :
  Calls Tryz.prog 96 #[.pointer (some ⟨a, 0, none⟩)] w fun e w' => ∃ g, e = .returned (.slice (some ⟨g, 0, none⟩) n n) ∧ w.heap.size ≤ g ∧ Hid (Bk w' g (sealB (wrL k n P body st))) ∧ Hid (Below w.heap.size w w') := by
 have HPG := hidden h
 have HT := hidden ht
 have hk2 : IntKind.u8.wrap k = k := by unfold isKd at hk; rw [IntKind.wrap_u8]; omega
 have hkb : 0 ≤ k ∧ k ≤ 255 := by unfold isKd at hk; omega
 have hPl : P.length = pn := h.pre.hlen
 have hBl : body.length = bn := h.body.hlen
 have hSl : st.length = sn := h.starts.hlen
 rw [hPl, hBl, hSl] at hfit
 have HPL := hidden hPl
 have HBL := hidden hBl
 have HSL := hidden hSl
 have HST := hidden hst
 obtain ⟨g, hg⟩ : ∃ g, w.heap.size = g := ⟨_, rfl⟩
 have HG := hidden hg
 have hmk := made_run n (by omega)
 obtain ⟨x, hx⟩ : ∃ x, w.alloc (.cells (madeCells #[.int .u8 0] n) 5) = x := ⟨_, rfl⟩
 have hbx : Below w.heap.size w x := by rw [← hx]; exact bl_al (Below.refl _ _) (Nat.le_refl _) _
 have HZ0 : Hid (OwnZ x g n []) := hidden (by rw [← hx, ← hg]; exact made_bk w n)
 obtain ⟨y, hy⟩ : ∃ y, x.alloc (.cells #[.int .u8 k, .int .u8 2] 5) = y := ⟨_, rfl⟩
 have hby : Below x.heap.size x y := by rw [← hy]; exact bl_al (Below.refl _ _) (Nat.le_refl _) _
 have HZ1 : Hid (OwnZ y g n []) := hidden (HZ0.out.on hby)
 have HS1 : Hid (Sl y (some ⟨x.heap.size, 0, none⟩) 2 2 [k, 2]) := hidden (by
  refine ⟨rfl, Nat.le_refl _, by omega, Wf.cons hkb (Wf.cons (by omega) Wf.nil), (by intro h; cases h), .inr ⟨x.heap.size, 0, rfl, by rw [← hy]; simp, fun i hi => ?_⟩⟩
  have hi' : i = 0 ∨ i = 1 := by omega
  rw [← hy]
  rcases hi' with rfl | rfl <;> simp)
 have HB1 : Hid (Below w.heap.size w y) := hidden (bl_go hbx (Nat.le_refl _) hby)
 obtain ⟨c0, c1, c2, c3, c4, c5⟩ := h.cells
 obtain ⟨d0, d1, d2, d3, d4, d5⟩ := (h.on hbx).cells
 have hnI : (n : Int) ≤ 65536 := by omega
 have hsnI : (sn : Int) ≤ 65536 := by omega
 have hpnI : (pn : Int) ≤ 65536 := by omega
 clear h ht hk hst hbx hby hPl hBl hSl
 go_enter Tryz.func96, Tryz.ntmps96
 go_wp2_with (at_builtin; refine app_z _ rfl _ _ rfl g n [] [k, 2] 0 (some ⟨x.heap.size, 0, none⟩) 2 2 rfl rfl rfl HZ1.out HS1.out (by omega) (by omega) ?_; refine Hid.out ?_)
 apply hidden
 intro w2 HZ2 HC2
 have HB2 : Hid (Below w.heap.size w w2) := hidden (bz HG.out HB1.out HC2.out)
 clear HZ0 HZ1 HS1 HB1 HC2 c0 c1 c2 c3 c4 c5 d0 d1 d2 d3 d4 d5 hx hy
 obtain ⟨c0, c1, c2, c3, c4, c5⟩ := (HPG.out.on HB2.out).cells
 have HW := hidden (withShort_z g n [k, 2] 2 sn w2 rfl HZ2.out (by omega) (by omega) hn)
 go_wp2_with (first | (go_at_call 130; refine HW.out.mono ?_; rintro e w3 ⟨rfl, HZ3, HC3⟩; refine Hid.out ?_))
 apply hidden
 have HB3 : Hid (Below w.heap.size w w3) := hidden (bz HG.out HB2.out HC3.out)
 clear HW HZ2 HC3 HB2 c0 c1 c2 c3 c4 c5
 obtain ⟨c0, c1, c2, c3, c4, c5⟩ := (HPG.out.on HB3.out).cells
 have HW := hidden (withShort_z g n ([k, 2] ++ fB 2 (sn : Int)) 4 pn w3 (by simp [fB_length]) HZ3.out (by omega) (by omega) hn)
 go_wp2_with (first | (go_at_call 130; refine HW.out.mono ?_; rintro e w4 ⟨rfl, HZ4, HC4⟩; refine Hid.out ?_))
 apply hidden
 have HB4 : Hid (Below w.heap.size w w4) := hidden (bz HG.out HB3.out HC4.out)
 clear HW HZ3 HC4 HB3 c0 c1 c2 c3 c4 c5
 obtain ⟨c0, c1, c2, c3, c4, c5⟩ := (HPG.out.on HB4.out).cells
 obtain ⟨L4, hL4⟩ : ∃ L, [k, 2] ++ fB 2 (sn : Int) ++ fB 2 (pn : Int) = L := ⟨_, rfl⟩
 replace HZ4 : Hid (OwnZ w4 g n L4) := hidden (by rw [← hL4]; simpa using HZ4.out)
 have HL4 : Hid (L4.length = 6) := hidden (by rw [← hL4]; simp [fB_length])
 have HE4 := hidden hL4
 have HP4 := hidden (HPG.out.on HB4.out).pre
 clear hL4
 go_wp2_with (at_builtin; refine app_z _ rfl _ _ rfl g n L4 P 6 po pn pc HL4.out rfl rfl HZ4.out HP4.out (by omega) (by omega) ?_; refine Hid.out ?_)
 apply hidden
 intro w5 HZ5 HC5
 have HB5 : Hid (Below w.heap.size w w5) := hidden (bz HG.out HB4.out HC5.out)
 clear HZ4 HC5 HB4 HP4 c0 c1 c2 c3 c4 c5
 obtain ⟨c0, c1, c2, c3, c4, c5⟩ := (HPG.out.on HB5.out).cells
 obtain ⟨L5, hL5⟩ : ∃ L, L4 ++ P = L := ⟨_, rfl⟩
 replace HZ5 : Hid (OwnZ w5 g n L5) := hidden (by rw [← hL5]; simpa using HZ5.out)
 have HL5 : Hid (L5.length = 6 + pn) := hidden (by rw [← hL5, List.length_append, HL4.out, HPL.out])
 have HE5 := hidden hL5
 obtain ⟨F, hF⟩ : ∃ F, 6 + pn + 2 * sn = F := ⟨_, rfl⟩
 have HF := hidden hF
 have hFI : 6 + (pn : Int) + 2 * (sn : Int) = (F : Int) := by omega
 have hFb : (F : Int) ≤ 65536 := by omega
 clear hL5
 obtain ⟨tt, htt⟩ : ∃ tt, st.map (F + ·) = tt := ⟨_, rfl⟩
 have HTL : Hid (tt.length = sn) := hidden (by rw [← htt, List.length_map, HSL.out])
 have HTT : Hid (∀ j s, st[j]? = some s → tt[j]? = some (F + s)) := hidden (by intro j s hj; rw [← htt, List.getElem?_map, hj]; rfl)
 have HTE := hidden htt
 clear htt
 go_wp2_with fail
 go_loopw [3, 54] (fun v i wr => ∃ j : Nat, j ≤ sn ∧ i = .int .i64 j ∧ v = .slice (some ⟨g, 0, none⟩) (6 + pn + 2 * j) n ∧ Hid (OwnZ wr g n (L5 ++ sloB (tt.take j))) ∧ Hid (Below w.heap.size w wr)) (fun _ i _ => sn - (intOf i).toNat)
 case atStart => exact ⟨0, by omega, rfl, by simp, hidden (by simpa [sloB] using HZ5.out), HB5⟩
 case round =>
  obtain ⟨j, hj, rfl, rfl, HZ, HB⟩ := hrel
  clear HZ5 HB5 c0 c1 c2 c3 c4 c5
  have bj : (j : Int) ≤ 65536 := by omega
  have HPR := hidden (HPG.out.on HB.out)
  obtain ⟨c0, c1, c2, c3, c4, c5⟩ := HPR.out.cells
  have HLJ : Hid ((L5 ++ sloB (tt.take j)).length = 6 + pn + 2 * j) := hidden (by
   rw [List.length_append, HL5.out, sloB_length, List.length_take, HTL.out]
   omega)
  by_cases hlt : j < sn
  ·have hltI : (j : Int) < (sn : Int) := by omega
   obtain ⟨gs, offs, rfl, hgs, hcs⟩ : ∃ b off, so = some ⟨b, off, none⟩ ∧ b < wr.heap.size ∧ ∀ j, j < sn → wr.cell? ⟨b, off + j, none⟩ = some (.int .i64 ((st.getD j 0 : Nat) : Int)) := by
    rcases HPR.out.starts.hat with h0 | h0
    ·omega
    ·exact h0
   have cj := hcs j hlt
   obtain ⟨s, hs⟩ : ∃ s, st[j]? = some s := ⟨_, List.getElem?_eq_getElem (by rw [HSL.out]; exact hlt)⟩
   rw [show st.getD j 0 = s from by simp [List.getD, hs]] at cj
   have hsb := HST.out s (List.mem_of_getElem? hs)
   rw [HBL.out] at hsb
   have HSJ := hidden (sloB_take tt j (F + s) (HTT.out j s hs))
   obtain ⟨q, hq⟩ : ∃ q, F + s = q := ⟨_, rfl⟩
   rw [hq] at HSJ
   have hqI : (F : Int) + (s : Int) = (q : Int) := by omega
   have hqb : (q : Int) ≤ 65536 := by omega
   have hsbI : (s : Int) ≤ 65536 := by omega
   have HW := hidden (withShort_z g n (L5 ++ sloB (tt.take j)) (6 + pn + 2 * j) q wr HLJ.out HZ.out (by omega) (by omega) hn)
   clear hcs hs hq
   go_wp2_with (first | (go_at_call 130; refine HW.out.mono ?_; rintro e w6 ⟨rfl, HZ6, HC6⟩; refine Hid.out ?_))
   apply hidden
   have HB6 : Hid (Below w.heap.size w w6) := hidden (bz HG.out HB.out HC6.out)
   have HZ7 : Hid (OwnZ w6 g n (L5 ++ sloB (tt.take (j + 1)))) := hidden (by rw [HSJ.out, ← List.append_assoc]; exact HZ6.out)
   clear HW HZ6 HC6 HZ HB HPR HSJ cj
   go_wp2
   go_roundw
   case rel => exact ⟨j + 1, by omega, by go_num, by simp; omega, HZ7, HB6⟩
   case measure => simp [intOf]; omega
  ·obtain rfl : j = sn := by omega
   have hlI : ¬ (j : Int) < (j : Int) := by omega
   obtain ⟨L6, hL6⟩ : ∃ L, L5 ++ sloB tt = L := ⟨_, rfl⟩
   have HZ6 : Hid (OwnZ wr g n L6) := hidden (by
    have := HZ.out
    rwa [List.take_of_length_le (by rw [HTL.out]; exact Nat.le_refl _), hL6] at this)
   have HL6 : Hid (L6.length = 6 + pn + 2 * j) := hidden (by
    have := HLJ.out
    rwa [List.take_of_length_le (by rw [HTL.out]; exact Nat.le_refl _), hL6] at this)
   have HE6 := hidden hL6
   have HBD := hidden HPR.out.body
   clear HZ HLJ hL6
   go_wp2_with (at_builtin; refine app_z _ rfl _ _ rfl g n L6 body (6 + pn + 2 * j) bo bn bc HL6.out rfl rfl HZ6.out HBD.out (by omega) (by omega) ?_; refine Hid.out ?_)
   apply hidden
   intro w7 HZ7 HC7
   have HB7 : Hid (Below w.heap.size w w7) := hidden (bz HG.out HB.out HC7.out)
   clear HZ6 HC7 HB HPR HBD c0 c1 c2 c3 c4 c5
   obtain ⟨c0, c1, c2, c3, c4, c5⟩ := (HPG.out.on HB7.out).cells
   obtain ⟨E, hE⟩ : ∃ E, n - 4 = E := ⟨_, rfl⟩
   have hEI : (n : Int) - 4 = (E : Int) := by omega
   have hE4 : E + 4 = n := by omega
   have hEn : (E : Int) ≤ (n : Int) := by omega
   have hEw : IntKind.i64.wrap (E : Int) = (E : Int) := by rw [IntKind.wrap_i64]; omega
   obtain ⟨H, hH⟩ : ∃ H, L6 ++ body ++ zs (E - (6 + pn + 2 * j + bn)) = H := ⟨_, rfl⟩
   have hL7 : (L6 ++ body).length = 6 + pn + 2 * j + bn := by rw [List.length_append, HL6.out, HBL.out]
   have HZ8 : Hid (OwnZ w7 g n H) := hidden (by rw [← hH]; exact HZ7.out.more _ (by rw [hL7]; omega))
   have HHL : Hid (H.length = E) := hidden (by rw [← hH, List.length_append, hL7, zs_length]; omega)
   have HWR : Hid (wrL k n P body st = H) := hidden (by
    unfold wrL
    rw [HSL.out, HPL.out, HBL.out, HF.out, HTE.out, ← hH, ← HE6.out, ← HE5.out, ← HE4.out]
    simp only [List.append_assoc]
    rw [show n - (10 + pn + 2 * j + bn) = E - (6 + pn + 2 * j + bn) by omega])
   have HHW : Hid (Wf H) := hidden (by
    rw [← hH, ← HE6.out, ← HE5.out, ← HE4.out]
    exact ((((((Wf.cons hkb (Wf.cons (by omega) Wf.nil)).append (fB_wf _ _)).append (fB_wf _ _)).append HPG.out.pre.wf).append (sloB_wf _)).append HPG.out.body.wf).append (zs_wf _))
   clear HZ7 hH hL7 HE4 HE5 HE6 HTE
   have HSB : Hid (Sl w7 (some ⟨g, 0, none⟩) E n H) := hidden (by have := HZ8.out.sl HHW.out (by omega); rwa [HHL.out] at this)
   have hs32 := sumN_lt H HHW.out
   obtain ⟨SN, hS⟩ : ∃ SN, sumN [H] = SN := ⟨_, rfl⟩
   rw [hS] at hs32
   have HSS := hidden hS
   have hws : IntKind.u64.wrap ((SN : Nat) : Int) = (SN : Int) := by rw [IntKind.wrap_u64]; omega
   have HSUM : Hid (Calls Tryz.prog 120 #[.slice (some ⟨w7.heap.size, 0, none⟩) 1 1] (w7.alloc (.cells #[.slice (some ⟨g, 0, none⟩) E n] 25)) fun e v2 => e = .returned (.int .u32 (SN : Int)) ∧ Hid (Below w7.heap.size w7 v2)) := by
    have hss : SlS (w7.alloc (.cells #[.slice (some ⟨g, 0, none⟩) E n] 25)) (some ⟨w7.heap.size, 0, none⟩) 1 1 [H] := sls_one5 w7 _ _ _ _ HSB.out _ rfl
    refine hidden ((sum_any _ _ _ _ _ hss ((HT.out.on HB7.out h0).on ((Below.refl _ _).alloc (Nat.le_refl _) _) (Nat.lt_of_lt_of_le h0 HB7.out.size))).mono ?_)
    rintro e v2 ⟨rfl, q, rfl⟩
    rw [HSS.out]
    exact ⟨rfl, bl_dr (bl_al (Below.refl _ _) (Nat.le_refl _) _) q⟩
   clear hS HSB
   go_wp2_with (first | (go_at_call 120; refine HSUM.out.mono ?_; rintro e w8 ⟨rfl, HB8⟩; refine Hid.out ?_))
   apply hidden
   have HFX := hidden (fixed_row (SN : Int) 4 w8 (by omega) (by omega) (by omega))
   clear HSUM
   go_wp2_with (first | (go_at_call 119; refine HFX.out.mono ?_; rintro e w9 ⟨fb, fo, fc, rfl, HFS, HB9⟩; refine Hid.out ?_))
   apply hidden
   have HB79 : Hid (Below w7.heap.size w7 w9) := hidden (bl_go HB8.out (Nat.le_refl _) HB9.out)
   have HZ9 : Hid (OwnZ w9 g n H) := hidden (HZ8.out.on HB79.out)
   have HBW9 : Hid (Below w.heap.size w w9) := hidden (bl_go HB7.out (Nat.le_refl _) HB79.out)
   clear HFX HZ8 HB8 HB9 HB79
   go_wp2_with (at_builtin; refine app_z _ rfl _ _ rfl g n H (fB 4 (SN : Int)) E (some ⟨fb, fo, none⟩) 4 fc HHL.out rfl rfl HZ9.out HFS.out (by omega) (by omega) ?_; refine Hid.out ?_)
   apply hidden
   intro wA HZA HCA
   have HBA : Hid (Below w.heap.size w wA) := hidden (bz HG.out HBW9.out HCA.out)
   have HBK : Hid (Bk wA g (sealB (wrL k n P body st))) := hidden (by
    have h1 := HZA.out.1
    rw [show n - (H ++ fB 4 (SN : Int)).length = 0 by rw [List.length_append, HHL.out, fB_length]; omega] at h1
    rw [HWR.out]
    unfold sealB
    rw [HSS.out]
    simpa [zs] using h1)
   have HGE : Hid (w.heap.size ≤ g) := hidden (by have := HG.out; omega)
   clear HZ9 HZA HCA HBW9 HFS
   go_wp2
   go_ret
   exact ⟨g, rfl, HGE.out, HBK, HBA⟩
end Go.Proofs.YtlhkinlgolcpaaaGreatDoor
