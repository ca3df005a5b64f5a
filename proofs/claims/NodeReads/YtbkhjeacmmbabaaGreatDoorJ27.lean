import Derived.Test.YtbkhjeacmmbabaaGreatDoorJ26
namespace Go.Proofs.YtbkhjeacmmbabaaGreatDoor
set_option maxRecDepth 100000
set_option maxHeartbeats 8000000
open Go.RowKit
theorem bz {w u u' : World} {g : Nat} (hg : w.heap.size = g) (hb : Below w.heap.size w u) (hc : Cf (· = g) u u') : Below w.heap.size w u' := hb.trans (hc.below hb.size (by intro k hk e; omega))
theorem made_bk (w : World) (n : Nat) : OwnZ (w.alloc (.cells (madeCells #[.int .u8 0] n) 5)) w.heap.size n [] := by
 refine ⟨?_, Nat.zero_le _⟩
 unfold Bk
 rw [heap_alloc_last]
 congr 2
 apply Array.toList_inj.1
 rw [toList_madeCells_one]
 simp [By, zs]
theorem OwnZ.more {w : World} {g N : Nat} {l : List Int} (h : OwnZ w g N l) (m : Nat) (hm : l.length + m ≤ N) : OwnZ w g N (l ++ zs m) := by
 obtain ⟨h1, h2⟩ := h
 refine ⟨?_, by rw [zG, zbg]; exact hm⟩
 rw [zM, ← zs_add, zG, zbg, show m + (N - (l.length + m)) = N - l.length by omega]
 exact h1
theorem OwnZ.sl {w : World} {g N : Nat} {l : List Int} (h : OwnZ w g N l) (hw : Wf l) (hN : N ≤ 140737488355328) : Sl w (some ⟨g, 0, none⟩) l.length N l := by
 obtain ⟨h1, h2⟩ := h
 refine ⟨rfl, h2, by omega, hw, (by intro h; cases h), .inr ⟨g, 0, rfl, zaf h1, fun i hi => ?_⟩⟩
 rw [Nat.zero_add, h1.cell i (by rw [zG]; omega)]
 simp [List.getD, zL hi]
def wrL (k : Int) (n : Nat) (P body : List Int) (st : List Nat) : List Int := [k, 2] ++ (fB 2 st.length ++ (fB 2 P.length ++ (P ++ (sloB (st.map (6 + P.length + 2 * st.length + ·)) ++ (body ++ zs (n - (10 + P.length + 2 * st.length + body.length)))))))
theorem sloB_take (l : List Nat) (j : Nat) (s : Nat) (h : l[j]? = some s) : sloB (l.take (j + 1)) = sloB (l.take j) ++ fB 2 (s : Int) := by
 rw [List.take_add_one, h]
 simp [sloB]
theorem written_any (w : World) (a : Nat) (k : Int) (n : Nat) (po : Option Addr) (pn pc : Nat) (bo : Option Addr) (bn bc : Nat) (so : Option Addr) (sn sc : Nat) (ws : Int) (P body : List Int) (st : List Nat) (h : PgQ w a k n po pn pc bo bn bc so sn sc ws P body st) (hk : isKd k) (hn : n ≤ 65536)
  (hfit : 10 + P.length + 2 * st.length + body.length ≤ n) (hst : ∀ s ∈ st, s ≤ body.length) (ht : Tab w) (h0 : 1 < w.heap.size) :
  Calls Tryz.prog 87 #[.pointer (some ⟨a, 0, none⟩)] w fun e w' => ∃ g, e = .returned (.slice (some ⟨g, 0, none⟩) n n) ∧ w.heap.size ≤ g ∧ Hid (Bk w' g (sealB (wrL k n P body st))) ∧ Hid (Below w.heap.size w w') := by
 have HPG := zaa h
 have HT := zaa ht
 have hk2 : IntKind.u8.wrap k = k := by unfold isKd at hk; rw [IntKind.wrap_u8]; omega
 have hkb : 0 ≤ k ∧ k ≤ 255 := by unfold isKd at hk; omega
 have hPl : P.length = pn := h.pre.hlen
 have hBl : body.length = bn := h.body.hlen
 have hSl : st.length = sn := h.starts.hlen
 rw [hPl, hBl, hSl] at hfit
 have HPL := zaa hPl
 have HBL := zaa hBl
 have HSL := zaa hSl
 have HST := zaa hst
 obtain ⟨g, hg⟩ : ∃ g, w.heap.size = g := ⟨_, rfl⟩
 have HG := zaa hg
 have hmk := made_run n (by omega)
 obtain ⟨x, hx⟩ : ∃ x, w.alloc (.cells (madeCells #[.int .u8 0] n) 5) = x := ⟨_, rfl⟩
 have hbx : Below w.heap.size w x := by rw [← hx]; exact zad Br Lr _
 have HZ0 : Hid (OwnZ x g n []) := zaa (by rw [← hx, ← hg]; exact made_bk w n)
 obtain ⟨y, hy⟩ : ∃ y, x.alloc (.cells #[.int .u8 k, .int .u8 2] 5) = y := ⟨_, rfl⟩
 have hby : Below x.heap.size x y := by rw [← hy]; exact zad Br Lr _
 have HZ1 : Hid (OwnZ y g n []) := zaa (HZ0.out.on hby)
 have HS1 : Hid (Sl y (some ⟨x.heap.size, 0, none⟩) 2 2 [k, 2]) := zaa (by
  refine ⟨rfl, Lr, by omega, Wf.cons hkb (Wf.cons (by omega) Wf.nil), (by intro h; cases h), .inr ⟨x.heap.size, 0, rfl, by rw [← hy]; simp, fun i hi => ?_⟩⟩
  have hi' : i = 0 ∨ i = 1 := by omega
  rw [← hy]
  rcases hi' with rfl | rfl <;> simp)
 have HB1 : Hid (Below w.heap.size w y) := zaa (zae hbx Lr hby)
 obtain ⟨c0, c1, c2, c3, c4, c5⟩ := h.cells
 obtain ⟨d0, d1, d2, d3, d4, d5⟩ := (h.on hbx).cells
 have hnI : (n : Int) ≤ 65536 := by omega
 have hsnI : (sn : Int) ≤ 65536 := by omega
 have hpnI : (pn : Int) ≤ 65536 := by omega
 clear h ht hk hst hbx hby hPl hBl hSl
 go_enter Tryz.func87, Tryz.ntmps87
 go_wp2_with (at_builtin; refine app_z _ rfl _ _ rfl g n [] [k, 2] 0 (some ⟨x.heap.size, 0, none⟩) 2 2 rfl rfl rfl HZ1.out HS1.out (by omega) (by omega) ?_; refine Hid.out ?_)
 apply zaa
 intro w2 HZ2 HC2
 have HB2 : Hid (Below w.heap.size w w2) := zaa (bz HG.out HB1.out HC2.out)
 clear HZ0 HZ1 HS1 HB1 HC2 c0 c1 c2 c3 c4 c5 d0 d1 d2 d3 d4 d5 hx hy
 obtain ⟨c0, c1, c2, c3, c4, c5⟩ := (HPG.out.on HB2.out).cells
 have HW := zaa (withShort_z g n [k, 2] 2 sn w2 rfl HZ2.out (by omega) (by omega) hn)
 go_wp2_with (go_at_call 128; refine HW.out.mono ?_; rintro e w3 ⟨rfl, HZ3, HC3⟩; refine Hid.out ?_)
 apply zaa
 have HB3 : Hid (Below w.heap.size w w3) := zaa (bz HG.out HB2.out HC3.out)
 clear HW HZ2 HC3 HB2 c0 c1 c2 c3 c4 c5
 obtain ⟨c0, c1, c2, c3, c4, c5⟩ := (HPG.out.on HB3.out).cells
 have HW := zaa (withShort_z g n ([k, 2] ++ fB 2 (sn : Int)) 4 pn w3 (by simp [zah]) HZ3.out (by omega) (by omega) hn)
 go_wp2_with (go_at_call 128; refine HW.out.mono ?_; rintro e w4 ⟨rfl, HZ4, HC4⟩; refine Hid.out ?_)
 apply zaa
 have HB4 : Hid (Below w.heap.size w w4) := zaa (bz HG.out HB3.out HC4.out)
 clear HW HZ3 HC4 HB3 c0 c1 c2 c3 c4 c5
 obtain ⟨c0, c1, c2, c3, c4, c5⟩ := (HPG.out.on HB4.out).cells
 obtain ⟨L4, hL4⟩ : ∃ L, [k, 2] ++ fB 2 (sn : Int) ++ fB 2 (pn : Int) = L := ⟨_, rfl⟩
 replace HZ4 : Hid (OwnZ w4 g n L4) := zaa (by rw [← hL4]; simpa using HZ4.out)
 have HL4 : Hid (L4.length = 6) := zaa (by rw [← hL4]; simp [zah])
 have HE4 := zaa hL4
 have HP4 := zaa (HPG.out.on HB4.out).pre
 clear hL4
 go_wp2_with (at_builtin; refine app_z _ rfl _ _ rfl g n L4 P 6 po pn pc HL4.out rfl rfl HZ4.out HP4.out (by omega) (by omega) ?_; refine Hid.out ?_)
 apply zaa
 intro w5 HZ5 HC5
 have HB5 : Hid (Below w.heap.size w w5) := zaa (bz HG.out HB4.out HC5.out)
 clear HZ4 HC5 HB4 HP4 c0 c1 c2 c3 c4 c5
 obtain ⟨c0, c1, c2, c3, c4, c5⟩ := (HPG.out.on HB5.out).cells
 obtain ⟨L5, hL5⟩ : ∃ L, L4 ++ P = L := ⟨_, rfl⟩
 replace HZ5 : Hid (OwnZ w5 g n L5) := zaa (by rw [← hL5]; simpa using HZ5.out)
 have HL5 : Hid (L5.length = 6 + pn) := zaa (by rw [← hL5, zG, HL4.out, HPL.out])
 have HE5 := zaa hL5
 obtain ⟨F, hF⟩ : ∃ F, 6 + pn + 2 * sn = F := ⟨_, rfl⟩
 have HF := zaa hF
 have hFI : 6 + (pn : Int) + 2 * (sn : Int) = (F : Int) := by omega
 have hFb : (F : Int) ≤ 65536 := by omega
 clear hL5
 obtain ⟨tt, htt⟩ : ∃ tt, st.map (F + ·) = tt := ⟨_, rfl⟩
 have HTL : Hid (tt.length = sn) := zaa (by rw [← htt, List.length_map, HSL.out])
 have HTT : Hid (∀ j s, st[j]? = some s → tt[j]? = some (F + s)) := zaa (by intro j s hj; rw [← htt, List.getElem?_map, hj]; rfl)
 have HTE := zaa htt
 clear htt
 go_wp2_with fail
 go_loopw [3, 54] (fun v i wr => ∃ j : Nat, j ≤ sn ∧ i = .int .i64 j ∧ v = .slice (some ⟨g, 0, none⟩) (6 + pn + 2 * j) n ∧ Hid (OwnZ wr g n (L5 ++ sloB (tt.take j))) ∧ Hid (Below w.heap.size w wr)) (fun _ i _ => sn - (intOf i).toNat)
 case atStart => exact ⟨0, by omega, rfl, by simp, zaa (by simpa [sloB] using HZ5.out), HB5⟩
 case round =>
  obtain ⟨j, hj, rfl, rfl, HZ, HB⟩ := hrel
  clear HZ5 HB5 c0 c1 c2 c3 c4 c5
  have bj : (j : Int) ≤ 65536 := by omega
  have HPR := zaa (HPG.out.on HB.out)
  obtain ⟨c0, c1, c2, c3, c4, c5⟩ := HPR.out.cells
  have HLJ : Hid ((L5 ++ sloB (tt.take j)).length = 6 + pn + 2 * j) := zaa (by
   rw [zG, HL5.out, zbq, zJ, HTL.out]
   omega)
  by_cases hlt : j < sn
  ·have hltI : (j : Int) < (sn : Int) := by omega
   obtain ⟨gs, offs, rfl, hgs, hcs⟩ : ∃ b off, so = some ⟨b, off, none⟩ ∧ b < wr.heap.size ∧ ∀ j, j < sn → wr.cell? ⟨b, off + j, none⟩ = some (.int .i64 ((st.getD j 0 : Nat) : Int)) := by
    rcases HPR.out.starts.hat with h0 | h0
    ·omega
    ·exact h0
   have cj := hcs j hlt
   obtain ⟨s, hs⟩ : ∃ s, st[j]? = some s := ⟨_, zI (by rw [HSL.out]; exact hlt)⟩
   rw [show st.getD j 0 = s from by simp [List.getD, hs]] at cj
   have hsb := HST.out s (List.mem_of_getElem? hs)
   rw [HBL.out] at hsb
   have HSJ := zaa (sloB_take tt j (F + s) (HTT.out j s hs))
   obtain ⟨q, hq⟩ : ∃ q, F + s = q := ⟨_, rfl⟩
   rw [hq] at HSJ
   have hqI : (F : Int) + (s : Int) = (q : Int) := by omega
   have hqb : (q : Int) ≤ 65536 := by omega
   have hsbI : (s : Int) ≤ 65536 := by omega
   have HW := zaa (withShort_z g n (L5 ++ sloB (tt.take j)) (6 + pn + 2 * j) q wr HLJ.out HZ.out (by omega) (by omega) hn)
   clear hcs hs hq
   go_wp2_with (go_at_call 128; refine HW.out.mono ?_; rintro e w6 ⟨rfl, HZ6, HC6⟩; refine Hid.out ?_)
   apply zaa
   have HB6 : Hid (Below w.heap.size w w6) := zaa (bz HG.out HB.out HC6.out)
   have HZ7 : Hid (OwnZ w6 g n (L5 ++ sloB (tt.take (j + 1)))) := zaa (by rw [HSJ.out, ← zM]; exact HZ6.out)
   clear HW HZ6 HC6 HZ HB HPR HSJ cj
   go_wp2
   go_roundw
   case rel => exact ⟨j + 1, by omega, by go_num, by simp; omega, HZ7, HB6⟩
   case measure => simp [intOf]; omega
  ·obtain rfl : j = sn := by omega
   have hlI : ¬ (j : Int) < (j : Int) := by omega
   obtain ⟨L6, hL6⟩ : ∃ L, L5 ++ sloB tt = L := ⟨_, rfl⟩
   have HZ6 : Hid (OwnZ wr g n L6) := zaa (by
    have := HZ.out
    rwa [List.take_of_length_le (by rw [HTL.out]; exact Lr), hL6] at this)
   have HL6 : Hid (L6.length = 6 + pn + 2 * j) := zaa (by
    have := HLJ.out
    rwa [List.take_of_length_le (by rw [HTL.out]; exact Lr), hL6] at this)
   have HE6 := zaa hL6
   have HBD := zaa HPR.out.body
   clear HZ HLJ hL6
   go_wp2_with (at_builtin; refine app_z _ rfl _ _ rfl g n L6 body (6 + pn + 2 * j) bo bn bc HL6.out rfl rfl HZ6.out HBD.out (by omega) (by omega) ?_; refine Hid.out ?_)
   apply zaa
   intro w7 HZ7 HC7
   have HB7 : Hid (Below w.heap.size w w7) := zaa (bz HG.out HB.out HC7.out)
   clear HZ6 HC7 HB HPR HBD c0 c1 c2 c3 c4 c5
   obtain ⟨c0, c1, c2, c3, c4, c5⟩ := (HPG.out.on HB7.out).cells
   obtain ⟨E, hE⟩ : ∃ E, n - 4 = E := ⟨_, rfl⟩
   have hEI : (n : Int) - 4 = (E : Int) := by omega
   have hE4 : E + 4 = n := by omega
   have hEn : (E : Int) ≤ (n : Int) := by omega
   have hEw : IntKind.i64.wrap (E : Int) = (E : Int) := by rw [IntKind.wrap_i64]; omega
   obtain ⟨H, hH⟩ : ∃ H, L6 ++ body ++ zs (E - (6 + pn + 2 * j + bn)) = H := ⟨_, rfl⟩
   have hL7 : (L6 ++ body).length = 6 + pn + 2 * j + bn := by rw [zG, HL6.out, HBL.out]
   have HZ8 : Hid (OwnZ w7 g n H) := zaa (by rw [← hH]; exact HZ7.out.more _ (by rw [hL7]; omega))
   have HHL : Hid (H.length = E) := zaa (by rw [← hH, zG, hL7, zbg]; omega)
   have HWR : Hid (wrL k n P body st = H) := zaa (by
    unfold wrL
    rw [HSL.out, HPL.out, HBL.out, HF.out, HTE.out, ← hH, ← HE6.out, ← HE5.out, ← HE4.out]
    simp only [zM]
    rw [show n - (10 + pn + 2 * j + bn) = E - (6 + pn + 2 * j + bn) by omega])
   have HHW : Hid (Wf H) := zaa (by
    rw [← hH, ← HE6.out, ← HE5.out, ← HE4.out]
    exact ((((((Wf.cons hkb (Wf.cons (by omega) Wf.nil)).append (zbf _ _)).append (zbf _ _)).append HPG.out.pre.wf).append (sloB_wf _)).append HPG.out.body.wf).append (zs_wf _))
   clear HZ7 hH hL7 HE4 HE5 HE6 HTE
   have HSB : Hid (Sl w7 (some ⟨g, 0, none⟩) E n H) := zaa (by have := HZ8.out.sl HHW.out (by omega); rwa [HHL.out] at this)
   have hs32 := sumN_lt H HHW.out
   obtain ⟨SN, hS⟩ : ∃ SN, sumN [H] = SN := ⟨_, rfl⟩
   rw [hS] at hs32
   have HSS := zaa hS
   have hws : IntKind.u64.wrap ((SN : Nat) : Int) = (SN : Int) := by rw [IntKind.wrap_u64]; omega
   have HSUM : Hid (Calls Tryz.prog 118 #[.slice (some ⟨w7.heap.size, 0, none⟩) 1 1] (w7.alloc (.cells #[.slice (some ⟨g, 0, none⟩) E n] 22)) fun e v2 => e = .returned (.int .u32 (SN : Int)) ∧ Hid (Below w7.heap.size w7 v2)) := by
    have hss : SlS (w7.alloc (.cells #[.slice (some ⟨g, 0, none⟩) E n] 22)) (some ⟨w7.heap.size, 0, none⟩) 1 1 [H] := sls_one5 w7 _ _ _ _ HSB.out _ rfl
    refine zaa ((sum_any _ _ _ _ _ hss ((HT.out.on HB7.out h0).on (Br.alloc Lr _) (zO h0 HB7.out.size))).mono ?_)
    rintro e v2 ⟨rfl, q, rfl⟩
    rw [HSS.out]
    exact ⟨rfl, zab (zad Br Lr _) q⟩
   clear hS HSB
   go_wp2_with (go_at_call 118; refine HSUM.out.mono ?_; rintro e w8 ⟨rfl, HB8⟩; refine Hid.out ?_)
   apply zaa
   have HFX := zaa (fixed_row (SN : Int) 4 w8 (by omega) (by omega) (by omega))
   clear HSUM
   go_wp2_with (go_at_call 117; refine HFX.out.mono ?_; rintro e w9 ⟨fb, fo, fc, rfl, HFS, HB9⟩; refine Hid.out ?_)
   apply zaa
   have HB79 : Hid (Below w7.heap.size w7 w9) := zaa (zae HB8.out Lr HB9.out)
   have HZ9 : Hid (OwnZ w9 g n H) := zaa (HZ8.out.on HB79.out)
   have HBW9 : Hid (Below w.heap.size w w9) := zaa (zae HB7.out Lr HB79.out)
   clear HFX HZ8 HB8 HB9 HB79
   go_wp2_with (at_builtin; refine app_z _ rfl _ _ rfl g n H (fB 4 (SN : Int)) E (some ⟨fb, fo, none⟩) 4 fc HHL.out rfl rfl HZ9.out HFS.out (by omega) (by omega) ?_; refine Hid.out ?_)
   apply zaa
   intro wA HZA HCA
   have HBA : Hid (Below w.heap.size w wA) := zaa (bz HG.out HBW9.out HCA.out)
   have HBK : Hid (Bk wA g (sealB (wrL k n P body st))) := zaa (by
    have h1 := HZA.out.1
    rw [show n - (H ++ fB 4 (SN : Int)).length = 0 by rw [zG, HHL.out, zah]; omega] at h1
    rw [HWR.out]
    unfold sealB
    rw [HSS.out]
    simpa [zs] using h1)
   have HGE : Hid (w.heap.size ≤ g) := zaa (by have := HG.out; omega)
   clear HZ9 HZA HCA HBW9 HFS
   go_wp2
   go_ret
   exact ⟨g, rfl, HGE.out, HBK, HBA⟩
def Nw (B : Nat) (ao : Option Addr) (n : Nat) : Prop := n = 0 ∨ ∀ p, ao = some p → B ≤ p.block
theorem Nw.low {B C : Nat} {ao : Option Addr} {n : Nat} (h : Nw C ao n) (hB : B ≤ C) : Nw B ao n := h.imp id fun h p e => zN hB (h p e)
theorem Nw.less {B : Nat} {ao : Option Addr} {n m : Nat} (h : Nw B ao n) (hm : m ≤ n) : Nw B ao m := by
 rcases h with h | h
 ·exact .inl (by omega)
 ·exact .inr h
theorem OwnB.nw {w : World} {B : Nat} {ao : Option Addr} {n cp : Nat} {l : List Int} (h : OwnB w B (.slice ao n cp) l) : Nw B ao n := by
 rcases h.2 with ⟨e, _⟩ | ⟨g, cap, cur, e, hg, _⟩
 ·injection e with _ e
  exact .inl e
 ·injection e with e
  right
  intro p hp
  rw [e] at hp
  injection hp with hp
  rw [← hp]
  exact hg
def ShTo (P : List Int) (w : World) (e : Ending) (w' : World) : Prop := ∃ po pn pc, e = .returned (.slice po pn pc) ∧ Hid (Sl w' po pn pc P) ∧ Hid (Below w.heap.size w w') ∧ Hid (Nw w.heap.size po pn)
theorem SlE.item {w : World} {G : Nat} {ao : Option Addr} {n cap : Nat} {cs : List Cl} (h : SlE w G ao n cap cs) (i : Nat) (hi : i < n) : ∃ b off c, ao = some ⟨b, off, none⟩ ∧ b < w.heap.size ∧ cs[i]? = some c ∧ EAt w G b (off + i * 6) c := by
 have hl := h.hlen
 rcases h.hat with h0 | ⟨b, off, e, hb, hc⟩
 ·omega
 ·obtain ⟨c, hci⟩ : ∃ c, cs[i]? = some c := ⟨_, zI (by omega)⟩
  exact ⟨b, off, c, e, hb, hci, hc i c hci⟩
theorem SlE.piece {w : World} {G b off n cap : Nat} {cs : List Cl} (h : SlE w G (some ⟨b, off, none⟩) n cap cs) (i k c : Nat) (hk : i + k ≤ n) (hc : k ≤ c) : SlE w G (some ⟨b, off + i * 6, none⟩) k c ((cs.drop i).take k) := by
 have hl := h.hlen
 refine ⟨by rw [zJ, zK]; omega, hc, by have := h.hroom; omega, (by intro h; cases h), ?_⟩
 rcases h.hat with h0 | ⟨b', off', e, hb, hcs⟩
 ·exact .inl (by omega)
 ·injection e with e
  injection e with e1 e2
  subst e1 e2
  refine .inr ⟨b, off + i * 6, rfl, hb, fun j c hj => ?_⟩
  have hjl := (zH.1 hj).1
  rw [zJ, zK] at hjl
  rw [List.getElem?_take_of_lt (by omega), List.getElem?_drop] at hj
  have := hcs (i + j) c hj
  rwa [show off + (i + j) * 6 = off + i * 6 + j * 6 by omega] at this
theorem Sl.uniq {w : World} {ao : Option Addr} {n cap : Nat} {l l' : List Int} (h : Sl w ao n cap l) (g : Sl w ao n cap l') : l = l' := by
 have h1 := h.hlen
 have h2 := g.hlen
 refine List.ext_getElem (by omega) fun i hi hi' => ?_
 rcases h.hat with h0 | ⟨b, off, e, _, hc⟩
 ·omega
 ·rcases g.hat with g0 | ⟨b', off', e', _, gc⟩
  ·omega
  ·rw [e] at e'
   injection e' with e'
   injection e' with e1 e2
   subst e1 e2
   have k1 := hc i (by omega)
   have k2 := gc i (by omega)
   rw [k1] at k2
   injection k2 with k2
   injection k2 with _ k2
   simpa [List.getD, hi, hi'] using k2
theorem EAt.key {w : World} {G b off : Nat} {c : Cl} (h : EAt w G b off c) (hf : c.key.length ≤ 140737488355328) : ∃ ho hn hc ko kn kc vo vn vc, w.cell? ⟨b, off, none⟩ = some (.slice ho hn hc) ∧ w.cell? ⟨b, off + 1, none⟩ = some (.slice ko kn kc) ∧ w.cell? ⟨b, off + 2, none⟩ = some (.int .i64 c.kd) ∧ w.cell? ⟨b, off + 3, none⟩ = some (.slice vo vn vc) ∧ w.cell? ⟨b, off + 4, none⟩ = some (.int .i64 c.pg) ∧ w.cell? ⟨b, off + 5, none⟩ = some (.int .i64 c.ct) ∧
  (∃ h key, Sl w ho hn hc h ∧ Sl w ko kn kc key ∧ h ++ key = c.key) ∧ ∀ u, Below w.heap.size w u → Calls Tryz.prog 130 #[.agg #[.slice ho hn hc, .slice ko kn kc, .int .i64 c.kd, .slice vo vn vc, .int .i64 c.pg, .int .i64 c.ct]] u fun e w' => ∃ a cp, e = .returned (.slice a c.key.length cp) ∧ Hid (Sl w' a c.key.length cp c.key ∧ Nw u.heap.size a c.key.length) ∧ Hid (Below u.heap.size u w') := by
 obtain ⟨ho, hn, hc, ko, kn, kc, vo, vn, vc, h', key, h0, h1, h2, h3, h4, h5, s1, s2, s3, e, _⟩ := h
 refine ⟨ho, hn, hc, ko, kn, kc, vo, vn, vc, h0, h1, h2, h3, h4, h5, ⟨h', key, s1, s2, e⟩, fun u hu => ?_⟩
 have hlen : hn + kn = c.key.length := by rw [← e, zG, s1.hlen, s2.hlen]
 refine (keyq_any ho hn hc ko kn kc c.kd vo vn vc c.pg c.ct h' key u (s1.on Lr hu) (s2.on Lr hu) (by omega)).mono ?_
 rintro x w' ⟨v', rfl, HO, HB⟩
 have ho' := HO.out
 rw [e] at ho'
 obtain ⟨a, cp, hv, hs, _⟩ := ho'.sl (by rw [← e]; exact s1.wf.append s2.wf) hf
 exact ⟨a, cp, by rw [hv], zaa ⟨hs, by rw [hv] at ho'; exact ho'.nw⟩, HB⟩
theorem shared_any (k : Int) (G : Nat) (ao : Option Addr) (n cap : Nat) (cs : List Cl) (w : World) (hs : SlE w G ao n cap cs) (hr : Rs cs) (hf : ∀ c ∈ cs, c.fit) :
  Calls Tryz.prog 125 #[.int .i64 k, .slice ao n cap] w fun e w' => ShTo (shP k cs) w e w' := by
 have hn := hs.hroom
 have hcap := hs.hcap
 have hlen := hs.hlen
 by_cases h0 : n = 0
 ·subst h0
  obtain rfl : cs = [] := List.eq_nil_of_length_eq_zero hlen
  have hz : shP k [] = [] := by unfold shP ktl; split <;> rfl
  rw [hz]
  clear hs
  go_enter Tryz.func125, Tryz.ntmps125
  go_wp2
  go_ret
  exact ⟨none, 0, 0, rfl, zaa (Sl.nil_any _ _ _ (fun _ => rfl)), zaa Br, zaa (.inl rfl)⟩
 ·have hn0 : 0 < n := by omega
  have hnI : 0 < (n : Int) := by omega
  have d0 : ((n : Int) == 0) = false := by simp; omega
  obtain ⟨b, off, rfl⟩ : ∃ b off, ao = some ⟨b, off, none⟩ := by
   rcases hs.hat with h | ⟨b, off, e, _⟩
   ·exact absurd h h0
   ·exact ⟨b, off, e⟩
  by_cases hk : k = 3
  ·have hd : decide (k = 3 ∧ (0 : Int) = 0) = true := by simp [hk]
   have HSW : Hid (∀ u, Calls Tryz.prog 82 #[.int .i64 k, .int .i64 0] u fun e w' => e = .returned (.bool true) ∧ w' = u) := zaa (fun u => by have := zdm k 0 u; rwa [hd] at this)
   clear hd
   have hkt : ktl k cs = cs.drop 1 := by unfold ktl; rw [if_pos hk, List.drop_one]
   clear hk
   unfold shP
   rw [hkt]
   by_cases h1 : n = 1
   ·subst h1
    have hz : shr (cs.drop 1) = [] := by rw [List.drop_eq_nil_of_le (by omega)]; rfl
    rw [hz]
    have hc1 : (1 : Int) ≤ (cap : Int) := by omega
    clear hs
    by_cases hcc : cap = 1
    ·subst hcc
     go_enter Tryz.func125, Tryz.ntmps125
     go_wp2_with (go_at_call 82; refine zac (HSW.out _) ?_)
     go_ret
     exact ⟨none, 0, 0, rfl, zaa (Sl.nil_any _ _ _ (fun _ => rfl)), zaa Br, zaa (.inl rfl)⟩
    ·have hcc2 : 1 < cap := by omega
     have hcc3 : cap - 1 ≠ 0 := by omega
     go_enter Tryz.func125, Tryz.ntmps125
     go_wp2_with (go_at_call 82; refine zac (HSW.out _) ?_)
     go_ret
     exact ⟨none, 0, 0, rfl, zaa (Sl.nil_any _ _ _ (fun _ => rfl)), zaa Br, zaa (.inl rfl)⟩
   ·have h2 := hs.piece 1 (n - 1) (cap - 1) (by omega) (by omega)
    have e2 : (cs.drop 1).take (n - 1) = cs.drop 1 := List.take_of_length_le (by rw [zK]; omega)
    rw [e2, Nat.one_mul] at h2
    have hr2 : Rs (cs.drop 1) := List.Pairwise.drop hr
    have hf2 : ∀ c ∈ cs.drop 1, c.fit := fun c hc => hf c (List.mem_of_mem_drop hc)
    generalize cs.drop 1 = ds at *
    have hc1 : (1 : Int) ≤ (cap : Int) := by omega
    have hcc3 : cap - 1 ≠ 0 := by omega
    have hcc4 : 1 < cap := by omega
    have hn3 : (1 : Int) ≤ (n : Int) := by omega
    have hn4 : 1 ≤ n := by omega
    obtain ⟨n', hn'⟩ : ∃ n', n - 1 = n' := ⟨_, rfl⟩
    obtain ⟨cap', hcap'⟩ : ∃ c', cap - 1 = c' := ⟨_, rfl⟩
    obtain ⟨off', hoff'⟩ : ∃ o', off + 6 = o' := ⟨_, rfl⟩
    rw [hn', hcap', hoff'] at h2
    have hnn : (n : Int) - 1 = (n' : Int) := by omega
    have hn0' : 0 < n' := by omega
    have hnI' : 0 < (n' : Int) := by omega
    have d0' : ((n' : Int) == 0) = false := by simp; omega
    clear hs hlen hkt e2 hr hf
    have HSC := zaa h2
    obtain ⟨b1, off1, c, hbo, hbl, hci, he0⟩ := h2.item 0 hn0'
    injection hbo with hbo
    injection hbo with hb1 hb2
    subst hb1 hb2
    simp only [Nat.zero_mul, Nat.add_zero] at he0
    obtain ⟨M, hM⟩ : ∃ M, n' - 1 = M := ⟨_, rfl⟩
    obtain ⟨b1, off1, z, hbo, _, hzi, he1⟩ := h2.item M (by omega)
    injection hbo with hbo
    injection hbo with hb1 hb2
    subst hb1 hb2
    have hMw : IntKind.i64.wrap ((n' : Int) - 1) = (M : Int) := by rw [IntKind.wrap_i64]; omega
    have hMw2 : (n' : Int) - 1 = (M : Int) := by omega
    have hMw3 : IntKind.i64.wrap (M : Int) = (M : Int) := by rw [IntKind.wrap_i64]; omega
    have hMl : M < n' := by omega
    have hMI : (M : Int) < (n' : Int) := by omega
    have hll := h2.hlen
    have hcm := (hf2 c (List.mem_of_getElem? hci)).key
    have hzm := (hf2 z (List.mem_of_getElem? hzi)).key
    have HEQ : Hid (shr ds = c.key.take (lcp c.key z.key)) := zaa (by
     match ds, hci, hzi, hll, hr2 with
     | x :: r, hci, hzi, hll, hr2 =>
      simp at hci
      subst hci
      unfold shr
      cases r with
      | nil =>
       have : M = 0 := by simp at hll; omega
       subst this
       simp at hzi
       subst hzi
       rw [lcp_self]
       rfl
      | cons y r' =>
       unfold Rs at hr2
       rw [List.pairwise_cons] at hr2
       have hgl : (y :: r').getLast? = some z := by
        have hM1 : M = (y :: r').length := by simp at hll ⊢; omega
        rw [hM1] at hzi
        simp only [List.length_cons, List.getElem?_cons_succ] at hzi
        rw [List.getLast?_eq_getElem?]
        simpa using hzi
       show List.take (shn x.key (y :: r')) x.key = _
       rw [shn_last x.key (y :: r') z hgl hr2.1 hr2.2])
    obtain ⟨ho, hn1, hc1, ko, kn, kc, vo, vn, vc, c0, c1, c2, c3, c4, c5, hpc0, hkey0⟩ := he0.key (by omega)
    obtain ⟨zo, zn, zc, yo, yn, yc, xo, xn, xc, z0, z1, z2, z3, z4, z5, hpc1, hkey1⟩ := he1.key (by omega)
    have HCE : Hid (∀ u, Below w.heap.size w u → u.cell? ⟨b, off', none⟩ = some (.slice ho hn1 hc1) ∧ u.cell? ⟨b, off' + 1, none⟩ = some (.slice ko kn kc) ∧ u.cell? ⟨b, off' + 2, none⟩ = some (.int .i64 c.kd) ∧ u.cell? ⟨b, off' + 3, none⟩ = some (.slice vo vn vc) ∧ u.cell? ⟨b, off' + 4, none⟩ = some (.int .i64 c.pg) ∧ u.cell? ⟨b, off' + 5, none⟩ = some (.int .i64 c.ct) ∧ u.cell? ⟨b, off' + M * 6, none⟩ = some (.slice zo zn zc) ∧ u.cell? ⟨b, off' + M * 6 + 1, none⟩ = some (.slice yo yn yc) ∧ u.cell? ⟨b, off' + M * 6 + 2, none⟩ = some (.int .i64 z.kd) ∧ u.cell? ⟨b, off' + M * 6 + 3, none⟩ = some (.slice xo xn xc) ∧ u.cell? ⟨b, off' + M * 6 + 4, none⟩ = some (.int .i64 z.pg) ∧ u.cell? ⟨b, off' + M * 6 + 5, none⟩ = some (.int .i64 z.ct)) := zaa fun u hu =>
     ⟨(hu.cell (p := ⟨b, off', none⟩) hbl).trans c0, (hu.cell (p := ⟨b, off' + 1, none⟩) hbl).trans c1, (hu.cell (p := ⟨b, off' + 2, none⟩) hbl).trans c2, (hu.cell (p := ⟨b, off' + 3, none⟩) hbl).trans c3, (hu.cell (p := ⟨b, off' + 4, none⟩) hbl).trans c4, (hu.cell (p := ⟨b, off' + 5, none⟩) hbl).trans c5, (hu.cell (p := ⟨b, off' + M * 6, none⟩) hbl).trans z0, (hu.cell (p := ⟨b, off' + M * 6 + 1, none⟩) hbl).trans z1, (hu.cell (p := ⟨b, off' + M * 6 + 2, none⟩) hbl).trans z2, (hu.cell (p := ⟨b, off' + M * 6 + 3, none⟩) hbl).trans z3, (hu.cell (p := ⟨b, off' + M * 6 + 4, none⟩) hbl).trans z4, (hu.cell (p := ⟨b, off' + M * 6 + 5, none⟩) hbl).trans z5⟩
    have HK : Hid (∀ (E : Array Value) u, (E = #[.slice ho hn1 hc1, .slice ko kn kc, .int .i64 c.kd, .slice vo vn vc, .int .i64 c.pg, .int .i64 c.ct] ∨ E = #[.slice zo zn zc, .slice yo yn yc, .int .i64 z.kd, .slice xo xn xc, .int .i64 z.pg, .int .i64 z.ct]) → Below w.heap.size w u → Calls Tryz.prog 130 #[.agg E] u fun e w' => ∃ a m cp t, e = .returned (.slice a m cp) ∧ Hid ((Sl w' a m cp t ∧ Nw w.heap.size a m) ∧ (t = c.key ∨ t = z.key) ∧ (E = #[.slice ho hn1 hc1, .slice ko kn kc, .int .i64 c.kd, .slice vo vn vc, .int .i64 c.pg, .int .i64 c.ct] → t = c.key) ∧ (E = #[.slice zo zn zc, .slice yo yn yc, .int .i64 z.kd, .slice xo xn xc, .int .i64 z.pg, .int .i64 z.ct] → t = z.key)) ∧ Hid (Below u.heap.size u w')) := zaa (by
     have huq : #[Value.slice ho hn1 hc1, Value.slice ko kn kc, Value.int .i64 c.kd, Value.slice vo vn vc, Value.int .i64 c.pg, Value.int .i64 c.ct] = #[Value.slice zo zn zc, Value.slice yo yn yc, Value.int .i64 z.kd, Value.slice xo xn xc, Value.int .i64 z.pg, Value.int .i64 z.ct] → c.key = z.key := by
      intro hE
      obtain ⟨l1, l2, s1, s2, e1⟩ := hpc0
      obtain ⟨l3, l4, s3, s4, e2⟩ := hpc1
      simp only [Array.mk.injEq, List.cons.injEq, Value.slice.injEq] at hE
      obtain ⟨⟨rfl, rfl, rfl⟩, ⟨rfl, rfl, rfl⟩, _⟩ := hE
      rw [← e1, ← e2, s1.uniq s3, s2.uniq s4]
     intro E u hE hu
     rcases hE with rfl | rfl
     ·refine (hkey0 u hu).mono ?_
      rintro e w' ⟨a', cp, rfl, HS', HB'⟩
      exact ⟨a', _, cp, c.key, rfl, zaa ⟨⟨HS'.out.1, HS'.out.2.low hu.size⟩, .inl rfl, fun _ => rfl, huq⟩, HB'⟩
     ·refine (hkey1 u hu).mono ?_
      rintro e w' ⟨a', cp, rfl, HS', HB'⟩
      exact ⟨a', _, cp, z.key, rfl, zaa ⟨⟨HS'.out.1, HS'.out.2.low hu.size⟩, .inr rfl, fun h => (huq h.symm).symm, fun _ => rfl⟩, HB'⟩)
    have HLC := zaa (lcp_le c.key z.key)
    rw [HEQ.out]
    obtain ⟨K, hK⟩ : ∃ K, c.key.length = K := ⟨_, rfl⟩
    obtain ⟨Z, hZ⟩ : ∃ Z, z.key.length = Z := ⟨_, rfl⟩
    clear h2 hr2 hf2 hci hzi he0 he1 hkey0 hkey1 hpc0 hpc1 hll hM
    go_enter Tryz.func125, Tryz.ntmps125
    go_wp2_with (go_at_call 82; refine zac (HSW.out _) ?_)
    go_region_with (first | (go_at_call 130; refine (HK.out _ _ (by first | exact .inl rfl | exact .inr rfl) (by first | exact Br | exact Br.drew | exact zab Br _ | exact HB1.out | exact HB1.out.drew | exact zab HB1.out _ | exact (zab HB1.out _).drew)).mono ?_; first | (have _hh := HB1; rintro e w2 ⟨a2, m2, p2, t2, rfl, HS2, HB2⟩) | (rintro e w1 ⟨a1, m1', p1, t1, rfl, HS1, HBx⟩; have HB1 : Hid (Below w.heap.size w w1) := zaa (zae (by first | exact Br | exact Br.drew | exact zab Br _) Lr HBx.out); obtain ⟨m0, m1, m2, m3, m4, m5, m6, m7, m8, m9, mA, mB⟩ := HCE.out _ HB1.out)))
    all_goals
     have e1 : t1 = c.key := HS1.out.2.2.1 (by first | trivial | rfl)
     have e2 : t2 = z.key := HS2.out.2.2.2 (by first | trivial | rfl)
     have HSA : Hid (Sl w2 a1 m1' p1 c.key) := zaa (by rw [← e1]; exact HS1.out.1.1.on Lr HB2.out)
     have HSZ : Hid (Sl w2 a2 m2 p2 z.key) := zaa (by rw [← e2]; exact HS2.out.1.1)
     have HBW : Hid (Below w.heap.size w w2) := zaa (zae HB1.out Lr HB2.out)
     have hpl := HSA.out.hlen
     have hpc := HSA.out.hcap
     obtain ⟨q, hq⟩ : ∃ q, lcp c.key z.key = q := ⟨_, rfl⟩
     have hq1 := HLC.out.1
     rw [hq] at hq1
     have hqI : (q : Int) ≤ (p1 : Int) := by omega
     have HTK : Hid (∀ u, Below w2.heap.size w2 u → Sl u a1 q p1 (c.key.take (lcp c.key z.key))) := zaa (by
      intro u hu
      rw [hq]
      exact (HSA.out.on Lr hu).take q (by omega))
     have HCM : Hid (∀ u g, Below w2.heap.size w2 u → u.heap[g]? = some (.cells #[.slice a1 m1' p1, .slice a2 m2 p2] 22 (0, 0)) → Calls Tryz.prog 123 #[.slice (some ⟨g, 0, none⟩) 2 2] u fun e w' => e = .returned (.int .i64 (q : Int)) ∧ ∃ q, w' = u.drewN q) := zaa (by
      intro u g hu hg
      have := common_any (some ⟨g, 0, none⟩) 2 2 c.key [z.key] u (sls_two hg (HSA.out.on Lr hu) (HSZ.out.on Lr hu))
      rwa [cmN_two, hq] at this)
     have HNW : Hid (Nw w.heap.size a1 q) := zaa (HS1.out.1.2.less (by omega))
     clear e1 e2 HS1 HS2 HSZ hq
     go_wp2_with (go_at_call 123; refine (HCM.out _ _ (by first | exact zad Br Lr _ | exact zad (Br.drew) Lr _ | exact zad (zab Br _) Lr _) (by exact heap_alloc_last _ _)).mono ?_; rintro e w4 ⟨rfl, q4, rfl⟩)
     go_ret
     exact ⟨a1, q, p1, rfl, zaa (HTK.out _ (by first | exact zab (zad Br Lr _) _ | exact zab (zad (Br.drew) Lr _) _ | exact zab (zad (zab Br _) Lr _) _)), zaa (by first | exact zab (zad HBW.out Lr _) _ | exact zab (zad HBW.out.drew Lr _) _ | exact zab (zad (zab HBW.out _) Lr _) _), HNW⟩
  ·have hd : decide (k = 3 ∧ (0 : Int) = 0) = false := by simp [hk]
   have HSW : Hid (∀ u, Calls Tryz.prog 82 #[.int .i64 k, .int .i64 0] u fun e w' => e = .returned (.bool false) ∧ w' = u) := zaa (fun u => by have := zdm k 0 u; rwa [hd] at this)
   clear hd
   have hkt : ktl k cs = cs := by unfold ktl; rw [if_neg hk]
   clear hk
   unfold shP
   rw [hkt]
   have h2 := hs
   have hr2 := hr
   have hf2 := hf
   clear hkt hs hr hf
   have HSC := zaa h2
   obtain ⟨b1, off1, c, hbo, hbl, hci, he0⟩ := h2.item 0 hn0
   injection hbo with hbo
   injection hbo with hb1 hb2
   subst hb1 hb2
   simp only [Nat.zero_mul, Nat.add_zero] at he0
   obtain ⟨M, hM⟩ : ∃ M, n - 1 = M := ⟨_, rfl⟩
   obtain ⟨b1, off1, z, hbo, _, hzi, he1⟩ := h2.item M (by omega)
   injection hbo with hbo
   injection hbo with hb1 hb2
   subst hb1 hb2
   have hMw : IntKind.i64.wrap ((n : Int) - 1) = (M : Int) := by rw [IntKind.wrap_i64]; omega
   have hMw2 : (n : Int) - 1 = (M : Int) := by omega
   have hMw3 : IntKind.i64.wrap (M : Int) = (M : Int) := by rw [IntKind.wrap_i64]; omega
   have hMl : M < n := by omega
   have hMI : (M : Int) < (n : Int) := by omega
   have hll := h2.hlen
   have hcm := (hf2 c (List.mem_of_getElem? hci)).key
   have hzm := (hf2 z (List.mem_of_getElem? hzi)).key
   have HEQ : Hid (shr cs = c.key.take (lcp c.key z.key)) := zaa (by
    match cs, hci, hzi, hll, hr2 with
    | x :: r, hci, hzi, hll, hr2 =>
     simp at hci
     subst hci
     unfold shr
     cases r with
     | nil =>
      have : M = 0 := by simp at hll; omega
      subst this
      simp at hzi
      subst hzi
      rw [lcp_self]
      rfl
     | cons y r' =>
      unfold Rs at hr2
      rw [List.pairwise_cons] at hr2
      have hgl : (y :: r').getLast? = some z := by
       have hM1 : M = (y :: r').length := by simp at hll ⊢; omega
       rw [hM1] at hzi
       simp only [List.length_cons, List.getElem?_cons_succ] at hzi
       rw [List.getLast?_eq_getElem?]
       simpa using hzi
      show List.take (shn x.key (y :: r')) x.key = _
      rw [shn_last x.key (y :: r') z hgl hr2.1 hr2.2])
   obtain ⟨ho, hn1, hc1, ko, kn, kc, vo, vn, vc, c0, c1, c2, c3, c4, c5, hpc0, hkey0⟩ := he0.key (by omega)
   obtain ⟨zo, zn, zc, yo, yn, yc, xo, xn, xc, z0, z1, z2, z3, z4, z5, hpc1, hkey1⟩ := he1.key (by omega)
   have HCE : Hid (∀ u, Below w.heap.size w u → u.cell? ⟨b, off, none⟩ = some (.slice ho hn1 hc1) ∧ u.cell? ⟨b, off + 1, none⟩ = some (.slice ko kn kc) ∧ u.cell? ⟨b, off + 2, none⟩ = some (.int .i64 c.kd) ∧ u.cell? ⟨b, off + 3, none⟩ = some (.slice vo vn vc) ∧ u.cell? ⟨b, off + 4, none⟩ = some (.int .i64 c.pg) ∧ u.cell? ⟨b, off + 5, none⟩ = some (.int .i64 c.ct) ∧ u.cell? ⟨b, off + M * 6, none⟩ = some (.slice zo zn zc) ∧ u.cell? ⟨b, off + M * 6 + 1, none⟩ = some (.slice yo yn yc) ∧ u.cell? ⟨b, off + M * 6 + 2, none⟩ = some (.int .i64 z.kd) ∧ u.cell? ⟨b, off + M * 6 + 3, none⟩ = some (.slice xo xn xc) ∧ u.cell? ⟨b, off + M * 6 + 4, none⟩ = some (.int .i64 z.pg) ∧ u.cell? ⟨b, off + M * 6 + 5, none⟩ = some (.int .i64 z.ct)) := zaa fun u hu =>
    ⟨(hu.cell (p := ⟨b, off, none⟩) hbl).trans c0, (hu.cell (p := ⟨b, off + 1, none⟩) hbl).trans c1, (hu.cell (p := ⟨b, off + 2, none⟩) hbl).trans c2, (hu.cell (p := ⟨b, off + 3, none⟩) hbl).trans c3, (hu.cell (p := ⟨b, off + 4, none⟩) hbl).trans c4, (hu.cell (p := ⟨b, off + 5, none⟩) hbl).trans c5, (hu.cell (p := ⟨b, off + M * 6, none⟩) hbl).trans z0, (hu.cell (p := ⟨b, off + M * 6 + 1, none⟩) hbl).trans z1, (hu.cell (p := ⟨b, off + M * 6 + 2, none⟩) hbl).trans z2, (hu.cell (p := ⟨b, off + M * 6 + 3, none⟩) hbl).trans z3, (hu.cell (p := ⟨b, off + M * 6 + 4, none⟩) hbl).trans z4, (hu.cell (p := ⟨b, off + M * 6 + 5, none⟩) hbl).trans z5⟩
   have HK : Hid (∀ (E : Array Value) u, (E = #[.slice ho hn1 hc1, .slice ko kn kc, .int .i64 c.kd, .slice vo vn vc, .int .i64 c.pg, .int .i64 c.ct] ∨ E = #[.slice zo zn zc, .slice yo yn yc, .int .i64 z.kd, .slice xo xn xc, .int .i64 z.pg, .int .i64 z.ct]) → Below w.heap.size w u → Calls Tryz.prog 130 #[.agg E] u fun e w' => ∃ a m cp t, e = .returned (.slice a m cp) ∧ Hid ((Sl w' a m cp t ∧ Nw w.heap.size a m) ∧ (t = c.key ∨ t = z.key) ∧ (E = #[.slice ho hn1 hc1, .slice ko kn kc, .int .i64 c.kd, .slice vo vn vc, .int .i64 c.pg, .int .i64 c.ct] → t = c.key) ∧ (E = #[.slice zo zn zc, .slice yo yn yc, .int .i64 z.kd, .slice xo xn xc, .int .i64 z.pg, .int .i64 z.ct] → t = z.key)) ∧ Hid (Below u.heap.size u w')) := zaa (by
    have huq : #[Value.slice ho hn1 hc1, Value.slice ko kn kc, Value.int .i64 c.kd, Value.slice vo vn vc, Value.int .i64 c.pg, Value.int .i64 c.ct] = #[Value.slice zo zn zc, Value.slice yo yn yc, Value.int .i64 z.kd, Value.slice xo xn xc, Value.int .i64 z.pg, Value.int .i64 z.ct] → c.key = z.key := by
     intro hE
     obtain ⟨l1, l2, s1, s2, e1⟩ := hpc0
     obtain ⟨l3, l4, s3, s4, e2⟩ := hpc1
     simp only [Array.mk.injEq, List.cons.injEq, Value.slice.injEq] at hE
     obtain ⟨⟨rfl, rfl, rfl⟩, ⟨rfl, rfl, rfl⟩, _⟩ := hE
     rw [← e1, ← e2, s1.uniq s3, s2.uniq s4]
    intro E u hE hu
    rcases hE with rfl | rfl
    ·refine (hkey0 u hu).mono ?_
     rintro e w' ⟨a', cp, rfl, HS', HB'⟩
     exact ⟨a', _, cp, c.key, rfl, zaa ⟨⟨HS'.out.1, HS'.out.2.low hu.size⟩, .inl rfl, fun _ => rfl, huq⟩, HB'⟩
    ·refine (hkey1 u hu).mono ?_
     rintro e w' ⟨a', cp, rfl, HS', HB'⟩
     exact ⟨a', _, cp, z.key, rfl, zaa ⟨⟨HS'.out.1, HS'.out.2.low hu.size⟩, .inr rfl, fun h => (huq h.symm).symm, fun _ => rfl⟩, HB'⟩)
   have HLC := zaa (lcp_le c.key z.key)
   rw [HEQ.out]
   obtain ⟨K, hK⟩ : ∃ K, c.key.length = K := ⟨_, rfl⟩
   obtain ⟨Z, hZ⟩ : ∃ Z, z.key.length = Z := ⟨_, rfl⟩
   clear h2 hr2 hf2 hci hzi he0 he1 hkey0 hkey1 hpc0 hpc1 hll hM
   go_enter Tryz.func125, Tryz.ntmps125
   go_wp2_with (go_at_call 82; refine zac (HSW.out _) ?_)
   go_region_with (first | (go_at_call 130; refine (HK.out _ _ (by first | exact .inl rfl | exact .inr rfl) (by first | exact Br | exact Br.drew | exact zab Br _ | exact HB1.out | exact HB1.out.drew | exact zab HB1.out _ | exact (zab HB1.out _).drew)).mono ?_; first | (have _hh := HB1; rintro e w2 ⟨a2, m2, p2, t2, rfl, HS2, HB2⟩) | (rintro e w1 ⟨a1, m1', p1, t1, rfl, HS1, HBx⟩; have HB1 : Hid (Below w.heap.size w w1) := zaa (zae (by first | exact Br | exact Br.drew | exact zab Br _) Lr HBx.out); obtain ⟨m0, m1, m2, m3, m4, m5, m6, m7, m8, m9, mA, mB⟩ := HCE.out _ HB1.out)))
   all_goals
    have e1 : t1 = c.key := HS1.out.2.2.1 (by first | trivial | rfl)
    have e2 : t2 = z.key := HS2.out.2.2.2 (by first | trivial | rfl)
    have HSA : Hid (Sl w2 a1 m1' p1 c.key) := zaa (by rw [← e1]; exact HS1.out.1.1.on Lr HB2.out)
    have HSZ : Hid (Sl w2 a2 m2 p2 z.key) := zaa (by rw [← e2]; exact HS2.out.1.1)
    have HBW : Hid (Below w.heap.size w w2) := zaa (zae HB1.out Lr HB2.out)
    have hpl := HSA.out.hlen
    have hpc := HSA.out.hcap
    obtain ⟨q, hq⟩ : ∃ q, lcp c.key z.key = q := ⟨_, rfl⟩
    have hq1 := HLC.out.1
    rw [hq] at hq1
    have hqI : (q : Int) ≤ (p1 : Int) := by omega
    have HTK : Hid (∀ u, Below w2.heap.size w2 u → Sl u a1 q p1 (c.key.take (lcp c.key z.key))) := zaa (by
     intro u hu
     rw [hq]
     exact (HSA.out.on Lr hu).take q (by omega))
    have HCM : Hid (∀ u g, Below w2.heap.size w2 u → u.heap[g]? = some (.cells #[.slice a1 m1' p1, .slice a2 m2 p2] 22 (0, 0)) → Calls Tryz.prog 123 #[.slice (some ⟨g, 0, none⟩) 2 2] u fun e w' => e = .returned (.int .i64 (q : Int)) ∧ ∃ q, w' = u.drewN q) := zaa (by
     intro u g hu hg
     have := common_any (some ⟨g, 0, none⟩) 2 2 c.key [z.key] u (sls_two hg (HSA.out.on Lr hu) (HSZ.out.on Lr hu))
     rwa [cmN_two, hq] at this)
    have HNW : Hid (Nw w.heap.size a1 q) := zaa (HS1.out.1.2.less (by omega))
    clear e1 e2 HS1 HS2 HSZ hq
    go_wp2_with (go_at_call 123; refine (HCM.out _ _ (by first | exact zad Br Lr _ | exact zad (Br.drew) Lr _ | exact zad (zab Br _) Lr _) (by exact heap_alloc_last _ _)).mono ?_; rintro e w4 ⟨rfl, q4, rfl⟩)
    go_ret
    exact ⟨a1, q, p1, rfl, zaa (HTK.out _ (by first | exact zab (zad Br Lr _) _ | exact zab (zad (Br.drew) Lr _) _ | exact zab (zad (zab Br _) Lr _) _)), zaa (by first | exact zab (zad HBW.out Lr _) _ | exact zab (zad HBW.out.drew Lr _) _ | exact zab (zad (zab HBW.out _) Lr _) _), HNW⟩
end Go.Proofs.YtbkhjeacmmbabaaGreatDoor
