/- packed.Page.written. -/
import Derived.Test.YtbefpojdopfeeaaGreatDoorJ14
import Derived.Lib.Overlaps
import Derived.Lib.SliceRun
import Derived.Lib.AppendZerosOnto
import Derived.Laws.IdiomCopy
import Derived.Deep.AppendSrc
namespace Go.Proofs.YtbefpojdopfeeaaGreatDoor
open Go.RowKit

set_option maxRecDepth 100000 in
theorem bz {w u u' : World} {g : Nat} (hg : w.heap.size = g) (hb : Below w.heap.size w u) (hc : Cf (· = g) u u') : Below w.heap.size w u' := hb.trans (hc.below hb.size (by intro k hk e; omega))
set_option maxRecDepth 100000 in
theorem made_bk (w : World) (n : Nat) : OwnZ (w.alloc (.cells (madeCells #[.int .u8 0] n) 5)) w.heap.size n [] := by
  refine ⟨?_, Nat.zero_le _⟩
  unfold Bk
  rw [heap_alloc_last]
  congr 2
  apply Array.toList_inj.1
  rw [toList_madeCells_one]
  simp [By, zs]
set_option maxRecDepth 100000 in
theorem OwnZ.more {w : World} {g N : Nat} {l : List Int} (h : OwnZ w g N l) (m : Nat) (hm : l.length + m ≤ N) : OwnZ w g N (l ++ zs m) := by
  obtain ⟨h1, h2⟩ := h
  refine ⟨?_, by rw [List.length_append, zs_length]; exact hm⟩
  rw [List.append_assoc, ← zs_add, List.length_append, zs_length, show m + (N - (l.length + m)) = N - l.length by omega]
  exact h1
set_option maxRecDepth 100000 in
theorem OwnZ.sl {w : World} {g N : Nat} {l : List Int} (h : OwnZ w g N l) (hw : Wf l) (hN : N ≤ 140737488355328) : Sl w (some ⟨g, 0, none⟩) l.length N l := by
  obtain ⟨h1, h2⟩ := h
  refine ⟨rfl, h2, by omega, hw, (by intro h; cases h), .inr ⟨g, 0, rfl, lt_some h1, fun i hi => ?_⟩⟩
  rw [Nat.zero_add, h1.cell i (by rw [List.length_append]; omega)]
  simp [List.getD, List.getElem?_append_left hi]
/-- The page that is written, ahead of its sum. -/
def wrL (k : Int) (n : Nat) (P body : List Int) (st : List Nat) : List Int := [k, 2] ++ (fB 2 st.length ++ (fB 2 P.length ++ (P ++ (sloB (st.map (6 + P.length + 2 * st.length + ·)) ++ (body ++ zs (n - (10 + P.length + 2 * st.length + body.length)))))))
set_option maxRecDepth 100000 in
theorem sloB_take (l : List Nat) (j : Nat) (s : Nat) (h : l[j]? = some s) : sloB (l.take (j + 1)) = sloB (l.take j) ++ fB 2 (s : Int) := by
  rw [List.take_add_one, h]
  simp [sloB]
set_option maxRecDepth 100000 in
set_option maxHeartbeats 8000000 in
theorem written_any (w : World) (a : Nat) (k : Int) (n : Nat) (po : Option Addr) (pn pc : Nat) (bo : Option Addr) (bn bc : Nat) (so : Option Addr) (sn sc : Nat) (ws : Int) (P body : List Int) (st : List Nat) (h : PgQ w a k n po pn pc bo bn bc so sn sc ws P body st) (hk : isKd k) (hn : n ≤ 65536)
    (hfit : 10 + P.length + 2 * st.length + body.length ≤ n) (hst : ∀ s ∈ st, s ≤ body.length) (ht : Tab w) (h0 : 0 < w.heap.size) :
    Calls Tryz.prog 55 #[.pointer (some ⟨a, 0, none⟩)] w fun e w' => ∃ g, e = .returned (.slice (some ⟨g, 0, none⟩) n n) ∧ w.heap.size ≤ g ∧ Hid (Bk w' g (sealB (wrL k n P body st))) ∧ Hid (Below w.heap.size w w') := by
  have HPG := hidden h
  have HT := hidden ht
  have hk2 : IntKind.u8.wrap k = k := by unfold isKd at hk; rw [IntKind.wrap_u8]; omega
  have hkb : 0 ≤ k ∧ k ≤ 255 := by unfold isKd at hk; omega
  have hPl : P.length = pn := h.pre.hlen
  have hBl : body.length = bn := h.body.hlen
  have hSl : st.length = sn := h.starts.hlen
  rw [hPl, hBl, hSl] at hfit
  have HPL := hidden hPl
  have HBL := hidden hBl
  have HSL := hidden hSl
  have HST := hidden hst
  obtain ⟨g, hg⟩ : ∃ g, w.heap.size = g := ⟨_, rfl⟩
  have HG := hidden hg
  have hmk := made_run n (by omega)
  obtain ⟨x, hx⟩ : ∃ x, w.alloc (.cells (madeCells #[.int .u8 0] n) 5) = x := ⟨_, rfl⟩
  have hbx : Below w.heap.size w x := by rw [← hx]; exact bl_al (Below.refl _ _) (Nat.le_refl _) _
  have HZ0 : Hid (OwnZ x g n []) := hidden (by rw [← hx, ← hg]; exact made_bk w n)
  obtain ⟨y, hy⟩ : ∃ y, x.alloc (.cells #[.int .u8 k, .int .u8 2] 5) = y := ⟨_, rfl⟩
  have hby : Below x.heap.size x y := by rw [← hy]; exact bl_al (Below.refl _ _) (Nat.le_refl _) _
  have HZ1 : Hid (OwnZ y g n []) := hidden (HZ0.out.on hby)
  have HS1 : Hid (Sl y (some ⟨x.heap.size, 0, none⟩) 2 2 [k, 2]) := hidden (by
    refine ⟨rfl, Nat.le_refl _, by omega, Wf.cons hkb (Wf.cons (by omega) Wf.nil), (by intro h; cases h), .inr ⟨x.heap.size, 0, rfl, by rw [← hy]; simp, fun i hi => ?_⟩⟩
    have hi' : i = 0 ∨ i = 1 := by omega
    rw [← hy]
    rcases hi' with rfl | rfl <;> simp)
  have HB1 : Hid (Below w.heap.size w y) := hidden (bl_go hbx (Nat.le_refl _) hby)
  obtain ⟨c0, c1, c2, c3, c4, c5⟩ := h.cells
  obtain ⟨d0, d1, d2, d3, d4, d5⟩ := (h.on hbx).cells
  have hnI : (n : Int) ≤ 65536 := by omega
  have hsnI : (sn : Int) ≤ 65536 := by omega
  have hpnI : (pn : Int) ≤ 65536 := by omega
  clear h ht hk hst hbx hby hPl hBl hSl
  go_enter Tryz.func55, Tryz.ntmps55
  go_wp2_with (at_builtin; refine app_z _ rfl _ _ rfl g n [] [k, 2] 0 (some ⟨x.heap.size, 0, none⟩) 2 2 rfl rfl rfl HZ1.out HS1.out (by omega) (by omega) ?_; refine Hid.out ?_)
  apply hidden
  intro w2 HZ2 HC2
  have HB2 : Hid (Below w.heap.size w w2) := hidden (bz HG.out HB1.out HC2.out)
  clear HZ0 HZ1 HS1 HB1 HC2 c0 c1 c2 c3 c4 c5 d0 d1 d2 d3 d4 d5 hx hy
  obtain ⟨c0, c1, c2, c3, c4, c5⟩ := (HPG.out.on HB2.out).cells
  have HW := hidden (withShort_z g n [k, 2] 2 sn w2 rfl HZ2.out (by omega) (by omega) hn)
  go_wp2_with (first | (go_at_call 96; refine HW.out.mono ?_; rintro e w3 ⟨rfl, HZ3, HC3⟩; refine Hid.out ?_))
  apply hidden
  have HB3 : Hid (Below w.heap.size w w3) := hidden (bz HG.out HB2.out HC3.out)
  clear HW HZ2 HC3 HB2 c0 c1 c2 c3 c4 c5
  obtain ⟨c0, c1, c2, c3, c4, c5⟩ := (HPG.out.on HB3.out).cells
  have HW := hidden (withShort_z g n ([k, 2] ++ fB 2 (sn : Int)) 4 pn w3 (by simp [fB_length]) HZ3.out (by omega) (by omega) hn)
  go_wp2_with (first | (go_at_call 96; refine HW.out.mono ?_; rintro e w4 ⟨rfl, HZ4, HC4⟩; refine Hid.out ?_))
  apply hidden
  have HB4 : Hid (Below w.heap.size w w4) := hidden (bz HG.out HB3.out HC4.out)
  clear HW HZ3 HC4 HB3 c0 c1 c2 c3 c4 c5
  obtain ⟨c0, c1, c2, c3, c4, c5⟩ := (HPG.out.on HB4.out).cells
  obtain ⟨L4, hL4⟩ : ∃ L, [k, 2] ++ fB 2 (sn : Int) ++ fB 2 (pn : Int) = L := ⟨_, rfl⟩
  replace HZ4 : Hid (OwnZ w4 g n L4) := hidden (by rw [← hL4]; simpa using HZ4.out)
  have HL4 : Hid (L4.length = 6) := hidden (by rw [← hL4]; simp [fB_length])
  have HE4 := hidden hL4
  have HP4 := hidden (HPG.out.on HB4.out).pre
  clear hL4
  go_wp2_with (at_builtin; refine app_z _ rfl _ _ rfl g n L4 P 6 po pn pc HL4.out rfl rfl HZ4.out HP4.out (by omega) (by omega) ?_; refine Hid.out ?_)
  apply hidden
  intro w5 HZ5 HC5
  have HB5 : Hid (Below w.heap.size w w5) := hidden (bz HG.out HB4.out HC5.out)
  clear HZ4 HC5 HB4 HP4 c0 c1 c2 c3 c4 c5
  obtain ⟨c0, c1, c2, c3, c4, c5⟩ := (HPG.out.on HB5.out).cells
  obtain ⟨L5, hL5⟩ : ∃ L, L4 ++ P = L := ⟨_, rfl⟩
  replace HZ5 : Hid (OwnZ w5 g n L5) := hidden (by rw [← hL5]; simpa using HZ5.out)
  have HL5 : Hid (L5.length = 6 + pn) := hidden (by rw [← hL5, List.length_append, HL4.out, HPL.out])
  have HE5 := hidden hL5
  obtain ⟨F, hF⟩ : ∃ F, 6 + pn + 2 * sn = F := ⟨_, rfl⟩
  have HF := hidden hF
  have hFI : 6 + (pn : Int) + 2 * (sn : Int) = (F : Int) := by omega
  have hFb : (F : Int) ≤ 65536 := by omega
  clear hL5
  obtain ⟨tt, htt⟩ : ∃ tt, st.map (F + ·) = tt := ⟨_, rfl⟩
  have HTL : Hid (tt.length = sn) := hidden (by rw [← htt, List.length_map, HSL.out])
  have HTT : Hid (∀ j s, st[j]? = some s → tt[j]? = some (F + s)) := hidden (by intro j s hj; rw [← htt, List.getElem?_map, hj]; rfl)
  have HTE := hidden htt
  clear htt
  go_wp2_with fail
  go_loopw [3, 54] (fun v i wr => ∃ j : Nat, j ≤ sn ∧ i = .int .i64 j ∧ v = .slice (some ⟨g, 0, none⟩) (6 + pn + 2 * j) n ∧ Hid (OwnZ wr g n (L5 ++ sloB (tt.take j))) ∧ Hid (Below w.heap.size w wr)) (fun _ i _ => sn - (intOf i).toNat)
  case atStart => exact ⟨0, by omega, rfl, by simp, hidden (by simpa [sloB] using HZ5.out), HB5⟩
  case round =>
    obtain ⟨j, hj, rfl, rfl, HZ, HB⟩ := hrel
    clear HZ5 HB5 c0 c1 c2 c3 c4 c5
    have bj : (j : Int) ≤ 65536 := by omega
    have HPR := hidden (HPG.out.on HB.out)
    obtain ⟨c0, c1, c2, c3, c4, c5⟩ := HPR.out.cells
    have HLJ : Hid ((L5 ++ sloB (tt.take j)).length = 6 + pn + 2 * j) := hidden (by
      rw [List.length_append, HL5.out, sloB_length, List.length_take, HTL.out]
      omega)
    by_cases hlt : j < sn
    · have hltI : (j : Int) < (sn : Int) := by omega
      obtain ⟨gs, offs, rfl, hgs, hcs⟩ : ∃ b off, so = some ⟨b, off, none⟩ ∧ b < wr.heap.size ∧ ∀ j, j < sn → wr.cell? ⟨b, off + j, none⟩ = some (.int .i64 ((st.getD j 0 : Nat) : Int)) := by
        rcases HPR.out.starts.hat with h0 | h0
        · omega
        · exact h0
      have cj := hcs j hlt
      obtain ⟨s, hs⟩ : ∃ s, st[j]? = some s := ⟨_, List.getElem?_eq_getElem (by rw [HSL.out]; exact hlt)⟩
      rw [show st.getD j 0 = s from by simp [List.getD, hs]] at cj
      have hsb := HST.out s (List.mem_of_getElem? hs)
      rw [HBL.out] at hsb
      have HSJ := hidden (sloB_take tt j (F + s) (HTT.out j s hs))
      obtain ⟨q, hq⟩ : ∃ q, F + s = q := ⟨_, rfl⟩
      rw [hq] at HSJ
      have hqI : (F : Int) + (s : Int) = (q : Int) := by omega
      have hqb : (q : Int) ≤ 65536 := by omega
      have hsbI : (s : Int) ≤ 65536 := by omega
      have HW := hidden (withShort_z g n (L5 ++ sloB (tt.take j)) (6 + pn + 2 * j) q wr HLJ.out HZ.out (by omega) (by omega) hn)
      clear hcs hs hq
      go_wp2_with (first | (go_at_call 96; refine HW.out.mono ?_; rintro e w6 ⟨rfl, HZ6, HC6⟩; refine Hid.out ?_))
      apply hidden
      have HB6 : Hid (Below w.heap.size w w6) := hidden (bz HG.out HB.out HC6.out)
      have HZ7 : Hid (OwnZ w6 g n (L5 ++ sloB (tt.take (j + 1)))) := hidden (by rw [HSJ.out, ← List.append_assoc]; exact HZ6.out)
      clear HW HZ6 HC6 HZ HB HPR HSJ cj
      go_wp2
      go_roundw
      case rel => exact ⟨j + 1, by omega, by go_num, by simp; omega, HZ7, HB6⟩
      case measure => simp [intOf]; omega
    · obtain rfl : j = sn := by omega
      have hlI : ¬ (j : Int) < (j : Int) := by omega
      obtain ⟨L6, hL6⟩ : ∃ L, L5 ++ sloB tt = L := ⟨_, rfl⟩
      have HZ6 : Hid (OwnZ wr g n L6) := hidden (by
        have := HZ.out
        rwa [List.take_of_length_le (by rw [HTL.out]; exact Nat.le_refl _), hL6] at this)
      have HL6 : Hid (L6.length = 6 + pn + 2 * j) := hidden (by
        have := HLJ.out
        rwa [List.take_of_length_le (by rw [HTL.out]; exact Nat.le_refl _), hL6] at this)
      have HE6 := hidden hL6
      have HBD := hidden HPR.out.body
      clear HZ HLJ hL6
      go_wp2_with (at_builtin; refine app_z _ rfl _ _ rfl g n L6 body (6 + pn + 2 * j) bo bn bc HL6.out rfl rfl HZ6.out HBD.out (by omega) (by omega) ?_; refine Hid.out ?_)
      apply hidden
      intro w7 HZ7 HC7
      have HB7 : Hid (Below w.heap.size w w7) := hidden (bz HG.out HB.out HC7.out)
      clear HZ6 HC7 HB HPR HBD c0 c1 c2 c3 c4 c5
      obtain ⟨c0, c1, c2, c3, c4, c5⟩ := (HPG.out.on HB7.out).cells
      obtain ⟨E, hE⟩ : ∃ E, n - 4 = E := ⟨_, rfl⟩
      have hEI : (n : Int) - 4 = (E : Int) := by omega
      have hE4 : E + 4 = n := by omega
      have hEn : (E : Int) ≤ (n : Int) := by omega
      have hEw : IntKind.i64.wrap (E : Int) = (E : Int) := by rw [IntKind.wrap_i64]; omega
      obtain ⟨H, hH⟩ : ∃ H, L6 ++ body ++ zs (E - (6 + pn + 2 * j + bn)) = H := ⟨_, rfl⟩
      have hL7 : (L6 ++ body).length = 6 + pn + 2 * j + bn := by rw [List.length_append, HL6.out, HBL.out]
      have HZ8 : Hid (OwnZ w7 g n H) := hidden (by rw [← hH]; exact HZ7.out.more _ (by rw [hL7]; omega))
      have HHL : Hid (H.length = E) := hidden (by rw [← hH, List.length_append, hL7, zs_length]; omega)
      have HWR : Hid (wrL k n P body st = H) := hidden (by
        unfold wrL
        rw [HSL.out, HPL.out, HBL.out, HF.out, HTE.out, ← hH, ← HE6.out, ← HE5.out, ← HE4.out]
        simp only [List.append_assoc]
        rw [show n - (10 + pn + 2 * j + bn) = E - (6 + pn + 2 * j + bn) by omega])
      have HHW : Hid (Wf H) := hidden (by
        rw [← hH, ← HE6.out, ← HE5.out, ← HE4.out]
        exact ((((((Wf.cons hkb (Wf.cons (by omega) Wf.nil)).append (fB_wf _ _)).append (fB_wf _ _)).append HPG.out.pre.wf).append (sloB_wf _)).append HPG.out.body.wf).append (zs_wf _))
      clear HZ7 hH hL7 HE4 HE5 HE6 HTE
      have HSB : Hid (Sl w7 (some ⟨g, 0, none⟩) E n H) := hidden (by have := HZ8.out.sl HHW.out (by omega); rwa [HHL.out] at this)
      have hs32 := sumN_lt H HHW.out
      obtain ⟨SN, hS⟩ : ∃ SN, sumN [H] = SN := ⟨_, rfl⟩
      rw [hS] at hs32
      have HSS := hidden hS
      have hws : IntKind.u64.wrap ((SN : Nat) : Int) = (SN : Int) := by rw [IntKind.wrap_u64]; omega
      have HSUM : Hid (Calls Tryz.prog 98 #[.slice (some ⟨w7.heap.size, 0, none⟩) 1 1] (w7.alloc (.cells #[.slice (some ⟨g, 0, none⟩) E n] 37)) fun e v2 => e = .returned (.int .u32 (SN : Int)) ∧ Hid (Below w7.heap.size w7 v2)) := by
        have hss : SlS (w7.alloc (.cells #[.slice (some ⟨g, 0, none⟩) E n] 37)) (some ⟨w7.heap.size, 0, none⟩) 1 1 [H] := sls_one5 w7 _ _ _ _ HSB.out _ rfl
        refine hidden ((sum_any _ _ _ _ _ hss ((HT.out.on HB7.out h0).on ((Below.refl _ _).alloc (Nat.le_refl _) _) (Nat.lt_of_lt_of_le h0 HB7.out.size))).mono ?_)
        rintro e v2 ⟨rfl, q, rfl⟩
        rw [HSS.out]
        exact ⟨rfl, bl_dr (bl_al (Below.refl _ _) (Nat.le_refl _) _) q⟩
      clear hS HSB
      go_wp2_with (first | (go_at_call 98; refine HSUM.out.mono ?_; rintro e w8 ⟨rfl, HB8⟩; refine Hid.out ?_))
      apply hidden
      have HFX := hidden (fixed_row (SN : Int) 4 w8 (by omega) (by omega) (by omega))
      clear HSUM
      go_wp2_with (first | (go_at_call 97; refine HFX.out.mono ?_; rintro e w9 ⟨fb, fo, fc, rfl, HFS, HB9⟩; refine Hid.out ?_))
      apply hidden
      have HB79 : Hid (Below w7.heap.size w7 w9) := hidden (bl_go HB8.out (Nat.le_refl _) HB9.out)
      have HZ9 : Hid (OwnZ w9 g n H) := hidden (HZ8.out.on HB79.out)
      have HBW9 : Hid (Below w.heap.size w w9) := hidden (bl_go HB7.out (Nat.le_refl _) HB79.out)
      clear HFX HZ8 HB8 HB9 HB79
      go_wp2_with (at_builtin; refine app_z _ rfl _ _ rfl g n H (fB 4 (SN : Int)) E (some ⟨fb, fo, none⟩) 4 fc HHL.out rfl rfl HZ9.out HFS.out (by omega) (by omega) ?_; refine Hid.out ?_)
      apply hidden
      intro wA HZA HCA
      have HBA : Hid (Below w.heap.size w wA) := hidden (bz HG.out HBW9.out HCA.out)
      have HBK : Hid (Bk wA g (sealB (wrL k n P body st))) := hidden (by
        have h1 := HZA.out.1
        rw [show n - (H ++ fB 4 (SN : Int)).length = 0 by rw [List.length_append, HHL.out, fB_length]; omega] at h1
        rw [HWR.out]
        unfold sealB
        rw [HSS.out]
        simpa [zs] using h1)
      have HGE : Hid (w.heap.size ≤ g) := hidden (by have := HG.out; omega)
      clear HZ9 HZA HCA HBW9 HFS
      go_wp2
      go_ret
      exact ⟨g, rfl, HGE.out, HBK, HBA⟩
end Go.Proofs.YtbefpojdopfeeaaGreatDoor

/- Rows of cells that are stored into: what slices.Insert and slices.Replace are made of. -/

namespace Go.Proofs.YtbefpojdopfeeaaGreatDoor
open Go.RowKit

/-- A block of c cells of a type. -/
def RowE (w : World) (g : Nat) (e : TypeId) (c : Nat) : Prop := ∃ cur : Array Value, w.heap[g]? = some (.cells cur e (0, 0)) ∧ cur.size = c
set_option maxRecDepth 100000 in
theorem RowE.there {w : World} {g c : Nat} {e : TypeId} (h : RowE w g e c) {j : Nat} (hj : j < c) : (w.cell? ⟨g, j, none⟩).isSome = true := by
  obtain ⟨cur, h1, h2⟩ := h
  rw [cell_of_row _ _ _ _ _ _ h1]
  simp [h2, hj]
set_option maxRecDepth 100000 in
theorem RowE.free {w : World} {g c : Nat} {e : TypeId} (h : RowE w g e c) (j : Nat) : w.frozen? ⟨g, j, none⟩ = false := by
  obtain ⟨cur, h1, h2⟩ := h
  simp [World.frozen?, h1]
set_option maxRecDepth 100000 in
theorem RowE.lt {w : World} {g c : Nat} {e : TypeId} (h : RowE w g e c) : g < w.heap.size := by
  obtain ⟨cur, h1, h2⟩ := h
  exact lt_some h1
set_option maxRecDepth 100000 in
theorem RowE.set {w : World} {g c : Nat} {e : TypeId} (h : RowE w g e c) (j : Nat) (v : Value) : RowE (w.setCell ⟨g, j, none⟩ v) g e c := by
  obtain ⟨cur, h1, h2⟩ := h
  exact ⟨_, set_row h1, by simpa using h2⟩
set_option maxRecDepth 100000 in
theorem RowE.sets {g c : Nat} {e : TypeId} : ∀ (vs : List Value) (j : Nat) (w : World), RowE w g e c → RowE (w.setCells g j vs) g e c
  | [], _, _, h => h
  | v :: r, j, _, h => RowE.sets r (j + 1) _ (h.set j v)
set_option maxRecDepth 100000 in
theorem RowE.drewN {w : World} {g c : Nat} {e : TypeId} (h : RowE w g e c) (q : Nat) : RowE (w.drewN q) g e c := h
set_option maxRecDepth 100000 in
theorem RowE.on {w w' : World} {g c : Nat} {e : TypeId} (h : RowE w g e c) (hb : w'.heap[g]? = w.heap[g]?) : RowE w' g e c := by
  obtain ⟨cur, h1, h2⟩ := h
  exact ⟨cur, hb.trans h1, h2⟩
set_option maxRecDepth 100000 in
theorem RowE.cell {w : World} {g c : Nat} {e : TypeId} (h : RowE w g e c) (vs : List Value) (o : Nat) (ho : o + vs.length ≤ c) (k : Nat) :
    (w.setCells g o vs).cell? ⟨g, k, none⟩ = if o ≤ k ∧ k < o + vs.length then vs[k - o]? else w.cell? ⟨g, k, none⟩ := by
  by_cases hin : o ≤ k ∧ k < o + vs.length
  · rw [if_pos hin]
    have := World.cell?_setCells_in g vs o w (fun j hj => h.there (by omega)) (k - o) (by omega)
    rw [show o + (k - o) = k by omega] at this
    rw [this]
    simp
  · rw [if_neg hin]
    exact World.cell?_setCells_out g vs o w ⟨g, k, none⟩ (fun _ _ => by show k < o ∨ o + vs.length ≤ k; omega)
set_option maxRecDepth 100000 in
theorem sets_grown (g : Nat) : ∀ (vs : List Value) (j : Nat) (w : World), w.grownBy (w.setCells g j vs) (some g)
  | [], _, _ => ⟨rfl, rfl, rfl, Nat.le_refl _, fun _ _ _ => rfl⟩
  | v :: r, j, w => by
    have h1 : w.grownBy (w.setCell ⟨g, j, none⟩ v) (some g) := ⟨rfl, rfl, rfl, by simp, fun k _ hk => Below.heap_setCell _ _ _ _ (fun e => hk (by rw [e]))⟩
    have h2 := sets_grown g r (j + 1) (w.setCell ⟨g, j, none⟩ v)
    exact ⟨h2.os.trans h1.os, h2.tape.trans h1.tape, h2.output.trans h1.output, Nat.le_trans h1.size h2.size, fun z hz hne => (h2.block z (Nat.lt_of_lt_of_le hz h1.size) hne).trans (h1.block z hz hne)⟩
set_option maxRecDepth 100000 in
theorem grown_go {w w1 w2 : World} {row : Option Nat} (h : w.grownBy w1 row) (k : w1.grownBy w2 row) : w.grownBy w2 row :=
  ⟨k.os.trans h.os, k.tape.trans h.tape, k.output.trans h.output, Nat.le_trans h.size k.size, fun z hz hne => (k.block z (Nat.lt_of_lt_of_le hz h.size) hne).trans (h.block z hz hne)⟩
set_option maxRecDepth 100000 in
theorem grown_drew {w w1 : World} {row : Option Nat} (h : w.grownBy w1 row) : w.grownBy w1.drew row := ⟨h.os, h.tape, h.output, h.size, h.block⟩
set_option maxRecDepth 100000 in
theorem grown_refl (w : World) (row : Option Nat) : w.grownBy w row := ⟨rfl, rfl, rfl, Nat.le_refl _, fun _ _ _ => rfl⟩
set_option maxRecDepth 100000 in
theorem RowE.own {w : World} {g c n B : Nat} {e : TypeId} {xs : List Value} (h : RowE w g e c) (hc : c ≤ maxLen) (hB : B ≤ g) (hn : n ≤ c) (hx : xs.length = n) (hcell : ∀ i v, xs[i]? = some v → w.cell? ⟨g, i, none⟩ = some v) : w.ownsRow B e 1 (.slice (some ⟨g, 0, none⟩) n c) n xs := by
  obtain ⟨cur, h1, h2⟩ := h
  refine ⟨by omega, .inr ⟨g, c, cur, rfl, hB, h1, hn, hc, by omega, ?_⟩⟩
  rw [Nat.mul_one]
  apply List.ext_getElem?
  intro i
  by_cases hi : i < n
  · have e1 : xs[i]? = some (xs[i]'(by omega)) := List.getElem?_eq_getElem _
    have := hcell i _ e1
    rw [cell_of_row _ _ _ _ _ _ h1] at this
    rw [List.getElem?_take_of_lt hi, e1, ← this]
    simp
  · rw [List.getElem?_eq_none (by simp; omega), List.getElem?_eq_none (by omega)]
set_option maxRecDepth 100000 in
/-- What an owned row that is somewhere says. -/
theorem own_row {w : World} {B n g c : Nat} {e : TypeId} {xs : List Value} (h : w.ownsRow B e 1 (.slice (some ⟨g, 0, none⟩) n c) n xs) : RowE w g e c ∧ B ≤ g ∧ n ≤ c ∧ c ≤ maxLen ∧ xs.length = n ∧ ∀ i v, xs[i]? = some v → w.cell? ⟨g, i, none⟩ = some v := by
  have hl := h.1
  rcases h.2 with ⟨e1, _⟩ | ⟨g', cap, cur, e1, h1, h2, h3, h4, h5, h6⟩
  · injection e1 with e1 _ _
    cases e1
  · injection e1 with e1 _ e3
    injection e1 with e1
    injection e1 with e1 _ _
    subst e1
    subst e3
    refine ⟨⟨cur, h2, by omega⟩, h1, h3, h4, by omega, fun i v hv => ?_⟩
    have := h.cellAt i (by have := (List.getElem?_eq_some_iff.1 hv).1; omega)
    rw [this, hv]
set_option maxRecDepth 100000 in
/-- Some of a row's cells stand further on, others in their place: whichever is written first. -/
theorem moved {xs ys : List Value} {n m i j : Nat} (hx : xs.length = n) (hy : ys.length = m) (hij : i ≤ j) (hj : j ≤ n) {f : Nat → Option Value}
    (h1 : ∀ k, k < i → f k = xs[k]?) (h2 : ∀ k, k < m → f (i + k) = ys[k]?) (h3 : ∀ k, k < n - j → f (i + m + k) = xs[j + k]?) : ∀ k v, (xs.take i ++ ys ++ xs.drop j)[k]? = some v → f k = some v := by
  intro k v hv
  have hti : (xs.take i).length = i := by simp; omega
  by_cases hk : k < i
  · rw [List.append_assoc, List.getElem?_append_left (by omega), List.getElem?_take_of_lt hk] at hv
    rw [h1 k hk, hv]
  · by_cases hk2 : k < i + m
    · rw [List.append_assoc, List.getElem?_append_right (by omega), hti, List.getElem?_append_left (by omega)] at hv
      have := h2 (k - i) (by omega)
      rw [show i + (k - i) = k by omega] at this
      rw [this, hv]
    · have hlt := (List.getElem?_eq_some_iff.1 hv).1
      rw [List.append_assoc, List.getElem?_append_right (by omega), hti, List.getElem?_append_right (by omega), List.getElem?_drop, hy] at hv
      have hkl : k < i + m + (n - j) := by simp at hlt; omega
      have := h3 (k - i - m) (by omega)
      rw [show i + m + (k - i - m) = k by omega] at this
      rw [this, hv]
set_option maxRecDepth 100000 in
theorem moved_len {xs ys : List Value} {n m i j : Nat} (hx : xs.length = n) (hy : ys.length = m) (hij : i ≤ j) (hj : j ≤ n) : (xs.take i ++ ys ++ xs.drop j).length = i + m + (n - j) := by
  simp
  omega
set_option maxRecDepth 100000 in
theorem copy_wp {ops : Array Oper} {rest : List Oper} {o : Oper} {a : Act} {w : World} {Q : Exit → Act → World → Prop} (hgd : o.guard = none) (d s : Operand) (t t' : TypeId)
    (ho : o.op = .call { callee := .builtin .copy, args := #[d, s], argTypes := #[t, t'] }) (v u : Value) (hd : a.eval d = v) (hs : a.eval s = u) {v' : Value} {w' : World}
    (hr : (Builtin.copy_ #[t, t'] o.type #[v, u]).run Tryz.prog w = .ok v' w') (h : wpList Tryz.prog ops Q rest (a.put o.dst v') w') : wpList Tryz.prog ops Q (o :: rest) a w := by
  refine wpList_plain hgd fun K hK => ?_
  unfold Oper.wp execOp
  simp only [ho, resolve, invoke, builtin, Sem.run_bind, Sem.run_pure, Result.andThen_ok, List.map_toArray, List.map_cons, List.map_nil, hd, hs, hr]
  exact hK _ _ h
set_option maxRecDepth 100000 in
theorem copy_step {ops : Array Oper} {o : Oper} {a : Act} {w : World} {K : Act → World → Prop} {Q : Exit → Act → World → Prop} {E : Prop}
    (hg : o.guard = none) (d x : Operand) (dT sT : TypeId) (hop : o.op = Op.call { callee := Callee.builtin Builtin.copy, args := #[d, x], argTypes := #[dT, sT] })
    (v u : Value) (hd : a.eval d = v) (hx : a.eval x = u) {v' : Value} {w' : World} (hr : (Builtin.copy_ #[dT, sT] o.type #[v, u]).run Tryz.prog w = .ok v' w') (hK : K (a.put o.dst v') w') :
    if Region.wanted o (yielded ops a.tmps) = true then Oper.wp Tryz.prog o a w K Q else E := by
  have hw : Region.wanted o (yielded ops a.tmps) = true := by simp [Region.wanted, hg]
  rw [if_pos hw]
  unfold Oper.wp
  simp [execOp, hop, resolve, invoke, builtin, hd, hx, hr, Result.andThen]
  exact hK
set_option maxRecDepth 100000 in
theorem append_wp {ops : Array Oper} {rest : List Oper} {o : Oper} {a : Act} {w : World} {Q : Exit → Act → World → Prop} (hgd : o.guard = none) (s x : Operand) (t1 t2 : TypeId)
    (ho : o.op = .call { callee := .builtin .append, args := #[s, x], argTypes := #[t1, t2] }) (v u : Value) (hs : a.eval s = v) (hx : a.eval x = u) {v' : Value} {w' : World}
    (hr : (Builtin.append_ #[t1, t2] o.type #[v, u]).run Tryz.prog w = .ok v' w') (h : wpList Tryz.prog ops Q rest (a.put o.dst v') w') : wpList Tryz.prog ops Q (o :: rest) a w := by
  refine wpList_plain hgd fun K hK => ?_
  unfold Oper.wp execOp
  simp only [ho, resolve, invoke, builtin, Sem.run_bind, Sem.run_pure, Result.andThen_ok, List.map_toArray, List.map_cons, List.map_nil, hs, hx, hr]
  exact hK _ _ h
set_option maxRecDepth 100000 in
theorem clear_wp {ops : Array Oper} {rest : List Oper} {o : Oper} {a : Act} {w : World} {Q : Exit → Act → World → Prop} (hgd : o.guard = none) (d : Operand) (t : TypeId)
    (ho : o.op = .call { callee := .builtin .clear, args := #[d], argTypes := #[t] }) (v : Value) (hd : a.eval d = v) {v' : Value} {w' : World}
    (hr : (Builtin.clear_ #[t] o.type #[v]).run Tryz.prog w = .ok v' w') (h : wpList Tryz.prog ops Q rest (a.put o.dst v') w') : wpList Tryz.prog ops Q (o :: rest) a w := by
  refine wpList_plain hgd fun K hK => ?_
  unfold Oper.wp execOp
  simp only [ho, resolve, invoke, builtin, Sem.run_bind, Sem.run_pure, Result.andThen_ok, List.map_toArray, List.map_cons, List.map_nil, hd, hr]
  exact hK _ _ h
set_option maxRecDepth 100000 in
theorem clear_none (w : World) (t e ty : TypeId) (ht : Tryz.prog.underlying t = some (.slice e)) (a : Option Addr) (c : Nat) : (Builtin.clear_ #[t] ty #[.slice a 0 c]).run Tryz.prog w = .ok (.tuple #[]) w := by
  cases a <;> simp [Builtin.clear_, run_underlying ht]
end Go.Proofs.YtbefpojdopfeeaaGreatDoor
