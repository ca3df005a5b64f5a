import Derived.Test.YtoejadhlkamcjaaDoorJ15
import Derived.Lib.SlBytesConst
namespace Go.Proofs.YtoejadhlkamcjaaDoor
set_option maxRecDepth 100000
open Go.RowKit Go.Maps
def vA : List Int := (zs 500).set 499 7
theorem vA_length : vA.length = 500 := by simp [vA, zs_length]
theorem vA_wf : Wf vA := by
 intro x hx
 rcases List.mem_or_eq_of_mem_set hx with h | h
 ·exact zs_wf 500 x h
 ·omega
theorem vA_last : (vA.drop 499).take 1 = [7] := by decide
theorem vA_all (k : Nat) (h : 500 ≤ k) : vA.take k = vA := List.take_of_length_le (by rw [vA_length]; exact h)
theorem pg512 : pw (512 : Int) := .inl rfl
theorem pgA : pgN 512 500 = 2 := by decide
theorem pgB2 : pgN 512 499 = 2 := by decide
theorem pgC : pgN 512 497 = 2 := by decide
theorem thrA {M : Int → Option Pf} (hl : LaidJ M 512 2 2 vA 2) (r : Int) : thr M 512 500 (pgN 512 500) (pgN 512 500).toNat 2 [] [] r = (0, rng 2 2, vA, r + 2) := by
 have := thr_laid (N := 500) hl pg512 (by omega) (by omega) vA_length (by decide) 2 (by omega) 2 0 2 r rfl (fun _ => rfl)
 rw [pgA]
 simp only [Nat.mul_zero, List.take_zero] at this
 rw [vA_all _ (by omega)] at this
 exact this
theorem thrB {M : Int → Option Pf} (hl : LaidJ M 512 2 2 vA 2) (r : Int) : thr M 512 499 (pgN 512 499) (pgN 512 499).toNat 2 [] [] r = (90, [], [], r + 1 + 1) := by
 rw [pgB2]
 obtain ⟨h1, h2⟩ := laid_ld (i := 0) hl (by omega) pg512 (by omega) (by omega) vA_length (by decide)
 obtain ⟨h3, h4⟩ := laid_ld (i := 1) hl (by omega) pg512 (by omega) (by omega) vA_length (by decide)
 have k1 := ckN_length (H := 496) (i := 0) vA_length
 have k2 := ckN_length (H := 496) (i := 1) vA_length
 show thr M 512 499 2 (1 + 1) 2 [] [] r = _
 rw [thr_step M 512 499 2 1 2 [] [] r _ _ (by simp) h1 h2, if_neg]
 ·rw [show nxC 2 2 0 = 3 from rfl]
  rw [thr_step M 512 499 2 0 3 _ _ (r + 1) _ _ (by decide) h3 h4, if_pos]
  left
  rw [List.nil_append, show (512 : Nat) - 16 = 496 from rfl, k1, k2]
  decide
 ·rw [show (512 : Nat) - 16 = 496 from rfl, k1, show nxC 2 2 0 = 3 from rfl]
  decide
theorem tkL_none {M : Int → Option Pf} (h : ∀ k, M k = none) : ∀ j, tkL M j = []
 | 0 => rfl
 | j + 1 => by simp [tkL, tkL_none h j, h]
theorem delA {M : Int → Option Pf} (h : Pre M 4) (k : Int) : delL M (rng 2 2) k = none := by
 unfold delL
 split
 ·rfl
 ·rename_i hk
  cases e : M k with
  | none => rfl
  | some f =>
   have := (h k).1 (by rw [e]; rfl)
   simp [rng] at hk
   omega
theorem spX : spE 0 [97, 98] (512 : Int) = 0 := by decide
theorem spX_head : (spB 0 [97, 98] 512).take 14 = [4, 0, 0, 0, 0, 0, 0, 0, 0, 0, 0, 2, 97, 98] := by
 unfold spB sealB spH
 rw [List.take_append_of_le_length (by simp [fB_length, zs_length])]
 rw [show [4, 0, 0, 0] ++ (fB 4 0 ++ (fB 4 (([97, 98] : List Int).length : Int) ++ ([97, 98] ++ zs (512 - 16 - ([97, 98] : List Int).length)))) = ([4, 0, 0, 0] ++ (fB 4 0 ++ (fB 4 2 ++ [97, 98]))) ++ zs 494 from by simp, List.take_append_of_le_length (by simp [fB_length])]
 decide
theorem Sl.noB {w : World} {ao : Option Addr} {n cap : Nat} {l : List Int} (h : Sl w ao n cap l) {b m : Nat} {en pg ps rd : Int} {M : Int → Option Pf} {ct : Nat} (hb : Bn w b m en pg ps rd M ct) : n = 0 ∨ ∀ p, ao = some p → ¬ (p.block = b ∨ p.block = m) := by
 rcases h.nomap hb with h1 | h1
 ·exact .inl h1
 ·rcases h.hat with h0 | ⟨b', o, e, hlt, hcc⟩
  ·exact .inl h0
  ·rcases Nat.eq_zero_or_pos n with h0 | h0
   ·exact .inl h0
   ·right
    rintro p hp (e2 | e2)
    ·rw [e] at hp
     cases hp
     have h2 := hcc 0 h0
     simp only at e2
     rw [e2, cell_of_row _ _ _ _ _ _ hb.box] at h2
     rcases Nat.lt_or_ge (o + 0) 5 with h3 | h3
     ·have h4 : o + 0 = 0 ∨ o + 0 = 1 ∨ o + 0 = 2 ∨ o + 0 = 3 ∨ o + 0 = 4 := by omega
      rcases h4 with h4 | h4 | h4 | h4 | h4 <;> (rw [h4] at h2; simp at h2)
     ·rw [Array.getElem?_eq_none (by simpa using h3)] at h2
      cases h2
    ·exact h1 p hp e2
structure Aw (w : World) (b m : Nat) (en pg ps rd : Int) (M : Int → Option Pf) (ct : Nat) : Prop where
 bn : Bn w b m en pg ps rd M ct
 tab : Tab w
 pos : 0 < w.heap.size
 b0 : b ≠ 0
 m0 : m ≠ 0
theorem Aw.next {w u : World} {b m : Nat} {en pg ps rd rd' : Int} {M M' : Int → Option Pf} {ct ct' : Nat} (h : Aw w b m en pg ps rd M ct) (hb : Bn u b m en pg ps rd' M' ct') (hc : Cf (fun k => k = b ∨ k = m) w u) : Aw u b m en pg ps rd' M' ct' :=
 ⟨hb, fun i hi => (World.cell?_of_block (hc.block 0 h.pos (fun e => e.elim (fun e => h.b0 e.symm) (fun e => h.m0 e.symm)))).trans (h.tab i hi), Nat.lt_of_lt_of_le h.pos hc.size, h.b0, h.m0⟩
theorem Aw.sl {w u : World} {b m : Nat} {en pg ps rd : Int} {M : Int → Option Pf} {ct : Nat} (h : Aw w b m en pg ps rd M ct) (hc : Cf (fun k => k = b ∨ k = m) w u) {ao : Option Addr} {n cap : Nat} {l : List Int} (hs : Sl w ao n cap l) : Sl u ao n cap l := hs.cf hc (hs.noB h.bn)
theorem OwnB.sl2 {w : World} {B : Nat} {ao : Option Addr} {n c : Nat} {l : List Int} (h : OwnB w B (.slice ao n c) l) (hw : Wf l) (hl : l.length ≤ 140737488355328) : Sl w ao n c l := by
 obtain ⟨ao', c', e, hs, _⟩ := h.sl hw hl
 injection e with e1 e2 e3
 subst e1 e3
 rw [← e2] at hs
 exact hs
theorem conv6H (w : World) (C : Array Value) (n c H : Nat) (hH : w.heap.size = H) : (convert 33 33 (.slice (some ⟨H, 0, none⟩) n c)).run Tryd.prog (w.alloc (.cells C 5)) = .ok (.slice (some ⟨H, 0, none⟩) n c) (w.alloc (.cells C 5 (C.size, C.size + 1))) := by
 subst hH
 exact Lib.run_convert_bytes_const (P := Tryd.prog) w 33 5 C n c Tryd.underlying33 Tryd.underlying5
end Go.Proofs.YtoejadhlkamcjaaDoor
