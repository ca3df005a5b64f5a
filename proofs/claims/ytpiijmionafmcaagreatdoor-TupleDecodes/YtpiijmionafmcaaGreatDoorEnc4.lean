/- tuple.Encode: the loop over items, and the whole. -/
import Derived.Test.YtpiijmionafmcaaGreatDoorEnc3
import Derived.Deep.RegionHeld3
import Derived.Deep.AppendLies
namespace Go.Proofs.YtpiijmionafmcaaGreatDoor
open Go.RowKit

set_option maxRecDepth 100000 in
theorem Gr.ne {w w' : World} {v v' : Value} {k : Nat} (h : Gr w v w' v') (hk : k < w.heap.size) (hv : ∀ k', v.ownBlock = some k' → k' ≠ k) : some k ≠ v'.ownBlock := by
  rcases h.own with e | ⟨k', e, hk'⟩
  · rw [e]; intro e'; exact hv _ e'.symm rfl
  · rw [e]; intro e'; cases e'; omega
set_option maxRecDepth 100000 in
theorem intB_wf (n : Int) (h : -9223372036854775808 ≤ n ∧ n ≤ 9223372036854775807) : Wf (intB n) := by
  unfold intB
  have a := wd_le n (by omega)
  have b := wd_le (-n - 1) (by omega)
  split
  · exact Wf.cons (by omega) (fB_wf _ _)
  · exact Wf.cons (by omega) (fB_wf _ _)
set_option maxRecDepth 100000 in
theorem e1_wf (k n : Int) (t : ByteArray) (sub : Its) (b : List Int) (h : Wf b) (hn : -9223372036854775808 ≤ n ∧ n ≤ 9223372036854775807) (hs : k = 7 → Wf b → Wf (eI sub b)) : Wf (e1 k n t sub b) := by
  unfold e1
  split
  · exact h.append (intB_wf n hn)
  split
  · exact h.append (fB_wf _ _)
  split
  · exact h.append (oB_wf _ (bL_wf _))
  split
  · rename_i h7
    exact (hs h7 h).append (Wf.cons (by omega) Wf.nil)
  · exact h
set_option maxRecDepth 100000 in
theorem eI_wf : ∀ (l : Its) (b : List Int), l.Kd → l.Ok → Wf b → Wf (eI l b)
  | .nil, b, _, _, h => by rw [eI]; exact h
  | .cons k n t sub r, b, hk, ho, h => by
    rw [eI_cons]
    split
    · exact h
    · exact eI_wf r _ hk.2.2 ho.2.2.2.2.2 (e1_wf k n t sub _ (h.append (Wf.cons (by have := hk.1; omega) Wf.nil)) ho.2.1 (fun h7 h' => eI_wf sub _ (hk.2.1 h7) ho.2.2.2.2.1 h'))
set_option maxRecDepth 100000 in
theorem eI_long (l : Its) (b : List Int) (h : 65536 < b.length) : eI l b = b := by
  cases l with
  | nil => rw [eI]
  | cons => rw [eI_cons, if_pos h]

set_option maxHeartbeats 1000000 in
set_option maxRecDepth 100000 in
theorem appendItems_all : ∀ (N : Nat) (l : Its), l.sz < N → l.Kd → ∀ (so : Option Addr) (m c : Nat), AppIs l so m c
  | 0, l, h => by omega
  | N + 1, l, h => by
    intro hkd so m c v B b w hw hB hs hwf hb0 hlen
    have Hih := hidden (appendItems_all N)
    have hm := hs.hlen
    have hroom := hs.hroom
    have Hs := hidden hs
    have Hw := hidden hw
    have Hk := hidden hkd
    have Hwf := hidden hwf
    clear hs hw hkd hwf
    go_enter Tryz.func19, Tryz.ntmps19
    go_wp2_with fail
    go_loopw [0, 9] (fun u i wr => ∃ (k : Nat) (b' : List Int), k ≤ m ∧ i = .int .i64 k ∧ OwnB wr B u b' ∧ Gr w v wr u ∧ eI l b = eI (l.drop k) b' ∧ Wf b' ∧ b'.length + (l.drop k).sz ≤ 262149 + l.sz) (fun _ i _ => m - (intOf i).toNat)
    case atStart => exact ⟨0, b, by omega, rfl, Hw.out, Gr.refl _ _, by simp [Its.drop], Hwf.out, by simp [Its.drop]; omega⟩
    case round =>
      obtain ⟨k, b', hk, rfl, hown, hbel, he, hwf', hlb⟩ := hrel
      have hBr : B ≤ wr.heap.size := by have := hbel.grow.size; omega
      have HE := hidden he
      have HO := hidden hown
      have HB := hidden (hbel.below Hw.out hB)
      have HG := hidden hbel
      have HW := hidden hwf'
      clear he hown hbel hwf'
      by_cases hlt : k < m
      · obtain ⟨bb, off, kk, nn, t, sub, r, xo, xm, xc, rfl, hbb, e1', e2', c0, c1, c2, c3, hsub, o1, o2, o3⟩ := (Hs.out.onB HB.out).item k hlt
        have HSub := hidden hsub
        have HK := hidden (Hk.out.drop l k)
        have hsz := Its.sub_sz e1'
        have hdz := Its.drop_sz l k
        rw [e1'] at HE HK
        rw [e1'] at hlb hdz
        simp only [Its.sz] at hlb hdz
        clear hsub
        by_cases hlong : 65536 < b'.length
        · obtain ⟨ao, cv, rfl, hsl, _⟩ := HO.out.sl HW.out (by omega)
          have hlong' : (65536 : Int) < b'.length := by omega
          clear hsl
          go_wp2_with fail
          go_ret
          refine ⟨_, rfl, ?_, HG.out.trans (Gr.alloc _ _ _)⟩
          rw [HE.out, eI_long _ _ hlong]
          exact HO.out.alloc _
        · obtain ⟨ao, cv, rfl, hsl, _⟩ := HO.out.sl HW.out (by omega)
          have hlong' : ¬ (65536 : Int) < b'.length := by omega
          have hkk := HK.out.1
          have hx : IntKind.u8.wrap (IntKind.i64.wrap (16 + kk)) = 16 + kk := by rw [IntKind.wrap_i64, IntKind.wrap_u8']; omega
          clear hsl
          go_wp2_with fail
          have hne : ∀ k', (Value.slice ao b'.length cv).ownBlock = some k' → k' < wr.heap.size := fun k' hk' => (World.ownsRow.lt (show wr.ownsRow B 5 1 _ _ _ from HO.out) k' hk').2
          have Hne := hidden hne
          clear hne
          go_region_held3 (fun w' => w'.cell? ⟨wr.heap.size, 0, none⟩ = some (.int .i64 kk) ∧ w'.cell? ⟨wr.heap.size, 1, none⟩ = some (.int .i64 nn) ∧ w'.cell? ⟨wr.heap.size, 2, none⟩ = some (.string t) ∧ w'.cell? ⟨wr.heap.size, 3, none⟩ = some (.slice xo xm xc))
            (first | go_keep | (go_split_ands; refine ⟨(hfar3 0).trans ?_, (hfar3 1).trans ?_, (hfar3 2).trans ?_, (hfar3 3).trans ?_⟩ <;> assumption) | (go_split_ands; refine ⟨(hfar 0).trans ?_, (hfar 1).trans ?_, (hfar 2).trans ?_, (hfar 3).trans ?_⟩ <;> assumption))
            (first | (refine step_app1 (by rfl) _ _ (by rfl) B b' (16 + kk) _ (wr.heap.size + 1) (by rfl) (by rfl) (HO.out.on (Nat.le_refl _) (by go_grown)) (by simp) (by omega) (by simp; omega) ?_; intro v2 w2 ho2 hg2; have G2 : Gr wr _ w2 v2 := (Gr.ofBelow _ (show Below wr.heap.size wr _ from by go_grown)).trans hg2; have R2 : Below B wr w2 := G2.below HO.out hBr; have hB2 : B ≤ w2.heap.size := (by have := R2.size; omega); have hfar := fun j => hg2.cell (⟨wr.heap.size, j, none⟩ : Addr) (by simp; omega) (fun h => absurd (Hne.out _ h.symm) (Nat.lt_irrefl _)); have hv2 : some wr.heap.size ≠ v2.ownBlock := hg2.ne (by simp; omega) (fun k' h => Nat.ne_of_lt (Hne.out _ h))) | (go_at_call 29; refine (appendItem_of kk nn t xo xm xc sub v2 B (b' ++ [16 + kk]) _ ho2 hB2 (HSub.out.onB R2) o2 o3 (HW.out.append (Wf.cons (by omega) Wf.nil)) (by simp; omega) (by omega) hkk (fun h7 => Hih.out sub (by omega) (HK.out.2.1 h7) xo xm xc)).mono ?_; rintro e w3 ⟨v3, rfl, ho3, hg3⟩; have hfar3 := fun j => hg3.cell (⟨wr.heap.size, j, none⟩ : Addr) (by have := hg2.grow.size; simp at this; show wr.heap.size < w2.heap.size; omega) hv2))
          go_wp2
          go_roundw
          case rel =>
            have hel := e1_length kk nn t sub (b' ++ [16 + kk]) o2 HSub.out.ok (by simp; omega)
            refine ⟨k + 1, _, by omega, by go_num, ho3, HG.out.trans (G2.trans hg3), ?_, ?_, ?_⟩
            · rw [HE.out, eI_cons, if_neg hlong, e2']
            · exact e1_wf kk nn t sub _ (HW.out.append (Wf.cons (by omega) Wf.nil)) o2 (fun h7 => eI_wf sub _ (HK.out.2.1 h7) HSub.out.ok)
            · rw [e2']; omega
          case measure => simp [intOf]; omega
      · obtain rfl : k = m := by omega
        go_wp2
        go_ret
        refine ⟨_, rfl, ?_, HG.out⟩
        rw [HE.out, ← hm, Its.drop_all, eI]
        exact HO.out
end Go.Proofs.YtpiijmionafmcaaGreatDoor
