/- tuple.Print of the Int 1 and of Lists: the loop, and the whole. -/
import Derived.Test.YtmfnccffpajfnaaGreatDoorPrt
namespace Go.Proofs.YtmfnccffpajfnaaGreatDoor
open Go.RowKit

set_option maxRecDepth 100000 in
theorem cells_new (u : World) (a b c d : Value) (ty : Nat) : (u.alloc (.cells #[a, b, c, d] ty)).cell? ⟨u.heap.size, 0, none⟩ = some a ∧ (u.alloc (.cells #[a, b, c, d] ty)).cell? ⟨u.heap.size, 1, none⟩ = some b ∧ (u.alloc (.cells #[a, b, c, d] ty)).cell? ⟨u.heap.size, 2, none⟩ = some c ∧ (u.alloc (.cells #[a, b, c, d] ty)).cell? ⟨u.heap.size, 3, none⟩ = some d := by
  simp
set_option maxRecDepth 100000 in
theorem one_ownH (u : World) (x : Int) (H : Nat) (hH : u.heap.size = H) : OwnB (u.alloc (.cells #[.int .u8 x] 5)) H (.slice (some ⟨H, 0, none⟩) 1 1) [x] := by subst hH; exact one_own u x
set_option maxRecDepth 100000 in
theorem p1_length (k : Int) (sub : Its) (b : List Int) (hb : b.length ≤ 65537) : (p1 k sub b).length ≤ 65541 + sub.sz := by
  have hs := pI_length sub false (b ++ [91])
  unfold p1
  split
  · simp; omega
  · simp only [List.length_append, List.length_cons, List.length_nil] at hs ⊢; omega
set_option maxRecDepth 100000 in
theorem p1_wf (k : Int) (sub : Its) (b : List Int) (h : Wf b) : Wf (p1 k sub b) := by
  unfold p1
  split
  · exact h.append (Wf.cons (by omega) Wf.nil)
  · exact (pI_wf sub _ _ (h.append (Wf.cons (by omega) Wf.nil))).append (Wf.cons (by omega) Wf.nil)
set_option maxRecDepth 100000 in
theorem pI_long (l : Its) (more : Bool) (b : List Int) (h : 65536 < b.length) : pI l more b = b := by
  cases l with
  | nil => rw [pI]
  | cons => rw [pI_cons, if_pos h]

set_option maxHeartbeats 1000000 in
set_option maxRecDepth 100000 in
theorem printItems_all : ∀ (N : Nat) (l : Its), l.sz < N → l.IL → ∀ (so : Option Addr) (m c : Nat), PrtIs l so m c
  | 0, l, h => by omega
  | N + 1, l, h => by
    intro hil so m c v B b w hw hB hs hwf hb0 hlen
    have Hih := hidden (printItems_all N)
    have hm := hs.hlen
    have hroom := hs.hroom
    have Hs := hidden hs
    have Hw := hidden hw
    have Hk := hidden hil
    have Hwf := hidden hwf
    clear hs hw hil hwf
    go_enter Tryz.func21, Tryz.ntmps21
    go_wp2_with fail
    go_loopw [0, 9] (fun u i wr => ∃ (k : Nat) (b' : List Int), k ≤ m ∧ i = .int .i64 k ∧ OwnB wr B u b' ∧ Gr w v wr u ∧ pI l false b = pI (l.drop k) (decide (0 < k)) b' ∧ Wf b' ∧ b'.length + (l.drop k).sz ≤ 131100 + l.sz) (fun _ i _ => m - (intOf i).toNat)
    case atStart => exact ⟨0, b, by omega, rfl, Hw.out, Gr.refl _ _, by simp [Its.drop], Hwf.out, by simp [Its.drop]; omega⟩
    case round =>
      obtain ⟨k, b', hk, rfl, hown, hbel, he, hwf', hlb⟩ := hrel
      have hBr : B ≤ wr.heap.size := by have := hbel.grow.size; omega
      have HE := hidden he
      have HO := hidden hown
      have HB := hidden (hbel.below Hw.out hB)
      have HG := hidden hbel
      have HW := hidden hwf'
      clear he hown hbel hwf'
      by_cases hlt : k < m
      · obtain ⟨bb, off, kk, nn, t, sub, r, xo, xm, xc, rfl, hbb, e1', e2', c0, c1, c2, c3, hsub, o1, o2, o3⟩ := (Hs.out.onB HB.out).item k hlt
        have HSub := hidden hsub
        have HK := hidden (Hk.out.drop l k)
        have hsz := Its.sub_sz e1'
        have hdz := Its.drop_sz l k
        rw [e1'] at HE HK
        rw [e1'] at hlb hdz
        simp only [Its.sz] at hlb hdz
        clear hsub
        by_cases hlong : 65536 < b'.length
        · obtain ⟨ao, cv, rfl, hsl, _⟩ := HO.out.sl HW.out (by omega)
          have hlong' : (65536 : Int) < b'.length := by omega
          clear hsl
          go_wp2_with fail
          go_ret
          refine ⟨_, rfl, ?_, HG.out.trans (Gr.alloc _ _ _)⟩
          rw [HE.out, pI_long _ _ _ hlong]
          exact HO.out.alloc _
        · obtain ⟨ao, cv, rfl, hsl, _⟩ := HO.out.sl HW.out (by omega)
          have hlong' : ¬ (65536 : Int) < b'.length := by omega
          clear hsl
          by_cases hk0 : 0 < k
          · have hk0' : (0 : Int) < k := by omega
            have hd : decide (0 < k) = true := by simp [hk0]
            rw [hd] at HE
            have hne : ∀ k', (Value.slice ao b'.length cv).ownBlock = some k' → k' < wr.heap.size := fun k' hk' => (World.ownsRow.lt (show wr.ownsRow B 5 1 _ _ _ from HO.out) k' hk').2
            have Hne := hidden hne
            clear hne hd
            go_wp2_with (at_builtin; refine app_all _ rfl _ _ rfl B (wr.heap.size + 1) b' [32] _ _ rfl rfl ((HO.out.alloc _).alloc _) (one_ownH _ _ _ (by simp)) (Wf.cons (by omega) Wf.nil) (by simp; omega) (by simp; omega) ?_)
            intro v2 w2 ho2 hg2
            have G2 : Gr wr _ w2 v2 := ((Gr.alloc _ _ _).trans (Gr.alloc _ _ _)).trans hg2
            have R2 : Below B wr w2 := G2.below HO.out hBr
            have hB2 : B ≤ w2.heap.size := by have := R2.size; omega
            have hfar := fun j => hg2.cell (⟨wr.heap.size, j, none⟩ : Addr) (by simp; omega) (fun h => absurd (Hne.out _ h.symm) (Nat.lt_irrefl _))
            have f0 := (hfar 0).trans ((alloc_old _ _ _ (by simp)).trans (cells_new wr _ _ _ _ _).1)
            have f1 := (hfar 1).trans ((alloc_old _ _ _ (by simp)).trans (cells_new wr _ _ _ _ _).2.1)
            have f2 := (hfar 2).trans ((alloc_old _ _ _ (by simp)).trans (cells_new wr _ _ _ _ _).2.2.1)
            have f3 := (hfar 3).trans ((alloc_old _ _ _ (by simp)).trans (cells_new wr _ _ _ _ _).2.2.2)
            have Ho2 := hidden ho2
            have HG2 := hidden G2
            clear hfar hg2 ho2 G2
            go_wp2_with (go_at_call 33; refine (printItem_of kk nn t xo xm xc sub v2 B (b' ++ [32]) _ Ho2.out hB2 (HSub.out.onB R2) (HW.out.append (Wf.cons (by omega) Wf.nil)) (by simp; omega) (by omega) HK.out.1 (Hih.out sub (by omega) HK.out.2.1 xo xm xc)).mono ?_; rintro e w3 ⟨v3, rfl, ho3, hg3⟩)
            go_roundw
            case rel =>
              have hel := p1_length kk sub (b' ++ [32]) (by simp; omega)
              refine ⟨k + 1, _, by omega, by go_num, ho3, HG.out.trans (HG2.out.trans hg3), ?_, p1_wf _ _ _ (HW.out.append (Wf.cons (by omega) Wf.nil)), ?_⟩
              · rw [HE.out, pI_cons, if_neg hlong, e2', show decide (0 < k + 1) = true from by simp]; rfl
              · rw [e2']; omega
            case measure => simp [intOf]; omega
          · have hk0' : (k : Int) ≤ 0 := by omega
            have hd : decide (0 < k) = false := by simp; omega
            rw [hd] at HE
            clear hd
            go_wp2_with (go_at_call 33; refine (printItem_of kk nn t xo xm xc sub _ B b' _ (HO.out.alloc _) (by simp; omega) (HSub.out.on (Nat.le_refl _) ((Below.refl _ _).alloc (Nat.le_refl _) _)) HW.out (by omega) (by omega) HK.out.1 (Hih.out sub (by omega) HK.out.2.1 xo xm xc)).mono ?_; rintro e w3 ⟨v3, rfl, ho3, hg3⟩)
            go_roundw
            case rel =>
              have hel := p1_length kk sub b' (by omega)
              refine ⟨k + 1, _, by omega, by go_num, ho3, HG.out.trans ((Gr.alloc _ _ _).trans hg3), ?_, p1_wf _ _ _ HW.out, ?_⟩
              · rw [HE.out, pI_cons, if_neg hlong, e2', show decide (0 < k + 1) = true from by simp]; rfl
              · rw [e2']; omega
            case measure => simp [intOf]; omega
      · obtain rfl : k = m := by omega
        go_wp2
        go_ret
        refine ⟨_, rfl, ?_, HG.out⟩
        rw [HE.out, ← hm, Its.drop_all, pI]
        exact HO.out
set_option maxRecDepth 100000 in
theorem conv_str {w : World} {ao : Option Addr} {n cap : Nat} {l : List Int} (hs : Sl w ao n cap l) :
    (convert 25 9 (.slice ao n cap)).run Tryz.prog w = .ok (.string (strOfNums l)) w := by
  obtain ⟨hlen, hcap, hroom, hwf, hnil, hat⟩ := hs
  rcases hat with rfl | ⟨b, off, rfl, hb, hc⟩
  · obtain rfl : l = [] := List.eq_nil_of_length_eq_zero hlen
    rw [run_convert_bytes_string w 25 9 5 ao 0 cap Tryz.underlying25 Tryz.underlying5 Tryz.underlying9]
    cases ao with
    | none => simp [Conv.bytesToString, Sem.run_pure, strOfNums]; rfl
    | some a =>
      rw [run_bytesToString w a 0 cap [] (by simpa using run_loadCells_list (P := Tryz.prog) w a [] (fun j v h => by cases h))]
      rfl
  · exact run_convert_bytes_arg w 25 5 Tryz.underlying25 Tryz.underlying5 b off n cap l hlen hc 9 Tryz.underlying9

set_option maxHeartbeats 400000 in
set_option maxRecDepth 100000 in
theorem print_any (l : Its) (ao : Option Addr) (n cap : Nat) (w : World) (hs : SlI w Tp ao n cap l) (hil : l.IL) (htx : l.Tx fun _ => False) (hc : chk (fun _ => true) l 0 = 0) (hl : (pI l false []).length ≤ 65536) (hz : l.sz + 1000000 ≤ 140737488355328) :
    Calls Tryz.prog 10 #[.slice ao n cap] w fun e w' => e = .returned (.tuple #[.string (strOfNums (pI l false [])), .int .i64 0]) ∧ Below w.heap.size w w' := by
  have htx' : ∀ l : Its, (l.Tx fun _ => False) → l.Tx (ValidAt (fun _ => True) (fun _ => true)) := by
    intro l
    induction l with
    | nil => intro _; trivial
    | cons k n t sub r ih1 ih2 => exact fun h => ⟨fun h6 => (h.1 h6).elim, ih1 h.2.1, ih2 h.2.2⟩
  have Hc := hidden (check_any (fun _ => True) (fun _ => true) (fun _ _ _ _ => trivial) l ao n cap w trivial hs (htx' l htx))
  have Hs := hidden hs
  have Hk := hidden hil
  have Hwf := hidden (pI_wf l false [] Wf.nil)
  clear hs htx htx'
  go_enter Tryz.func10, Tryz.ntmps10
  go_wp2_with (first | (go_at_call 14; refine Hc.out.mono ?_; rintro e w1 ⟨rfl, hb1⟩; rw [hc]) | (go_at_call 21; refine (printItems_all (l.sz + 1) l (by omega) Hk.out ao n cap _ w1.heap.size [] w1 (OwnB.nil _ _) (Nat.le_refl _) ((Hs.out.on (Nat.le_refl _) hb1).low (Nat.le_refl _)) Wf.nil (by simp) hz).mono ?_; rintro e w2 ⟨v2, rfl, ho2, hg2⟩; obtain ⟨a2, c2, rfl, s2, _⟩ := ho2.sl Hwf.out (by omega); have hl' : ¬ (65536 : Int) < (pI l false []).length := (by omega); have HG := hidden (hg2.below (l := []) (OwnB.nil _ _) (Nat.le_refl _)); have hcv := conv_str s2; clear s2 ho2 hg2))
  go_returns
  exact ⟨rfl, hb1.trans (HG.out.mono hb1.size)⟩
end Go.Proofs.YtmfnccffpajfnaaGreatDoor
