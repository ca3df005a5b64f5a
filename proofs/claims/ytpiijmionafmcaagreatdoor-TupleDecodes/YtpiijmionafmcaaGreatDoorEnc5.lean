/- tuple.Encode and tuple.Prefix. -/
import Derived.Test.YtpiijmionafmcaaGreatDoorEnc4
import Derived.Test.YtpiijmionafmcaaGreatDoorBehind
namespace Go.Proofs.YtpiijmionafmcaaGreatDoor
open Go.RowKit

set_option maxRecDepth 100000 in
theorem chkL_kd (V : ByteArray → Bool) : ∀ (l : Its) (d : Int), chkL V l d = 0 → l.Kd
  | .nil, _, _ => trivial
  | .cons k n t sub r, d, h => by
    rw [chkL] at h
    by_cases hz : chk1 V k n t sub d = 0
    · rw [if_neg (by rw [hz]; simp)] at h
      have hk : 0 ≤ k ∧ k ≤ 7 := by
        rw [chk1] at hz
        by_cases hb : ¬ (0 ≤ k ∧ k ≤ 7) ∨ fld k n t sub.len = false
        · rw [if_pos hb] at hz; omega
        · omega
      refine ⟨hk, fun h7 => ?_, chkL_kd V r d h⟩
      subst h7
      rw [chk1] at hz
      by_cases hb : ¬ ((0 : Int) ≤ 7 ∧ (7 : Int) ≤ 7) ∨ fld 7 n t sub.len = false
      · rw [if_pos hb] at hz; omega
      · rw [if_neg hb, if_neg (by decide), if_pos rfl] at hz
        by_cases hc : 64 < sub.len ∨ 16 < d + 1
        · rw [if_pos hc] at hz; omega
        · rw [if_neg hc] at hz
          exact chkL_kd V sub (d + 1) hz
    · rw [if_pos hz] at h; exact absurd h hz
set_option maxRecDepth 100000 in
theorem chk_kd (V : ByteArray → Bool) (l : Its) (h : chk V l 0 = 0) : l.Kd := by
  unfold chk at h
  split at h
  · omega
  · exact chkL_kd V l 0 h

set_option maxRecDepth 100000 in
theorem OwnB.base {w : World} {B B' : Nat} {v : Value} {l : List Int} (h : OwnB w B' v l) (hB : B ≤ B') : OwnB w B v l :=
  ⟨h.1, h.2.imp id fun ⟨g, cap, cur, e, hg, r⟩ => ⟨g, cap, cur, e, Nat.le_trans hB hg, r⟩⟩

/-- What Encode answers. -/
def encR (V : ByteArray → Bool) (l : Its) : List Int × Int := if chk V l 0 ≠ 0 then ([], chk V l 0) else if 65536 < (eI l []).length then ([], 2) else (eI l [], 0)

set_option maxRecDepth 100000 in
set_option maxHeartbeats 400000 in
theorem encode_any (G : World → Prop) (V : ByteArray → Bool) (hG : ∀ w w', G w → Below w.heap.size w w' → G w') (l : Its) (ao : Option Addr) (n cap : Nat) (w : World) (hw : G w) (hs : SlI w Tp ao n cap l) (htx : l.Tx (ValidAt G V)) (hz : l.sz + 1000000 ≤ 140737488355328) :
    Calls Tryz.prog 10 #[.slice ao n cap] w fun e w' => ∃ v, e = .returned (.tuple #[v, .int .i64 (encR V l).2]) ∧ OwnB w' w.heap.size v (encR V l).1 ∧ Below w.heap.size w w' := by
  have Hc := hidden (check_any G V hG l ao n cap w hw hs htx)
  have Hs := hidden hs
  clear hs htx
  by_cases hc : chk V l 0 = 0
  · have Hk := hidden (chk_kd V l hc)
    have hel := eI_length l [] Hs.out.ok
    have Hwf := hidden (eI_wf l [] Hk.out Hs.out.ok Wf.nil)
    rw [List.length_nil] at hel
    by_cases hl : 65536 < (eI l []).length
    · have e : encR V l = ([], 2) := by unfold encR; rw [if_neg (by rw [hc]; simp), if_pos hl]
      rw [e]
      go_enter Tryz.func10, Tryz.ntmps10
      go_wp2_with (first | (go_at_call 16; refine Hc.out.mono ?_; rintro e w1 ⟨rfl, hb1⟩; rw [hc]) | (go_at_call 19; refine (appendItems_all (l.sz + 1) l (by omega) Hk.out ao n cap _ w1.heap.size [] w1 (OwnB.nil _ _) (Nat.le_refl _) ((Hs.out.on (Nat.le_refl _) hb1).low (Nat.le_refl _)) Wf.nil (by simp) hz).mono ?_; rintro e w2 ⟨v2, rfl, ho2, hg2⟩; obtain ⟨a2, c2, rfl, s2, _⟩ := ho2.sl Hwf.out (by omega); have hl' : (65536 : Int) < (eI l []).length := (by omega); have HG := hidden (hg2.below (l := []) (OwnB.nil _ _) (Nat.le_refl _)); clear s2 ho2 hg2))
      go_ret2
      exact ⟨_, rfl, OwnB.nil _ _, hb1.trans (HG.out.mono hb1.size)⟩
    · have e : encR V l = (eI l [], 0) := by unfold encR; rw [if_neg (by rw [hc]; simp), if_neg hl]
      rw [e]
      go_enter Tryz.func10, Tryz.ntmps10
      go_wp2_with (first | (go_at_call 16; refine Hc.out.mono ?_; rintro e w1 ⟨rfl, hb1⟩; rw [hc]) | (go_at_call 19; refine (appendItems_all (l.sz + 1) l (by omega) Hk.out ao n cap _ w1.heap.size [] w1 (OwnB.nil _ _) (Nat.le_refl _) ((Hs.out.on (Nat.le_refl _) hb1).low (Nat.le_refl _)) Wf.nil (by simp) hz).mono ?_; rintro e w2 ⟨v2, rfl, ho2, hg2⟩; obtain ⟨a2, c2, rfl, s2, _⟩ := ho2.sl Hwf.out (by omega); have hl' : ¬ (65536 : Int) < (eI l []).length := (by omega); have HG := hidden (hg2.below (l := []) (OwnB.nil _ _) (Nat.le_refl _)); have HO := hidden ho2; clear s2 ho2 hg2))
      go_ret2
      exact ⟨_, rfl, HO.out.base hb1.size, hb1.trans (HG.out.mono hb1.size)⟩
  · have e : encR V l = ([], chk V l 0) := by unfold encR; rw [if_pos hc]
    rw [e]
    go_enter Tryz.func10, Tryz.ntmps10
    go_wp2_with (first | (go_at_call 16; refine Hc.out.mono ?_; rintro e w1 ⟨rfl, hb1⟩))
    go_ret2
    exact ⟨_, rfl, OwnB.nil _ _, hb1⟩

/-- How many bytes stand up to the last that is not 255. -/
def lastNe : List Int → Nat
  | [] => 0
  | x :: r => if lastNe r ≠ 0 then lastNe r + 1 else if x ≠ 255 then 1 else 0
set_option maxRecDepth 100000 in
theorem lastNe_spec : ∀ l : List Int, lastNe l ≤ l.length ∧ (0 < lastNe l → l.getD (lastNe l - 1) 0 ≠ 255) ∧ ∀ i, lastNe l ≤ i → i < l.length → l.getD i 0 = 255
  | [] => by simp [lastNe]
  | x :: r => by
    obtain ⟨h1, h2, h3⟩ := lastNe_spec r
    rw [lastNe]
    by_cases hr : lastNe r ≠ 0
    · rw [if_pos hr]
      refine ⟨by simp; omega, fun _ => ?_, fun i hi hl => ?_⟩
      · have := h2 (by omega)
        rw [show lastNe r + 1 - 1 = (lastNe r - 1) + 1 by omega, List.getD_cons_succ]
        exact this
      · obtain ⟨j, rfl⟩ : ∃ j, i = j + 1 := ⟨i - 1, by omega⟩
        rw [List.getD_cons_succ]
        exact h3 j (by omega) (by simp at hl; omega)
    · rw [if_neg hr]
      have hr0 : lastNe r = 0 := by omega
      by_cases hx : x ≠ 255
      · rw [if_pos hx]
        refine ⟨by simp, fun _ => by simpa using hx, fun i hi hl => ?_⟩
        obtain ⟨j, rfl⟩ : ∃ j, i = j + 1 := ⟨i - 1, by omega⟩
        rw [List.getD_cons_succ]
        exact h3 j (by omega) (by simp at hl; omega)
      · rw [if_neg hx]
        refine ⟨by simp, fun h => absurd h (by omega), fun i hi hl => ?_⟩
        cases i with
        | zero => simpa using hx
        | succ j => rw [List.getD_cons_succ]; exact h3 j (by omega) (by simp at hl; omega)
/-- What stands behind all that begins so. -/
def hiB (l : List Int) : List Int := if lastNe l = 0 then [] else (l.take (lastNe l)).set (lastNe l - 1) (l.getD (lastNe l - 1) 0 + 1)
set_option maxRecDepth 100000 in
theorem behind_any (ao : Option Addr) (n cap : Nat) (l : List Int) (w : World) (hs : Sl w ao n cap l) :
    Calls Tryz.prog 24 #[.slice ao n cap] w fun e w' => ∃ v, e = .returned (.tuple #[v, .bool (decide (lastNe l ≠ 0))]) ∧ OwnB w' w.heap.size v (hiB l) ∧ Below w.heap.size w w' := by
  obtain ⟨h1, h2, h3⟩ := lastNe_spec l
  have hl := hs.hlen
  by_cases hz : lastNe l = 0
  · refine (behind_none ao n cap l w hs (fun i hi => h3 i (by omega) (by omega))).mono ?_
    rintro e w' ⟨rfl, hw⟩
    rw [hw]
    exact ⟨_, by rw [show decide (lastNe l ≠ 0) = false from by simp [hz]], by unfold hiB; rw [if_pos hz]; exact OwnB.nil _ _, Below.refl _ _⟩
  · refine (behind_some ao n cap (lastNe l) l w hs (by omega) (by omega) (h2 (by omega)) (fun i h4 h5 => h3 i h4 (by omega))).mono ?_
    rintro e w' ⟨v, rfl, ho, hb⟩
    exact ⟨v, by rw [show decide (lastNe l ≠ 0) = true from by simp [hz]], by unfold hiB; rw [if_neg hz]; exact ho, hb⟩

set_option maxRecDepth 100000 in
theorem prefix_ok (G : World → Prop) (V : ByteArray → Bool) (hG : ∀ w w', G w → Below w.heap.size w w' → G w') (l : Its) (ao : Option Addr) (n cap : Nat) (w : World) (hw : G w) (hs : SlI w Tp ao n cap l) (htx : l.Tx (ValidAt G V)) (hz : l.sz + 1000000 ≤ 140737488355328) (h0 : (encR V l).2 = 0) :
    Calls Tryz.prog 15 #[.slice ao n cap] w fun e w' => ∃ v u, e = .returned (.tuple #[v, u, .bool (decide (lastNe (encR V l).1 = 0)), .int .i64 0]) ∧ OwnB w' w.heap.size v (encR V l).1 ∧ OwnB w' w.heap.size u (hiB (encR V l).1) ∧ (∀ a b, v.ownBlock = some a → u.ownBlock = some b → a < b) ∧ Below w.heap.size w w' := by
  have He := hidden (encode_any G V hG l ao n cap w hw hs htx hz)
  have hwf : Wf (encR V l).1 ∧ (encR V l).1.length ≤ 65536 := by
    unfold encR
    split
    · exact ⟨Wf.nil, by simp⟩
    · split
      · exact ⟨Wf.nil, by simp⟩
      · rename_i h1 h2
        exact ⟨eI_wf l [] (chk_kd V l (by simpa using h1)) hs.ok Wf.nil, by simp only; omega⟩
  generalize encR V l = r at *
  obtain ⟨b, e⟩ := r
  simp only at h0 hwf He ⊢
  subst h0
  have hbn : decide (lastNe b ≠ 0) = !decide (lastNe b = 0) := by simp
  clear hs htx
  go_enter Tryz.func15, Tryz.ntmps15
  go_wp2_with (first | (go_at_call 10; refine He.out.mono ?_; rintro e w1 ⟨v1, rfl, ho1, hb1⟩; have HO := hidden ho1; obtain ⟨a1, c1, rfl, s1, _⟩ := ho1.sl hwf.1 (by omega); have HS := hidden s1; clear s1 ho1) | (go_at_call 24; refine (behind_any _ _ _ _ _ HS.out).mono ?_; rintro e w2 ⟨v2, rfl, ho2, hb2⟩; rw [hbn]))
  go_returns
  refine ⟨_, _, rfl, HO.out.on (Nat.le_refl _) hb2, ho2.base hb1.size, fun a b' ha hb' => Nat.lt_of_lt_of_le (World.ownsRow.lt (show w1.ownsRow _ 5 1 _ _ _ from HO.out) a ha).2 (World.ownsRow.lt (show w2.ownsRow _ 5 1 _ _ _ from ho2) b' hb').1, hb1.trans (hb2.mono hb1.size)⟩
end Go.Proofs.YtpiijmionafmcaaGreatDoor
