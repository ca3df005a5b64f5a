/- A list in memory, its marks aside: stand, has, set. -/
import Derived.Test.YtedgpcckbdnijaaDoorUd
import Derived.Test.YtedgpcckbdnijaaDoorUe
namespace Go.Proofs.YtedgpcckbdnijaaDoor
open Go.RowKit Go.Maps

set_option maxRecDepth 100000 in
theorem isFree_any (s : Int) (w : World) : Calls Tryd.prog 42 #[.int .i64 s] w fun e u => e = .returned (.bool (s == 0)) ∧ u = w := by
  go_enter Tryd.func42, Tryd.ntmps42
  go_wp2
  go_ret
  exact ⟨rfl, rfl⟩
set_option maxRecDepth 100000 in
theorem waits_any (s : Int) (w : World) : Calls Tryd.prog 43 #[.int .i64 s] w fun e u => e = .returned (.bool (decide (0 < s))) ∧ u = w := by
  go_enter Tryd.func43, Tryd.ntmps43
  go_wp2
  go_ret
  exact ⟨rfl, rfl⟩
set_option maxRecDepth 100000 in
theorem either_any (s : Int) (w : World) : Calls Tryd.prog 47 #[.int .i64 s] w fun e u => e = .returned (.bool true) ∧ u = w := by
  go_enter Tryd.func47, Tryd.ntmps47
  go_wp2
  go_ret
  exact ⟨rfl, rfl⟩
set_option maxRecDepth 100000 in
theorem isPage_any (n : Int) (w : World) : Calls Tryd.prog 23 #[.int .i64 n] w fun e u => e = .returned (.bool (decide (2 ≤ n ∧ n < 65536))) ∧ u = w := by
  by_cases h1 : 2 ≤ n
  · by_cases h2 : n < 65536
    · go_enter Tryd.func23, Tryd.ntmps23
      go_wp2
      go_ret
      exact ⟨by simp [h1, h2], rfl⟩
    · go_enter Tryd.func23, Tryd.ntmps23
      go_wp2
      go_ret
      exact ⟨by simp [h2], rfl⟩
  · go_enter Tryd.func23, Tryd.ntmps23
    go_wp2
    go_ret
    exact ⟨by simp; omega, rfl⟩
set_option maxRecDepth 100000 in
theorem Cf.wd {F G : Nat → Prop} {a b : World} (h : Cf F a b) (hG : ∀ k, F k → G k) : Cf G a b := ⟨h.os, h.tape, h.output, h.size, fun k hk hg => h.block k hk fun f => hg (hG k f)⟩
/-- How pages may stand: free, or with a commit's number. -/
def Vals (K : Int → Option Int) : Prop := ∀ k f, K k = some f → 0 ≤ f ∧ f ≤ 1099511627776
/-- A LIST IN MEMORY, what its marks hold aside. -/
structure Fs (w : World) (b m : Nat) (mv : Value) (last : Int) (K : Int → Option Int) : Prop where
  box : ∃ W, Lb w b m W mv last ∧ Wd W ∧ ∀ p : Nat, p < 65536 → bitOf W p = decide (K (p : Int) = some 0)
  kept : MK w m K
  vals : Vals K
section
variable {w u : World} {b m : Nat} {mv : Value} {last : Int} {K : Int → Option Int}
set_option maxRecDepth 100000 in
theorem Fs.lt (h : Fs w b m mv last K) : b < w.heap.size := by
  obtain ⟨W, hb, _⟩ := h.box
  exact hb.lt
set_option maxRecDepth 100000 in
theorem Fs.mlt (h : Fs w b m mv last K) : m < w.heap.size := h.kept.lt
set_option maxRecDepth 100000 in
theorem Fs.bm (h : Fs w b m mv last K) : b ≠ m := by
  obtain ⟨W, hb, _⟩ := h.box
  exact h.kept.ne hb
set_option maxRecDepth 100000 in
theorem Fs.cf {F : Nat → Prop} (h : Fs w b m mv last K) (hc : Cf F w u) (hb : ¬ F b) (hm : ¬ F m) : Fs u b m mv last K := by
  obtain ⟨W, h1, h2, h3⟩ := h.box
  exact ⟨⟨W, h1.cf hc hb, h2, h3⟩, h.kept.cf hc hm, h.vals⟩
set_option maxRecDepth 100000 in
theorem Fs.on (h : Fs w b m mv last K) (hb : Below w.heap.size w u) : Fs u b m mv last K := h.cf (F := fun _ => False) (Cf.of_below hb) (fun h => h) (fun h => h)
set_option maxRecDepth 100000 in
theorem Fs.c0 (h : Fs w b m mv last K) : w.cell? ⟨b, 0, none⟩ = some (.map (some m)) := by
  obtain ⟨W, hb, _⟩ := h.box
  exact hb.c0
set_option maxRecDepth 100000 in
theorem Fs.cm (h : Fs w b m mv last K) : w.cell? ⟨b, 1025, none⟩ = some mv := by
  obtain ⟨W, hb, _⟩ := h.box
  exact hb.cm
set_option maxRecDepth 100000 in
theorem Fs.cl (h : Fs w b m mv last K) : w.cell? ⟨b, 1026, none⟩ = some (.int .i64 last) := by
  obtain ⟨W, hb, _⟩ := h.box
  exact hb.cl
set_option maxRecDepth 100000 in
theorem Fs.fz (h : Fs w b m mv last K) (i : Nat) : w.frozen? ⟨b, i, none⟩ = false := by
  obtain ⟨W, hb, _⟩ := h.box
  exact hb.fz i
set_option maxRecDepth 100000 in
theorem Fs.setm (h : Fs w b m mv last K) (mv' : Value) : Fs (w.setCell ⟨b, 1025, none⟩ mv') b m mv' last K := by
  obtain ⟨W, h1, h2, h3⟩ := h.box
  exact ⟨⟨W, h1.setm mv', h2, h3⟩, h.kept.cf (Cf.setCell (F := (· = b)) w (p := ⟨b, 1025, none⟩) rfl _) (fun e => h.bm e.symm), h.vals⟩
set_option maxRecDepth 100000 in
theorem Fs.setl (h : Fs w b m mv last K) (l' : Int) : Fs (w.setCell ⟨b, 1026, none⟩ (.int .i64 l')) b m mv l' K := by
  obtain ⟨W, h1, h2, h3⟩ := h.box
  exact ⟨⟨W, h1.setl l', h2, h3⟩, h.kept.cf (Cf.setCell (F := (· = b)) w (p := ⟨b, 1026, none⟩) rfl _) (fun e => h.bm e.symm), h.vals⟩
end
/-- How a page stands: -1: it is not there. -/
def stdK (K : Int → Option Int) (k : Int) : Int := (K k).getD (-1)
set_option maxRecDepth 100000 in
theorem stand_any {w : World} {b m : Nat} {mv : Value} {last : Int} {K : Int → Option Int} (h : Fs w b m mv last K) (k : Int) (hk : -9223372036854775808 ≤ k ∧ k ≤ 9223372036854775807) :
    Calls Tryd.prog 54 #[pB b, .int .i64 k] w fun e u => e = .returned (.int .i64 (stdK K k)) ∧ u = w := by
  have c0 := h.c0
  have hl := h.kept.look k (wf64 k hk.1 hk.2)
  clear h
  unfold stdK
  cases hK : K k with
  | none =>
    rw [hK] at hl
    simp only [Option.isSome, Option.getD] at hl ⊢
    go_enter Tryd.func54, Tryd.ntmps54
    go_wp2
    go_ret
    exact ⟨rfl, rfl⟩
  | some f =>
    rw [hK] at hl
    simp only [Option.isSome, Option.getD] at hl ⊢
    go_enter Tryd.func54, Tryd.ntmps54
    go_wp2
    go_ret
    exact ⟨rfl, rfl⟩
set_option maxRecDepth 100000 in
theorem stdK_ne {K : Int → Option Int} (h : Vals K) (k : Int) : (!(stdK K k == -1)) = (K k).isSome := by
  unfold stdK
  cases hK : K k with
  | none => rfl
  | some f =>
    have := h k f hK
    simp
    omega
set_option maxRecDepth 100000 in
theorem has_any {w : World} {b m : Nat} {mv : Value} {last : Int} {K : Int → Option Int} (h : Fs w b m mv last K) (k : Int) (hk : -9223372036854775808 ≤ k ∧ k ≤ 9223372036854775807) :
    Calls Tryd.prog 24 #[pB b, .int .i64 k] w fun e u => e = .returned (.bool (K k).isSome) ∧ u = w := by
  have hs := stand_any h k hk
  have hv := stdK_ne h.vals k
  clear h
  generalize stdK K k = s at *
  generalize (K k).isSome = r at *
  go_enter Tryd.func24, Tryd.ntmps24
  go_wp2_with (go_at_call 54; refine same_call hs ?_)
  go_ret
  exact ⟨by rw [← hv]; rfl, rfl⟩
def setK (K : Int → Option Int) (k s : Int) : Int → Option Int := if s = -1 then delK K k else putK K k s
set_option maxRecDepth 100000 in
set_option maxHeartbeats 1000000 in
theorem set_any {w : World} {b m : Nat} {mv : Value} {last : Int} {K : Int → Option Int} (h : Fs w b m mv last K) (k : Nat) (hk : 2 ≤ k ∧ k < 65536) (s : Int) (hs : -1 ≤ s ∧ s ≤ 1099511627776) :
    Calls Tryd.prog 25 #[pB b, .int .i64 (k : Int), .int .i64 s] w fun e u => e = .returned (.tuple #[]) ∧ Hid (Fs u b m mv last (setK K k s) ∧ Cf (fun x => x = b ∨ x = m) w u) := by
  obtain ⟨W, h1, h2, h3⟩ := h.box
  have hbm := h.bm
  have key : ∀ w1, MK w1 m (setK K k s) → Cf (· = m) w w1 → ∀ v, (∃ q, v = w1.drewN q) → Calls Tryd.prog 55 #[.pointer (some ⟨b, 1, none⟩), .int .i64 (k : Int), .bool (s == 0)] v fun e u => e = .returned (.tuple #[]) ∧ Hid (Fs u b m mv last (setK K k s) ∧ Cf (fun x => x = b ∨ x = m) w u) := by
    rintro w1 hm1 hc1 v ⟨q, rfl⟩
    have hL1 : Lb w1 b m W mv last := h1.cf hc1 hbm
    refine (rset_any (hL1.drew q) h2 k hk.2 (s == 0)).mono ?_
    rintro e u ⟨rfl, hu⟩
    obtain ⟨hu1, hu2⟩ := hu.out
    have hc2 : Cf (· = b) w1 u := (Cf.drew _ w1 q).go hu2
    refine ⟨rfl, hidden ⟨⟨⟨_, hu1, h2.set _ _, fun p hp => ?_⟩, hm1.cf hc2 (fun e => hbm e.symm), ?_⟩, ?_⟩⟩
    · rw [bitOf_wset, h3 p hp]
      unfold setK delK putK
      by_cases e : p = k
      · subst e
        by_cases es : s = -1
        · subst es; simp
        · rw [if_pos rfl, if_neg es]
          simp
          by_cases e0 : s = 0
          · simp [e0]
          · simp [e0]
      · have e' : ¬ (p : Int) = (k : Int) := by omega
        rw [if_neg e]
        by_cases es : s = -1
        · rw [if_pos es]
          simp only [if_neg e']
        · rw [if_neg es]
          simp only [if_neg e']
    · intro x f hx
      unfold setK delK putK at hx
      by_cases es : s = -1
      · rw [if_pos es] at hx
        by_cases e : x = k
        · simp [e] at hx
        · simp only [if_neg e] at hx
          exact h.vals x f hx
      · rw [if_neg es] at hx
        by_cases e : x = k
        · simp [e] at hx
          omega
        · simp only [if_neg e] at hx
          exact h.vals x f hx
    · exact (hc1.wd fun k hk => .inr hk).go (hc2.wd fun k hk => .inl hk)
  have c0 := h.c0
  by_cases es : s = -1
  · subst es
    obtain ⟨w1, hr, hm1, hc1⟩ := h.kept.drop (k : Int) (wf64 _ (by omega) (by omega)) 0
    have c01 : w1.cell? ⟨b, 0, none⟩ = some (.map (some m)) := (h1.cf hc1 hbm).c0
    have HKEY := hidden (key w1 (by unfold setK; rw [if_pos rfl]; exact hm1) hc1)
    clear key h h1 h2 h3 hm1 hc1
    go_enter Tryd.func25, Tryd.ntmps25
    go_wp2_with fail
    go_region_law (first
      | (go_simp; go_at_call 42; refine same_call (isFree_any _ _) ?_)
      | (go_simp; go_at_call 55; refine (HKEY.out _ (by first | exact ⟨0, rfl⟩ | exact ⟨1, rfl⟩ | exact ⟨2, rfl⟩ | exact ⟨_, rfl⟩)).mono ?_; rintro e w2 ⟨rfl, HF⟩))
    go_wp2_with fail
    go_end0
    exact ⟨rfl, HF⟩
  · obtain ⟨w1, hr, hm1, hc1⟩ := h.kept.store (k : Int) s (by omega) (wf64 _ (by omega) (by omega))
    have c01 : w1.cell? ⟨b, 0, none⟩ = some (.map (some m)) := (h1.cf hc1 hbm).c0
    have HKEY := hidden (key w1 (by unfold setK; rw [if_neg es]; exact hm1) hc1)
    have hq : (s == -1) = false := by rw [beq_eq_false_iff_ne]; exact es
    clear key h h1 h2 h3 hm1 hc1
    go_enter Tryd.func25, Tryd.ntmps25
    go_wp2_with fail
    go_region_law (first
      | (go_simp; go_at_call 42; refine same_call (isFree_any _ _) ?_)
      | (go_simp; go_at_call 55; refine (HKEY.out _ (by first | exact ⟨0, rfl⟩ | exact ⟨1, rfl⟩ | exact ⟨2, rfl⟩ | exact ⟨_, rfl⟩)).mono ?_; rintro e w2 ⟨rfl, HF⟩))
    go_wp2_with fail
    go_end0
    exact ⟨rfl, HF⟩
end Go.Proofs.YtedgpcckbdnijaaDoor
