/- tuple.readItem, in general, what readItems answers being given. -/
import Derived.Test.YtpiijmionafmcaaGreatDoorTuU
namespace Go.Proofs.YtpiijmionafmcaaGreatDoor
open Go.RowKit

/-- What a reading of items answers: x, in blocks of its own. -/
def RdTo (x : Its × Int × Int) (w : World) (e : Ending) (w' : World) : Prop := ∃ v F, e = .returned (.tuple #[v, .int .i64 x.2.1, .int .i64 x.2.2]) ∧ OwI w' w.heap.size v x.1 F ∧ Below w.heap.size w w'
def RdXTo (kind : Int) (x : (Int × ByteArray × Its) × Int × Int) (w : World) (e : Ending) (w' : World) : Prop :=
  ∃ so m c F, e = .returned (.tuple #[.agg #[.int .i64 kind, .int .i64 x.1.1, .string x.1.2.1, .slice so m c], .int .i64 x.2.1, .int .i64 x.2.2]) ∧ OwI w' w.heap.size (.slice so m c) x.1.2.2 F ∧ Below w.heap.size w w'
set_option maxRecDepth 100000 in
theorem OwI.form {w : World} {B : Nat} {v : Value} {l : Its} {F : List Nat} (h : OwI w B v l F) : ∃ so m c, v = .slice so m c := by
  obtain ⟨ys, F1, h1, _⟩ := h
  rcases h1.2 with ⟨rfl, h0⟩ | ⟨g, cap, cur, rfl, _⟩
  · exact ⟨_, _, _, rfl⟩
  · exact ⟨_, _, _, rfl⟩
set_option maxHeartbeats 1000000 in
set_option maxRecDepth 100000 in
theorem readItem_any {T : World → Prop} {V : ByteArray → Bool} (hV : ValidB T V) (hT : ∀ {w w' : World}, T w → Below w.heap.size w w' → T w') (rec : Nat → Int → Its × Int × Int) (ao : Option Addr) (n cap : Nat) (l : List Int) (p : Nat) (kind d : Int) (w : World) (ht : T w) (hs : Sl w ao n cap l) (hp : p ≤ n) (hd : 0 ≤ d ∧ d ≤ 16)
    (hr : kind = 7 → ∀ u : World, T u → Sl u ao n cap l → Calls Tryz.prog 17 #[.slice ao n cap, .int .i64 (p : Int), .int .i64 (d + 1)] u (RdTo (rec p (d + 1)) u)) :
    Calls Tryz.prog 27 #[.slice ao n cap, .int .i64 (p : Int), .int .i64 kind, .int .i64 d] w (RdXTo kind (rdX V rec l p kind d) w) := by
  have Hs := hidden hs
  have Ht := hidden ht
  clear hs ht
  by_cases h3 : kind = 3
  · subst h3
    have e : rdX V rec l p 3 d = (((rdI (l.drop p) p).1, ⟨#[]⟩, .nil), (rdI (l.drop p) p).2.1, (rdI (l.drop p) p).2.2) := by unfold rdX; rw [if_pos rfl]
    rw [e]
    clear e hr
    have HI := fun u (hu : Sl u ao n cap l) => readInt_any ao n cap l p u hu hp
    generalize rdI (l.drop p) p = r at *
    go_enter Tryz.func27, Tryz.ntmps27
    go_wp2_with (go_at_call 39; refine same_call (HI _ (Hs.out.on (Nat.le_refl _) (by go_grown))) ?_)
    refine bodyPost_ret (v := .tuple #[.agg #[.int .i64 3, .int .i64 r.1, .string ⟨#[]⟩, .slice none 0 0], .int .i64 r.2.1, .int .i64 r.2.2]) (by simp [results, Tryz.results27, go_sem]; try rfl) rfl ?_
    exact ⟨_, _, _, [], rfl, OwI.nil _ _, by go_grown⟩
  by_cases h4 : kind = 4
  · subst h4
    have e : rdX V rec l p 4 d = (((rdF (l.drop p) p).1, ⟨#[]⟩, .nil), (rdF (l.drop p) p).2.1, (rdF (l.drop p) p).2.2) := by unfold rdX; rw [if_neg (by decide), if_pos rfl]
    rw [e]
    clear e hr
    have HI := fun u (hu : Sl u ao n cap l) => readFloat_any ao n cap l p u hu hp
    generalize rdF (l.drop p) p = r at *
    go_enter Tryz.func27, Tryz.ntmps27
    go_wp2_with (go_at_call 40; refine same_call (HI _ (Hs.out.on (Nat.le_refl _) (by go_grown))) ?_)
    refine bodyPost_ret (v := .tuple #[.agg #[.int .i64 4, .int .i64 r.1, .string ⟨#[]⟩, .slice none 0 0], .int .i64 r.2.1, .int .i64 r.2.2]) (by simp [results, Tryz.results27, go_sem]; try rfl) rfl ?_
    exact ⟨_, _, _, [], rfl, OwI.nil _ _, by go_grown⟩
  by_cases h5 : kind = 5
  · subst h5
    have e : rdX V rec l p 5 d = ((0, (rdT V 5 (l.drop p) p).1, .nil), (rdT V 5 (l.drop p) p).2.1, (rdT V 5 (l.drop p) p).2.2) := by unfold rdX; rw [if_neg (by decide), if_neg (by decide), if_pos (by decide)]
    rw [e]
    clear e hr
    have HI := fun u (h0 : T u) (hu : Sl u ao n cap l) => readText_any hV hT ao n cap l p 5 u h0 hu hp
    generalize rdT V 5 (l.drop p) p = r at *
    go_enter Tryz.func27, Tryz.ntmps27
    go_wp2_with (go_at_call 41; refine (HI _ (hT Ht.out (by go_grown)) (Hs.out.on (Nat.le_refl _) (by go_grown))).mono ?_; rintro e w1 ⟨rfl, hb1⟩; obtain ⟨⟨k0, k1, k2, k3⟩, ⟨f0, f1, f2, f3⟩, ⟨k0', k1', k2', k3'⟩, f0', f1', f2', f3'⟩ := cells44 hb1; have HB : Hid (Below w.heap.size w w1) := (show Below w.heap.size w _ from by go_grown).trans (hb1.mono (by simp; omega)); have hsz : w.heap.size + 2 ≤ w1.heap.size := (by have := hb1.size; simpa using this); clear hb1)
    refine bodyPost_ret (v := .tuple #[.agg #[.int .i64 5, .int .i64 0, .string r.1, .slice none 0 0], .int .i64 r.2.1, .int .i64 r.2.2]) (by simp [results, Tryz.results27, go_sem, k0, k1, k2, k3]; try rfl) rfl ?_
    exact ⟨_, _, _, [], rfl, OwI.nil _ _, ((((HB.out.setCell (by simp) _).setCell (by simp) _).setCell (by simp) _).setCell (by simp) _).setCell (by simp) _⟩
  by_cases h6 : kind = 6
  · subst h6
    have e : rdX V rec l p 6 d = ((0, (rdT V 6 (l.drop p) p).1, .nil), (rdT V 6 (l.drop p) p).2.1, (rdT V 6 (l.drop p) p).2.2) := by unfold rdX; rw [if_neg (by decide), if_neg (by decide), if_pos (by decide)]
    rw [e]
    clear e hr
    have HI := fun u (h0 : T u) (hu : Sl u ao n cap l) => readText_any hV hT ao n cap l p 6 u h0 hu hp
    generalize rdT V 6 (l.drop p) p = r at *
    go_enter Tryz.func27, Tryz.ntmps27
    go_wp2_with (go_at_call 41; refine (HI _ (hT Ht.out (by go_grown)) (Hs.out.on (Nat.le_refl _) (by go_grown))).mono ?_; rintro e w1 ⟨rfl, hb1⟩; obtain ⟨⟨k0, k1, k2, k3⟩, ⟨f0, f1, f2, f3⟩, ⟨k0', k1', k2', k3'⟩, f0', f1', f2', f3'⟩ := cells44 hb1; have HB : Hid (Below w.heap.size w w1) := (show Below w.heap.size w _ from by go_grown).trans (hb1.mono (by simp; omega)); have hsz : w.heap.size + 2 ≤ w1.heap.size := (by have := hb1.size; simpa using this); clear hb1)
    refine bodyPost_ret (v := .tuple #[.agg #[.int .i64 6, .int .i64 0, .string r.1, .slice none 0 0], .int .i64 r.2.1, .int .i64 r.2.2]) (by simp [results, Tryz.results27, go_sem, k0, k1, k2, k3]; try rfl) rfl ?_
    exact ⟨_, _, _, [], rfl, OwI.nil _ _, ((((HB.out.setCell (by simp) _).setCell (by simp) _).setCell (by simp) _).setCell (by simp) _).setCell (by simp) _⟩
  by_cases h7 : kind = 7
  · subst h7
    have e : rdX V rec l p 7 d = ((0, ⟨#[]⟩, (rec p (d + 1)).1), (rec p (d + 1)).2.1, (rec p (d + 1)).2.2) := by unfold rdX; rw [if_neg (by decide), if_neg (by decide), if_neg (by decide), if_pos rfl]
    rw [e]
    have HI := hr rfl
    clear e hr
    generalize rec p (d + 1) = r at *
    go_enter Tryz.func27, Tryz.ntmps27
    go_wp2_with (go_at_call 17; refine (HI _ (hT Ht.out (by go_grown)) (Hs.out.on (Nat.le_refl _) (by go_grown))).mono ?_; rintro e w1 ⟨v1, F, rfl, ho1, hb1⟩; obtain ⟨so, m, c, rfl⟩ := ho1.form; obtain ⟨⟨k0, k1, k2, k3⟩, ⟨f0, f1, f2, f3⟩, ⟨k0', k1', k2', k3'⟩, f0', f1', f2', f3'⟩ := cells44 hb1; have HB : Hid (Below w.heap.size w w1) := (show Below w.heap.size w _ from by go_grown).trans (hb1.mono (by simp; omega)); have hsz : w.heap.size + 2 ≤ w1.heap.size := (by have := hb1.size; simpa using this); have HO : Hid (OwI w1 (w.heap.size + 2) (.slice so m c) r.1 F) := hidden (ho1.lift (by simp)); clear hb1 ho1)
    refine bodyPost_ret (v := .tuple #[.agg #[.int .i64 7, .int .i64 0, .string ⟨#[]⟩, .slice so m c], .int .i64 r.2.1, .int .i64 r.2.2]) (by simp [results, Tryz.results27, go_sem, k0, k1, k2, k3]; try rfl) rfl ?_
    refine ⟨so, m, c, F, rfl, (HO.out.keep (fun g hg => ?_)).lift (by omega), ((((HB.out.setCell (by simp) _).setCell (by simp) _).setCell (by simp) _).setCell (by simp) _).setCell (by simp) _⟩
    have hge := (HO.out.lt g hg).1
    rw [Below.heap_setCell _ _ _ _ (by simp; omega), Below.heap_setCell _ _ _ _ (by simp; omega), Below.heap_setCell _ _ _ _ (by simp; omega), Below.heap_setCell _ _ _ _ (by simp; omega), Below.heap_setCell _ _ _ _ (by simp; omega)]
  have e : rdX V rec l p kind d = ((0, ⟨#[]⟩, .nil), (p : Int), 0) := by unfold rdX; rw [if_neg h3, if_neg h4, if_neg (by omega), if_neg h7]
  rw [e]
  have b3 : (kind == 3) = false := by simp [h3]
  have b4 : (kind == 4) = false := by simp [h4]
  have b5 : (kind == 5) = false := by simp [h5]
  have b6 : (kind == 6) = false := by simp [h6]
  have b7 : (kind == 7) = false := by simp [h7]
  clear e hr h3 h4 h5 h6 h7
  go_enter Tryz.func27, Tryz.ntmps27
  go_wp2
  refine bodyPost_ret (v := .tuple #[.agg #[.int .i64 kind, .int .i64 0, .string ⟨#[]⟩, .slice none 0 0], .int .i64 (p : Int), .int .i64 0]) (by simp [results, Tryz.results27, go_sem]; try rfl) rfl ?_
  exact ⟨_, _, _, [], rfl, OwI.nil _ _, by go_grown⟩
end Go.Proofs.YtpiijmionafmcaaGreatDoor
