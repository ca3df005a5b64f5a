/- The document's decode, what its decodeAll answers being given. -/
import Derived.Test.YtpiijmionafmcaaGreatDoorJd
import Derived.Test.YtpiijmionafmcaaGreatDoorTuW
import Derived.Test.YtpiijmionafmcaaGreatDoorJe
import Derived.Deep.QuietTactic
import Derived.Test.YtpiijmionafmcaaGreatDoorTuY
namespace Go.Proofs.YtpiijmionafmcaaGreatDoor
open Go.RowKit

/-- What decode answers: the item (where there is no error), the error, the place behind it. -/
def RrTo (kind : Int) (x : (Int × ByteArray × Its) × Int × Int) (w : World) (e : Ending) (w' : World) : Prop :=
  ∃ (k n q : Int) (t : ByteArray) (so : Option Addr) (m c : Nat), e = .returned (.agg #[.int .i64 k, .int .i64 n, .string t, .slice so m c, .int .i64 x.2.2, .int .i64 q]) ∧ Below w.heap.size w w' ∧ (x.2.2 = 0 → ∃ F, k = kind ∧ n = x.1.1 ∧ t = x.1.2.1 ∧ q = x.2.1 ∧ OwI w' w.heap.size (.slice so m c) x.1.2.2 F)
set_option maxRecDepth 100000 in
theorem RrTo.bad {kind : Int} {x : (Int × ByteArray × Its) × Int × Int} {w w' : World} {k n q : Int} {t : ByteArray} {so : Option Addr} {m c : Nat} (h0 : x.2.2 ≠ 0) (hb : Below w.heap.size w w') : RrTo kind x w (.returned (.agg #[.int .i64 k, .int .i64 n, .string t, .slice so m c, .int .i64 x.2.2, .int .i64 q])) w' :=
  ⟨k, n, q, t, so, m, c, rfl, hb, fun h => absurd h h0⟩
/-- What the bytes at a place say of an item, its first byte too. -/
def dX (V : ByteArray → Bool) (rec : Nat → Int → Its × Int × Int) (l : List Int) (p : Nat) (d : Int) (j : Nat) : (Int × ByteArray × Its) × Int × Int :=
  if l.getD p 0 < 16 ∨ 23 < l.getD p 0 then ((0, ⟨#[]⟩, .nil), 0, 21) else if j = 64 ∨ (l.getD p 0 = 23 ∧ d = 16) then ((0, ⟨#[]⟩, .nil), 0, 22) else rdX V rec l (p + 1) (l.getD p 0 - 16) d
set_option maxRecDepth 100000 in
theorem rdL_dX (V : ByteArray → Bool) (l : List Int) (N p : Nat) (d : Int) (j : Nat) (hp : p < l.length) (hc : ¬ (0 < d ∧ l.getD p 0 = 0)) :
    rdL V l (N + 1) p d j = if (dX V (fun p d => rdL V l N p d 0) l p d j).2.2 ≠ 0 then (.nil, 0, (dX V (fun p d => rdL V l N p d 0) l p d j).2.2)
      else if (rdL V l N (dX V (fun p d => rdL V l N p d 0) l p d j).2.1.toNat d (j + 1)).2.2 ≠ 0 then (.nil, 0, (rdL V l N (dX V (fun p d => rdL V l N p d 0) l p d j).2.1.toNat d (j + 1)).2.2)
      else (.cons (l.getD p 0 - 16) (dX V (fun p d => rdL V l N p d 0) l p d j).1.1 (dX V (fun p d => rdL V l N p d 0) l p d j).1.2.1 (dX V (fun p d => rdL V l N p d 0) l p d j).1.2.2
        (rdL V l N (dX V (fun p d => rdL V l N p d 0) l p d j).2.1.toNat d (j + 1)).1, (rdL V l N (dX V (fun p d => rdL V l N p d 0) l p d j).2.1.toNat d (j + 1)).2.1, 0) := by
  rw [rdL, if_neg (by omega), if_neg hc]
  unfold dX
  by_cases h1 : l.getD p 0 < 16 ∨ 23 < l.getD p 0
  · rw [if_pos h1, if_pos h1]
    simp
  · rw [if_neg h1, if_neg h1]
    by_cases h2 : j = 64 ∨ (l.getD p 0 = 23 ∧ d = 16)
    · rw [if_pos h2, if_pos h2]
      simp
    · rw [if_neg h2, if_neg h2]
set_option maxRecDepth 100000 in
theorem dX_ok (V : ByteArray → Bool) (rec : Nat → Int → Its × Int × Int) (l : List Int) (p : Nat) (d : Int) (j : Nat) (hw : Wf l) (hp : p < l.length) (hr : RdOk l.length (p + 1) (rec (p + 1) (d + 1)).1 (rec (p + 1) (d + 1)).2.1 (rec (p + 1) (d + 1)).2.2) :
    XOk l.length (p + 1) (dX V rec l p d j).1 (dX V rec l p d j).2.1 (dX V rec l p d j).2.2 := by
  unfold dX
  split
  · exact ⟨by simp, Nat.zero_le _, trivial, Nat.zero_le _, fun h => by simp at h, .inr (.inl rfl)⟩
  · split
    · exact ⟨by simp, Nat.zero_le _, trivial, Nat.zero_le _, fun h => by simp at h, .inr (.inr rfl)⟩
    · exact rdX_ok V rec l (p + 1) (l.getD p 0 - 16) d hw (by omega) (fun _ => hr)
set_option maxRecDepth 100000 in
/-- Two structs of six and of four cells in blocks of their own, behind a call. -/
theorem cells64 {w w1 : World} {a b c d e f a' b' c' d' : Value} {ty ty' : Nat} (h : Below ((w.alloc (.cells #[a, b, c, d, e, f] ty)).alloc (.cells #[a', b', c', d'] ty')).heap.size ((w.alloc (.cells #[a, b, c, d, e, f] ty)).alloc (.cells #[a', b', c', d'] ty')) w1) :
    (w1.cell? ⟨w.heap.size, 0, none⟩ = some a ∧ w1.cell? ⟨w.heap.size, 1, none⟩ = some b ∧ w1.cell? ⟨w.heap.size, 2, none⟩ = some c ∧ w1.cell? ⟨w.heap.size, 3, none⟩ = some d ∧ w1.cell? ⟨w.heap.size, 4, none⟩ = some e ∧ w1.cell? ⟨w.heap.size, 5, none⟩ = some f) ∧ (w1.frozen? ⟨w.heap.size, 0, none⟩ = false ∧ w1.frozen? ⟨w.heap.size, 1, none⟩ = false ∧ w1.frozen? ⟨w.heap.size, 2, none⟩ = false ∧ w1.frozen? ⟨w.heap.size, 3, none⟩ = false ∧ w1.frozen? ⟨w.heap.size, 4, none⟩ = false ∧ w1.frozen? ⟨w.heap.size, 5, none⟩ = false) ∧
    (w1.cell? ⟨w.heap.size + 1, 0, none⟩ = some a' ∧ w1.cell? ⟨w.heap.size + 1, 1, none⟩ = some b' ∧ w1.cell? ⟨w.heap.size + 1, 2, none⟩ = some c' ∧ w1.cell? ⟨w.heap.size + 1, 3, none⟩ = some d') ∧ (w1.frozen? ⟨w.heap.size + 1, 0, none⟩ = false ∧ w1.frozen? ⟨w.heap.size + 1, 1, none⟩ = false ∧ w1.frozen? ⟨w.heap.size + 1, 2, none⟩ = false ∧ w1.frozen? ⟨w.heap.size + 1, 3, none⟩ = false) := by
  refine ⟨⟨?_, ?_, ?_, ?_, ?_, ?_⟩, ⟨?_, ?_, ?_, ?_, ?_, ?_⟩, ⟨?_, ?_, ?_, ?_⟩, ?_, ?_, ?_, ?_⟩
  all_goals (first | (refine (h.frozen (by simp; omega)).trans (by simp)) | (refine (h.frozen (by simp)).trans (by simp)) | (refine (h.cell (by simp; omega)).trans (by simp)) | (refine (h.cell (by simp)).trans (by simp)))
set_option maxHeartbeats 2000000 in
set_option maxRecDepth 100000 in
theorem rdecode_any (rec : Nat → Int → Its × Int × Int) (ao : Option Addr) (n cap : Nat) (l : List Int) (p : Nat) (d : Int) (j : Nat) (w : World) (hs : Sl w ao n cap l) (hp : p < n) (hd : 0 ≤ d ∧ d ≤ 16) (hj : j ≤ 64)
    (hr : l.getD p 0 = 23 → d < 16 → ∀ u : World, Sl u ao n cap l → Calls Tryz.prog 18 #[.slice ao n cap, .int .i64 ((p : Int) + 1), .int .i64 (d + 1)] u (RdTo (rec (p + 1) (d + 1)) u)) :
    Calls Tryz.prog 28 #[.slice ao n cap, .int .i64 (p : Int), .int .i64 d, .int .i64 (j : Int)] w (RrTo (l.getD p 0 - 16) (dX Vl rec l p d j) w) := by
  have hlen := hs.hlen
  have hroom := hs.hroom
  have hjI : (j : Int) ≤ 64 := by omega
  have Hs := hidden hs
  rcases hs.hat with h | ⟨b, off, rfl, hbb, hc⟩
  · omega
  have hck := hc p hp
  have hc8 := hs.wf (l.getD p 0) (getD_mem l p (by omega))
  have hpI : (p : Int) < (n : Int) := by omega
  have HWF := hidden hs.wf
  clear hc hs
  obtain ⟨X, hX⟩ : ∃ X, dX Vl rec l p d j = X := ⟨_, rfl⟩
  rw [hX]
  have hx : X = dX Vl rec l p d j := hX.symm
  unfold dX at hx
  clear hX
  obtain ⟨c, hcc⟩ : ∃ c, l.getD p 0 = c := ⟨_, rfl⟩
  rw [hcc] at hck hc8 hx hr ⊢
  clear hcc
  by_cases h1 : c < 16 ∨ 23 < c
  · rw [if_pos h1] at hx
    subst hx
    clear hr Hs HWF
    rcases h1 with h1 | h1
    · have h1' : c - 16 < 0 := by omega
      go_enter Tryz.func28, Tryz.ntmps28
      go_wp2
      exact bodyPost_ret (v := .agg #[.int .i64 0, .int .i64 0, .string ⟨#[]⟩, .slice none 0 0, .int .i64 21, .int .i64 0]) (by simp [results, Tryz.results28, go_sem]) rfl (RrTo.bad (x := ((0, ⟨#[]⟩, .nil), 0, 21)) (by decide) (by go_grown))
    · have h1' : ¬ c - 16 < 0 := by omega
      have h2' : 7 < c - 16 := by omega
      go_enter Tryz.func28, Tryz.ntmps28
      go_wp2
      exact bodyPost_ret (v := .agg #[.int .i64 0, .int .i64 0, .string ⟨#[]⟩, .slice none 0 0, .int .i64 21, .int .i64 0]) (by simp [results, Tryz.results28, go_sem]) rfl (RrTo.bad (x := ((0, ⟨#[]⟩, .nil), 0, 21)) (by decide) (by go_grown))
  rw [if_neg h1] at hx
  have g1 : ¬ c - 16 < 0 := by omega
  have g2 : ¬ 7 < c - 16 := by omega
  by_cases h64 : j = 64
  · subst h64
    rw [if_pos (.inl rfl)] at hx
    subst hx
    clear hr Hs HWF
    go_enter Tryz.func28, Tryz.ntmps28
    go_wp2
    exact bodyPost_ret (v := .agg #[.int .i64 0, .int .i64 0, .string ⟨#[]⟩, .slice none 0 0, .int .i64 22, .int .i64 0]) (by simp [results, Tryz.results28, go_sem]) rfl (RrTo.bad (x := ((0, ⟨#[]⟩, .nil), 0, 22)) (by decide) (by go_grown))
  have l64 : ((j : Int) == 64) = false := by simp; omega
  have l64' : ¬ (j : Int) = 64 := by omega
  have hp1 : ((p + 1 : Nat) : Int) = (p : Int) + 1 := by omega
  by_cases h23 : c = 23
  · subst h23
    by_cases hd16 : d = 16
    · subst hd16
      rw [if_pos (.inr ⟨rfl, rfl⟩)] at hx
      subst hx
      clear hr Hs HWF
      go_enter Tryz.func28, Tryz.ntmps28
      go_wp2
      exact bodyPost_ret (v := .agg #[.int .i64 0, .int .i64 0, .string ⟨#[]⟩, .slice none 0 0, .int .i64 22, .int .i64 0]) (by simp [results, Tryz.results28, go_sem]) rfl (RrTo.bad (x := ((0, ⟨#[]⟩, .nil), 0, 22)) (by decide) (by go_grown))
    have d16 : (d == 16) = false := by simp [hd16]
    rw [if_neg (by omega)] at hx
    have HI := hr rfl (by omega)
    have e : X = ((0, ⟨#[]⟩, (rec (p + 1) (d + 1)).1), (rec (p + 1) (d + 1)).2.1, (rec (p + 1) (d + 1)).2.2) := by rw [hx]; unfold rdX; rw [if_neg (by decide), if_neg (by decide), if_neg (by decide), if_pos (by decide)]
    subst e
    clear hx hr HWF
    generalize rec (p + 1) (d + 1) = r at *
    go_enter Tryz.func28, Tryz.ntmps28
    go_wp2_with (first | (go_at_call 18; refine (HI _ (Hs.out.on (Nat.le_refl _) (by go_grown))).mono ?_; rintro e w1 ⟨v1, F, rfl, ho1, hb1⟩; obtain ⟨so, m, c, rfl⟩ := ho1.form; obtain ⟨⟨k0, k1, k2, k3, k4, k5⟩, ⟨f0, f1, f2, f3, f4, f5⟩, ⟨k0', k1', k2', k3'⟩, f0', f1', f2', f3'⟩ := cells64 hb1; have HB : Hid (Below w.heap.size w w1) := (show Below w.heap.size w _ from by go_grown).trans (hb1.mono (by simp; omega)); have hsz : w.heap.size + 2 ≤ w1.heap.size := (by have := hb1.size; simpa using this); have HO : Hid (OwI w1 (w.heap.size + 2) (.slice so m c) r.1 F) := hidden (ho1.lift (by simp)); clear hb1 ho1))
    refine bodyPost_ret (v := .agg #[.int .i64 7, .int .i64 0, .string ⟨#[]⟩, .slice so m c, .int .i64 r.2.2, .int .i64 r.2.1]) (by simp [results, Tryz.results28, go_sem, k0, k1, k2, k3, k4, k5]; try rfl) rfl ?_
    refine ⟨7, 0, r.2.1, ⟨#[]⟩, so, m, c, rfl, ((((((HB.out.setCell (by simp) _).setCell (by simp) _).setCell (by simp) _).setCell (by simp) _).setCell (by simp) _).setCell (by simp) _).setCell (by simp) _, fun _ => ⟨F, rfl, rfl, rfl, rfl, (HO.out.keep (fun g hg => ?_)).lift (by omega)⟩⟩
    have hge := (HO.out.lt g hg).1
    rw [Below.heap_setCell _ _ _ _ (by simp; omega), Below.heap_setCell _ _ _ _ (by simp; omega), Below.heap_setCell _ _ _ _ (by simp; omega), Below.heap_setCell _ _ _ _ (by simp; omega), Below.heap_setCell _ _ _ _ (by simp; omega), Below.heap_setCell _ _ _ _ (by simp; omega), Below.heap_setCell _ _ _ _ (by simp; omega)]
  rw [if_neg (by omega)] at hx
  clear hr
  by_cases h19 : c = 19
  · subst h19
    have e : X = (((rdI (l.drop (p + 1)) (p + 1 : Nat)).1, ⟨#[]⟩, .nil), (rdI (l.drop (p + 1)) (p + 1 : Nat)).2.1, (rdI (l.drop (p + 1)) (p + 1 : Nat)).2.2) := by rw [hx]; unfold rdX; rw [if_pos (by decide)]
    subst e
    have HI := fun u (hu : Sl u (some ⟨b, off, none⟩) n cap l) => rdecInt_any (some ⟨b, off, none⟩) n cap l (p + 1) u hu (by omega)
    rw [hp1] at HI ⊢
    clear hx HWF
    generalize rdI (l.drop (p + 1)) ((p : Int) + 1) = r at *
    unfold rdV at HI
    obtain ⟨K0, hK0⟩ : ∃ K0 : Int, (if r.2.2 = 0 then 3 else 0) = K0 := ⟨_, rfl⟩
    rw [hK0] at HI
    have HK0 : Hid (r.2.2 = 0 → K0 = 3) := hidden (fun h => by rw [← hK0, if_pos h])
    clear hK0
    go_enter Tryz.func28, Tryz.ntmps28
    go_wp2_with (first | (go_at_call 42; refine (HI _ (Hs.out.on (Nat.le_refl _) (by go_grown))).mono ?_; rintro e w1 ⟨rfl, hb1⟩; obtain ⟨⟨k0, k1, k2, k3, k4, k5⟩, ⟨f0, f1, f2, f3, f4, f5⟩, ⟨k0', k1', k2', k3'⟩, f0', f1', f2', f3'⟩ := cells64 hb1; have HB : Hid (Below w.heap.size w w1) := (show Below w.heap.size w _ from by go_grown).trans (hb1.mono (by simp; omega)); have hsz : w.heap.size + 2 ≤ w1.heap.size := (by have := hb1.size; simpa using this); clear hb1))
    refine bodyPost_ret (v := .agg #[.int .i64 K0, .int .i64 r.1, .string ⟨#[]⟩, .slice none 0 0, .int .i64 r.2.2, .int .i64 r.2.1]) (by simp [results, Tryz.results28, go_sem, k0, k1, k2, k3, k4, k5]; try rfl) rfl ?_
    exact ⟨K0, r.1, r.2.1, ⟨#[]⟩, none, 0, 0, rfl, (((((HB.out.setCell (by simp) _).setCell (by simp) _).setCell (by simp) _).setCell (by simp) _).setCell (by simp) _).setCell (by simp) _, fun h => ⟨[], HK0.out h, rfl, rfl, rfl, OwI.nil _ _⟩⟩
  by_cases h20 : c = 20
  · subst h20
    have e : X = (((rdF (l.drop (p + 1)) (p + 1 : Nat)).1, ⟨#[]⟩, .nil), (rdF (l.drop (p + 1)) (p + 1 : Nat)).2.1, (rdF (l.drop (p + 1)) (p + 1 : Nat)).2.2) := by rw [hx]; unfold rdX; rw [if_neg (by decide), if_pos (by decide)]
    subst e
    have HI := fun u (hu : Sl u (some ⟨b, off, none⟩) n cap l) => refReadFixed_all (some ⟨b, off, none⟩) n cap l ((p : Int) + 1) 8 u hu
    have hrF : rF l ((p : Int) + 1) 8 = if l.length < p + 1 + 8 then (0, 10) else (rdB ((l.drop (p + 1)).take 8), 0) := by
      unfold rF
      rw [if_neg (by omega)]
      by_cases h : l.length < p + 1 + 8
      · rw [if_pos (by omega), if_pos h]
      · rw [if_neg (by omega), if_neg h, show ((p : Int) + 1).toNat = p + 1 by omega, show (8 : Int).toNat = 8 from rfl]
    rw [hrF] at HI
    unfold rdF
    have hdl : (l.drop (p + 1)).length = n - (p + 1) := by simp; omega
    rw [hp1]
    clear hx hrF
    by_cases hsh : l.length < p + 1 + 8
    · simp only [if_pos hsh] at HI
      rw [if_pos (by omega)]
      clear HWF hdl
      go_enter Tryz.func28, Tryz.ntmps28
      go_wp2_with (first | (go_at_call 43; refine same_call (HI _ (Hs.out.on (Nat.le_refl _) (by go_grown))) ?_))
      refine bodyPost_ret (v := .agg #[.int .i64 0, .int .i64 0, .string ⟨#[]⟩, .slice none 0 0, .int .i64 21, .int .i64 0]) (by simp [results, Tryz.results28, go_sem]; try rfl) rfl ?_
      exact RrTo.bad (x := ((0, ⟨#[]⟩, .nil), 0, 21)) (by decide) (by go_grown)
    · simp only [if_neg hsh] at HI
      rw [if_neg (by omega)]
      have hb := rdB_bound ((l.drop (p + 1)).take 8) (fun x hx => HWF.out x (List.mem_of_mem_drop (List.mem_of_mem_take hx)))
      rw [show ((l.drop (p + 1)).take 8).length = 8 by simp; omega, show (256 : Int) ^ 8 = 18446744073709551616 by decide] at hb
      clear HWF hdl
      generalize rdB ((l.drop (p + 1)).take 8) = r at *
      by_cases hbig : r < 9223372036854775808
      · have e := notRank r hb.1 hbig
        have e2 : fbt r = -r - 1 := by unfold fbt; rw [if_pos hbig]
        have hbI : ¬ (9223372036854775808 : Int) ≤ r := by omega
        rw [e2]
        clear e2
        go_enter Tryz.func28, Tryz.ntmps28
        go_wp2_with (first | (go_at_call 43; refine same_call (HI _ (Hs.out.on (Nat.le_refl _) (by go_grown))) ?_))
        refine bodyPost_ret (v := .agg #[.int .i64 4, .int .i64 (-r - 1), .string ⟨#[]⟩, .slice none 0 0, .int .i64 0, .int .i64 ((p : Int) + 9)]) (by simp [results, Tryz.results28, go_sem]; try rfl) rfl ?_
        exact ⟨4, -r - 1, (p : Int) + 9, ⟨#[]⟩, none, 0, 0, rfl, by go_grown, fun h => ⟨[], rfl, rfl, rfl, by simp only; omega, OwI.nil _ _⟩⟩
      · have e2 : fbt r = r - 9223372036854775808 := by unfold fbt; rw [if_neg hbig]
        have e3 : IntKind.i64.wrap (r - 9223372036854775808) = r - 9223372036854775808 := by rw [IntKind.wrap_i64]; omega
        have hbI : (9223372036854775808 : Int) ≤ r := by omega
        rw [e2]
        clear e2
        go_enter Tryz.func28, Tryz.ntmps28
        go_wp2_with (first | (go_at_call 43; refine same_call (HI _ (Hs.out.on (Nat.le_refl _) (by go_grown))) ?_))
        refine bodyPost_ret (v := .agg #[.int .i64 4, .int .i64 (r - 9223372036854775808), .string ⟨#[]⟩, .slice none 0 0, .int .i64 0, .int .i64 ((p : Int) + 9)]) (by simp [results, Tryz.results28, go_sem]; try rfl) rfl ?_
        exact ⟨4, r - 9223372036854775808, (p : Int) + 9, ⟨#[]⟩, none, 0, 0, rfl, by go_grown, fun h => ⟨[], rfl, rfl, rfl, by simp only; omega, OwI.nil _ _⟩⟩
  by_cases h21 : c = 21
  · subst h21
    have e : X = ((0, (rdT Vl 5 (l.drop (p + 1)) (p + 1 : Nat)).1, .nil), (rdT Vl 5 (l.drop (p + 1)) (p + 1 : Nat)).2.1, (rdT Vl 5 (l.drop (p + 1)) (p + 1 : Nat)).2.2) := by rw [hx]; unfold rdX; rw [if_neg (by decide), if_neg (by decide), if_pos (by decide)]; rfl
    subst e
    have HR := fun u (hu : Sl u (some ⟨b, off, none⟩) n cap l) => refReadOrdered_all (some ⟨b, off, none⟩) n cap l ((p : Int) + 1) u hu
    have hro : rOx l ((p : Int) + 1) = rO (l.drop (p + 1)) ((p : Int) + 1) [] := by unfold rOx; rw [if_neg (by omega), show ((p : Int) + 1).toNat = p + 1 by omega]
    have hpr := rO_p (l.drop (p + 1)) ((p : Int) + 1) [] (fun x hx => HWF.out x (List.mem_of_mem_drop hx)) Wf.nil
    simp only [hro] at HR
    unfold rdT
    rw [hp1]
    obtain ⟨t, ht1⟩ : ∃ t, (rO (l.drop (p + 1)) ((p : Int) + 1) []).1 = t := ⟨_, rfl⟩
    obtain ⟨q, hq1⟩ : ∃ q, (rO (l.drop (p + 1)) ((p : Int) + 1) []).2.1 = q := ⟨_, rfl⟩
    obtain ⟨ee, he1⟩ : ∃ e, (rO (l.drop (p + 1)) ((p : Int) + 1) []).2.2 = e := ⟨_, rfl⟩
    rw [ht1, hq1, he1] at HR
    rw [ht1] at hpr
    rw [ht1, hq1, he1]
    clear ht1 hq1 he1 hx hro HWF
    by_cases he : ee = 0
    · subst he
      rw [if_neg (by rintro (h | h); exact h rfl; exact absurd h.1 (by decide))]
      go_enter Tryz.func28, Tryz.ntmps28
      go_wp2_with (first | (go_at_call 44; refine (HR _ (Hs.out.on (Nat.le_refl _) (by go_grown))).mono ?_; rintro e1 w1 ⟨v1, rfl, ho1, hb1⟩; obtain ⟨a1, c1, rfl, hsl, _⟩ := ho1.sl hpr.1 (by have := hpr.2; simp at this; omega); have kc := conv_st hsl; obtain ⟨⟨k0, k1, k2, k3, k4, k5⟩, ⟨f0, f1, f2, f3, f4, f5⟩, ⟨k0', k1', k2', k3'⟩, f0', f1', f2', f3'⟩ := cells64 hb1; have HB : Hid (Below w.heap.size w w1) := (show Below w.heap.size w _ from by go_grown).trans (hb1.mono (by simp; omega)); have hsz : w.heap.size + 2 ≤ w1.heap.size := (by have := hb1.size; simpa using this); clear hb1 ho1 hsl))
      refine bodyPost_ret (v := .agg #[.int .i64 5, .int .i64 0, .string (strOfNums t), .slice none 0 0, .int .i64 0, .int .i64 q]) (by simp [results, Tryz.results28, go_sem, k0, k1, k2, k3, k4, k5]; try rfl) rfl ?_
      exact ⟨5, 0, q, strOfNums t, none, 0, 0, rfl, ((((((HB.out.setCell (by simp) _).setCell (by simp) _).setCell (by simp) _).setCell (by simp) _).setCell (by simp) _).setCell (by simp) _).setCell (by simp) _, fun _ => ⟨[], rfl, rfl, rfl, rfl, OwI.nil _ _⟩⟩
    · have he2 : (ee == 0) = false := by simp [he]
      rw [if_pos (.inl he)]
      go_enter Tryz.func28, Tryz.ntmps28
      go_wp2_with (first | (go_at_call 44; refine (HR _ (Hs.out.on (Nat.le_refl _) (by go_grown))).mono ?_; rintro e1 w1 ⟨v1, rfl, ho1, hb1⟩; obtain ⟨a1, c1, rfl, hsl, _⟩ := ho1.sl hpr.1 (by have := hpr.2; simp at this; omega); have kc := conv_st hsl; obtain ⟨⟨k0, k1, k2, k3, k4, k5⟩, ⟨f0, f1, f2, f3, f4, f5⟩, ⟨k0', k1', k2', k3'⟩, f0', f1', f2', f3'⟩ := cells64 hb1; have HB : Hid (Below w.heap.size w w1) := (show Below w.heap.size w _ from by go_grown).trans (hb1.mono (by simp; omega)); have hsz : w.heap.size + 2 ≤ w1.heap.size := (by have := hb1.size; simpa using this); clear hb1 ho1 hsl))
      refine bodyPost_ret (v := .agg #[.int .i64 0, .int .i64 0, .string ⟨#[]⟩, .slice none 0 0, .int .i64 21, .int .i64 0]) (by simp [results, Tryz.results28, go_sem, k0, k1, k2, k3, k4, k5]; try rfl) rfl ?_
      exact RrTo.bad (x := ((0, ⟨#[]⟩, .nil), 0, 21)) (by decide) ((((((HB.out.setCell (by simp) _).setCell (by simp) _).setCell (by simp) _).setCell (by simp) _).setCell (by simp) _).setCell (by simp) _)
  by_cases h22 : c = 22
  · subst h22
    have e : X = ((0, (rdT Vl 6 (l.drop (p + 1)) (p + 1 : Nat)).1, .nil), (rdT Vl 6 (l.drop (p + 1)) (p + 1 : Nat)).2.1, (rdT Vl 6 (l.drop (p + 1)) (p + 1 : Nat)).2.2) := by rw [hx]; unfold rdX; rw [if_neg (by decide), if_neg (by decide), if_pos (by decide)]; rfl
    subst e
    have HR := fun u (hu : Sl u (some ⟨b, off, none⟩) n cap l) => refReadOrdered_all (some ⟨b, off, none⟩) n cap l ((p : Int) + 1) u hu
    have hro : rOx l ((p : Int) + 1) = rO (l.drop (p + 1)) ((p : Int) + 1) [] := by unfold rOx; rw [if_neg (by omega), show ((p : Int) + 1).toNat = p + 1 by omega]
    have hpr := rO_p (l.drop (p + 1)) ((p : Int) + 1) [] (fun x hx => HWF.out x (List.mem_of_mem_drop hx)) Wf.nil
    simp only [hro] at HR
    unfold rdT
    rw [hp1]
    obtain ⟨t, ht1⟩ : ∃ t, (rO (l.drop (p + 1)) ((p : Int) + 1) []).1 = t := ⟨_, rfl⟩
    obtain ⟨q, hq1⟩ : ∃ q, (rO (l.drop (p + 1)) ((p : Int) + 1) []).2.1 = q := ⟨_, rfl⟩
    obtain ⟨ee, he1⟩ : ∃ e, (rO (l.drop (p + 1)) ((p : Int) + 1) []).2.2 = e := ⟨_, rfl⟩
    rw [ht1, hq1, he1] at HR
    rw [ht1] at hpr
    rw [ht1, hq1, he1]
    clear ht1 hq1 he1 hx hro HWF
    have HU := fun u => utf8_any (strOfNums t) u (by rw [strOfNums_size]; have := hpr.2; simp at this; omega)
    by_cases he : ee = 0
    · subst he
      cases hv : Vl (strOfNums t)
      · have hv' : Lib.validD (strOfNums t).data.toList = false := hv
        rw [hv'] at HU
        rw [if_pos (.inr ⟨rfl, rfl⟩)]
        go_enter Tryz.func28, Tryz.ntmps28
        go_wp2_with (first | (go_at_call 44; refine (HR _ (Hs.out.on (Nat.le_refl _) (by go_grown))).mono ?_; rintro e1 w1 ⟨v1, rfl, ho1, hb1⟩; obtain ⟨a1, c1, rfl, hsl, _⟩ := ho1.sl hpr.1 (by have := hpr.2; simp at this; omega); have kc := conv_st hsl; obtain ⟨⟨k0, k1, k2, k3, k4, k5⟩, ⟨f0, f1, f2, f3, f4, f5⟩, ⟨k0', k1', k2', k3'⟩, f0', f1', f2', f3'⟩ := cells64 hb1; have HB : Hid (Below w.heap.size w w1) := (show Below w.heap.size w _ from by go_grown).trans (hb1.mono (by simp; omega)); have hsz : w.heap.size + 2 ≤ w1.heap.size := (by have := hb1.size; simpa using this); clear hb1 ho1 hsl) | (go_at_call 45; refine same_call (HU _) ?_))
        refine bodyPost_ret (v := .agg #[.int .i64 0, .int .i64 0, .string ⟨#[]⟩, .slice none 0 0, .int .i64 21, .int .i64 0]) (by simp [results, Tryz.results28, go_sem, k0, k1, k2, k3, k4, k5]; try rfl) rfl ?_
        exact RrTo.bad (x := ((0, ⟨#[]⟩, .nil), 0, 21)) (by decide) ((((((HB.out.setCell (by simp) _).setCell (by simp) _).setCell (by simp) _).setCell (by simp) _).setCell (by simp) _).setCell (by simp) _)
      · have hv' : Lib.validD (strOfNums t).data.toList = true := hv
        rw [hv'] at HU
        rw [if_neg (by rintro (h | h); exact h rfl; simp at h)]
        go_enter Tryz.func28, Tryz.ntmps28
        go_wp2_with (first | (go_at_call 44; refine (HR _ (Hs.out.on (Nat.le_refl _) (by go_grown))).mono ?_; rintro e1 w1 ⟨v1, rfl, ho1, hb1⟩; obtain ⟨a1, c1, rfl, hsl, _⟩ := ho1.sl hpr.1 (by have := hpr.2; simp at this; omega); have kc := conv_st hsl; obtain ⟨⟨k0, k1, k2, k3, k4, k5⟩, ⟨f0, f1, f2, f3, f4, f5⟩, ⟨k0', k1', k2', k3'⟩, f0', f1', f2', f3'⟩ := cells64 hb1; have HB : Hid (Below w.heap.size w w1) := (show Below w.heap.size w _ from by go_grown).trans (hb1.mono (by simp; omega)); have hsz : w.heap.size + 2 ≤ w1.heap.size := (by have := hb1.size; simpa using this); clear hb1 ho1 hsl) | (go_at_call 45; refine same_call (HU _) ?_))
        refine bodyPost_ret (v := .agg #[.int .i64 6, .int .i64 0, .string (strOfNums t), .slice none 0 0, .int .i64 0, .int .i64 q]) (by simp [results, Tryz.results28, go_sem, k0, k1, k2, k3, k4, k5]; try rfl) rfl ?_
        exact ⟨6, 0, q, strOfNums t, none, 0, 0, rfl, ((((((HB.out.setCell (by simp) _).setCell (by simp) _).setCell (by simp) _).setCell (by simp) _).setCell (by simp) _).setCell (by simp) _).setCell (by simp) _, fun _ => ⟨[], rfl, rfl, rfl, rfl, OwI.nil _ _⟩⟩
    · have he2 : (ee == 0) = false := by simp [he]
      generalize Lib.validD (strOfNums t).data.toList = bv at *
      rw [if_pos (.inl he)]
      go_enter Tryz.func28, Tryz.ntmps28
      go_wp2_with (first | (go_at_call 44; refine (HR _ (Hs.out.on (Nat.le_refl _) (by go_grown))).mono ?_; rintro e1 w1 ⟨v1, rfl, ho1, hb1⟩; obtain ⟨a1, c1, rfl, hsl, _⟩ := ho1.sl hpr.1 (by have := hpr.2; simp at this; omega); have kc := conv_st hsl; obtain ⟨⟨k0, k1, k2, k3, k4, k5⟩, ⟨f0, f1, f2, f3, f4, f5⟩, ⟨k0', k1', k2', k3'⟩, f0', f1', f2', f3'⟩ := cells64 hb1; have HB : Hid (Below w.heap.size w w1) := (show Below w.heap.size w _ from by go_grown).trans (hb1.mono (by simp; omega)); have hsz : w.heap.size + 2 ≤ w1.heap.size := (by have := hb1.size; simpa using this); clear hb1 ho1 hsl) | (go_at_call 45; refine same_call (HU _) ?_))
      refine bodyPost_ret (v := .agg #[.int .i64 0, .int .i64 0, .string ⟨#[]⟩, .slice none 0 0, .int .i64 21, .int .i64 0]) (by simp [results, Tryz.results28, go_sem, k0, k1, k2, k3, k4, k5]; try rfl) rfl ?_
      exact RrTo.bad (x := ((0, ⟨#[]⟩, .nil), 0, 21)) (by decide) ((((((HB.out.setCell (by simp) _).setCell (by simp) _).setCell (by simp) _).setCell (by simp) _).setCell (by simp) _).setCell (by simp) _)
  have e : X = ((0, ⟨#[]⟩, .nil), ((p + 1 : Nat) : Int), 0) := by rw [hx]; unfold rdX; rw [if_neg (by omega), if_neg (by omega), if_neg (by omega), if_neg (by omega)]
  subst e
  rw [hp1]
  have b3 : (c - 16 == 3) = false := by simp; omega
  have b4 : (c - 16 == 4) = false := by simp; omega
  have b5 : (c - 16 == 5) = false := by simp; omega
  have b6 : (c - 16 == 6) = false := by simp; omega
  have b7 : (c - 16 == 7) = false := by simp; omega
  obtain ⟨kd, hkd⟩ : ∃ kd, c - 16 = kd := ⟨_, rfl⟩
  rw [hkd] at b3 b4 b5 b6 b7 g1 g2 ⊢
  clear hx HWF Hs h1 h19 h20 h21 h22 h23
  go_enter Tryz.func28, Tryz.ntmps28
  go_wp2
  refine bodyPost_ret (v := .agg #[.int .i64 kd, .int .i64 0, .string ⟨#[]⟩, .slice none 0 0, .int .i64 0, .int .i64 ((p : Int) + 1)]) (by simp [results, Tryz.results28, go_sem]; try rfl) rfl ?_
  exact ⟨kd, 0, (p : Int) + 1, ⟨#[]⟩, none, 0, 0, rfl, by go_grown, fun h => ⟨[], rfl, rfl, rfl, rfl, OwI.nil _ _⟩⟩
end Go.Proofs.YtpiijmionafmcaaGreatDoor

/- The document's decodeAll and Decode. -/

namespace Go.Proofs.YtpiijmionafmcaaGreatDoor
open Go.RowKit

set_option maxHeartbeats 4000000 in
set_option maxRecDepth 100000 in
theorem rdecAll_all (ao : Option Addr) (n cap : Nat) (l : List Int) : ∀ (K N : Nat), N < K → ∀ (p0 : Nat) (d : Int) (w : World), Sl w ao n cap l → p0 ≤ n → 0 ≤ d ∧ d ≤ 16 → 2 * (n - p0) + 2 ≤ N →
    Calls Tryz.prog 18 #[.slice ao n cap, .int .i64 (p0 : Int), .int .i64 d] w (RdTo (rdL Vl l N p0 d 0) w)
  | 0, _, h, _, _, _, _, _, _, _ => by omega
  | K + 1, N, hNK, p0, d, w, hs, hp0, hd, hN => by
    have hlen := hs.hlen
    have hroom := hs.hroom
    have hcap := hs.hcap
    have HW := hidden hs.wf
    have Hs := hidden hs
    obtain ⟨X, hX⟩ : ∃ X, rdL Vl l N p0 d 0 = X := ⟨_, rfl⟩
    have HX0 : Hid (X = fin .nil (rdL Vl l N p0 d 0)) := hidden (by rw [fin_nil, hX])
    rw [hX]
    clear hs hX
    go_enter Tryz.func18, Tryz.ntmps18
    go_wp2_with fail
    go_loopw [1, 9] (fun at_ v wr => ∃ (p : Nat) (acc : Its) (M : Nat) (F : List Nat) (so : Option Addr) (sc : Nat), p ≤ n ∧ at_ = .int .i64 (p : Int) ∧ v = .slice so acc.len sc ∧ 2 * (n - p) + 2 ≤ M ∧ M ≤ N ∧ acc.len ≤ 64 ∧ Hid (OwI wr w.heap.size (.slice so acc.len sc) acc F) ∧ Hid (Below w.heap.size w wr) ∧ Hid (X = fin acc (rdL Vl l M p d acc.len))) (fun at_ _ _ => n - (intOf at_).toNat)
    case atStart => exact ⟨p0, .nil, N, [], none, 0, hp0, rfl, rfl, hN, Nat.le_refl _, by simp [Its.len], hidden (OwI.nil _ _), hidden (Below.refl _ _), HX0⟩
    case round =>
      obtain ⟨p, acc, M, F, so, sc, hp, rfl, rfl, hM, hMN, hal, HO, HB, HX⟩ := hrel
      obtain ⟨M, rfl⟩ : ∃ M', M = M' + 1 := ⟨M - 1, by omega⟩
      clear HX0
      have hx := HX.out
      clear HX
      by_cases hpn : p < n
      · have hpI : (p : Int) < (n : Int) := by omega
        have hpe : ((p : Int) == (n : Int)) = false := by simp; omega
        have hpe2 : ¬ (p : Int) = (n : Int) := by omega
        rcases (Hs.out.on (Nat.le_refl _) HB.out).hat with h | ⟨b, off, rfl, hbb, hc⟩
        · omega
        have hck := hc p hpn
        have hc8 := HW.out (l.getD p 0) (getD_mem l p (by omega))
        clear hc
        by_cases hcd : 0 < d ∧ l.getD p 0 = 0
        · rw [rdL, if_neg (by omega), if_pos hcd] at hx
          have hx2 : X = (acc, (p : Int) + 1, 0) := by rw [hx]; unfold fin; simp [Its.app_nil]
          subst hx2
          obtain ⟨hd0, hc0⟩ := hcd
          rw [hc0] at hck
          have hdb : decide (0 < d) = true := by simp [hd0]
          clear hx hc0 hc8
          go_wp2
          go_ret3
          exact ⟨_, F, rfl, HO.out, HB.out⟩
        · rw [rdL_dX Vl l M p d acc.len (by omega) hcd] at hx
          have HRI := hidden (rdecode_any (fun p d => rdL Vl l M p d 0) (some ⟨b, off, none⟩) n cap l p d acc.len wr (Hs.out.on (Nat.le_refl _) HB.out) hpn hd hal (fun _ h16 u hsu => by
            have := rdecAll_all (some ⟨b, off, none⟩) n cap l K M (by omega) (p + 1) (d + 1) u hsu (by omega) (by omega) (by omega)
            rwa [show ((p + 1 : Nat) : Int) = (p : Int) + 1 by omega] at this))
          have hxo := dX_ok Vl (fun p d => rdL Vl l M p d 0) l p d acc.len HW.out (by omega) (rdL_ok Vl l HW.out (by omega) M (p + 1) (d + 1) 0 (by omega) (by omega) (by omega)).1
          have h64 : (dX Vl (fun p d => rdL Vl l M p d 0) l p d acc.len).2.2 = 0 → acc.len < 64 := fun h => by
            rcases Nat.lt_or_ge acc.len 64 with h1 | h1
            · exact h1
            · have e64 : acc.len = 64 := by omega
              unfold dX at h
              split at h
              · simp at h
              · rw [if_pos (.inl e64)] at h
                simp at h
          generalize dX Vl (fun p d => rdL Vl l M p d 0) l p d acc.len = x at *
          obtain ⟨⟨xn, xt, xs⟩, xq, xe⟩ := x
          simp only at hx
          obtain ⟨x1, x2, x3, x4, x5, x6⟩ := hxo
          simp only at x1 x2 x3 x4 x5 x6
          generalize hcc : l.getD p 0 = c at *
          clear hcc
          have hgd : (decide (0 < d) = true ∧ (c == 0) = false) ∨ decide (0 < d) = false := by
            by_cases h : 0 < d
            · left
              refine ⟨by simp [h], ?_⟩
              rw [beq_eq_false_iff_ne]
              exact fun h0 => hcd ⟨h, h0⟩
            · right
              simp [h]
          by_cases hxe : xe = 0
          · subst hxe
            rw [if_neg (by simp), fin_step] at hx
            obtain ⟨hq1, hq2⟩ := x5 rfl
            have hl64 := h64 rfl
            obtain ⟨q, rfl⟩ : ∃ q : Nat, xq = (q : Int) := ⟨xq.toNat, by omega⟩
            rw [Int.toNat_natCast] at hx
            have HX := hidden hx
            have hsz := HB.out.size
            obtain ⟨ys, F1, hrow, how, hFe, hnd⟩ := HO.out
            have HR := hidden hrow
            have HOW := hidden how
            have HLT := hidden HO.out.lt
            have HFE := hidden hFe
            have HND := hidden hnd
            clear hx x1 x2 x3 x4 x5 x6 hrow how hFe hnd hcd h64
            rcases hgd with ⟨hdb, hcb⟩ | hdb
            all_goals
              go_wp2_with (first | (go_at_call 28; refine HRI.out.mono ?_; rintro e w1 ⟨k1, n1, q1, t1, s1, m1, c1, rfl, hb1, hok⟩; obtain ⟨G, rfl, rfl, rfl, rfl, ho1⟩ := hok rfl; have HO1 := hidden ho1; have HB1 := hidden hb1; have hz1 := hb1.size; clear ho1 hb1 hok) | (at_builtin; refine app_item _ rfl _ _ rfl w.heap.size acc.len ys _ _ _ _ _ _ rfl rfl (((row_keep HR.out (fun g hg => HB1.out.block g (row_lt HR.out hg).2)).alloc _).alloc _) (heap_new _ _ _ (by simp)) (one4 _ _ _ _ _ _) (by omega) (by simp; omega) ?_))
              intro v4 w4 ho4 hg4
              obtain ⟨F', ho⟩ := ow_step HOW.out HFE.out HND.out HLT.out HB1.out HO1.out (((Below.refl _ _).alloc (Nat.le_refl _) _).alloc (by simp) _) hsz ho4 hg4
              have R4 : Below w.heap.size w w4 := HB.out.trans ((HB1.out.mono hsz).trans ((((Below.refl _ _).alloc (by omega) _).alloc (by simp; omega) _).trans (own_below (((row_keep HR.out (fun g hg => HB1.out.block g (row_lt HR.out hg).2)).alloc _).alloc _) (by simp; omega) hg4.grow)))
              have c2 : w4.cell? ⟨w1.heap.size, 5, none⟩ = some (.int .i64 (q : Int)) := by
                refine (hg4.cell ⟨w1.heap.size, 5, none⟩ (by simp; omega) ?_).trans ?_
                · intro e
                  have := (row_lt HR.out e.symm).2
                  have := HB1.out.size
                  simp at *
                  omega
                · simp
              obtain ⟨so4, c4, rfl⟩ := ho.form'
              have HO4 := hidden ho
              have HR4 := hidden R4
              clear ho R4 ho4 hg4
              go_wp2
              go_roundw
              case rel => exact ⟨q, acc.snoc (c - 16) n1 t1 xs, M, F', so4, c4, by omega, rfl, rfl, by omega, by omega, by rw [Its.snoc_len]; omega, HO4, HR4, by rw [Its.snoc_len]; exact HX⟩
              case measure => simp [intOf]; omega
          · rw [if_pos hxe] at hx
            have hx2 : X = (.nil, 0, xe) := by rw [hx]; unfold fin; rw [if_pos hxe]
            subst hx2
            have hxb : (xe == 0) = false := by simp [hxe]
            clear hx x1 x2 x3 x4 x5 x6 hcd h64
            rcases hgd with ⟨hdb, hcb⟩ | hdb
            all_goals
              go_wp2_with (first | (go_at_call 28; refine HRI.out.mono ?_; rintro e w1 ⟨k1, n1, q1, t1, s1, m1, c1, rfl, hb1, hok⟩; have HB1 := hidden hb1; have hz1 := hb1.size; clear hb1 hok))
              go_quiet (fail)
              go_wp2
              go_ret3
              exact ⟨_, [], rfl, OwI.nil _ _, below_draws (HB.out.trans ((HB1.out.mono HB.out.size).trans ((Below.refl _ _).alloc (by have := HB.out.size; omega) _))) _⟩
      · obtain rfl : p = n := by omega
        have hpe : ((p : Int) == (p : Int)) = true := by simp
        rw [rdL, if_pos (by omega)] at hx
        by_cases hd0 : 0 < d
        · rw [if_pos hd0] at hx
          have hx2 : X = (.nil, 0, 21) := hx
          subst hx2
          clear hx
          go_wp2
          go_ret3
          exact ⟨_, [], rfl, OwI.nil _ _, HB.out⟩
        · rw [if_neg hd0] at hx
          have hx2 : X = (acc, (p : Int), 0) := by rw [hx]; unfold fin; simp [Its.app_nil]
          subst hx2
          clear hx
          go_wp2
          go_ret3
          exact ⟨_, F, rfl, HO.out, HB.out⟩
set_option maxRecDepth 100000 in
/-- The document's Decode. -/
theorem rdecode_all (ao : Option Addr) (n cap : Nat) (l : List Int) (w : World) (hs : Sl w ao n cap l) :
    Calls Tryz.prog 6 #[.slice ao n cap] w (DcTo (dcR Vl l) w) := by
  have hlen := hs.hlen
  have hroom := hs.hroom
  by_cases h : 65536 < n
  · have e : dcR Vl l = (.nil, 2) := by unfold dcR; rw [if_pos (by omega)]
    rw [e]
    have hI : (65536 : Int) < (n : Int) := by omega
    clear e hs
    go_enter Tryz.func6, Tryz.ntmps6
    go_wp2
    go_ret2
    exact ⟨_, [], rfl, OwI.nil _ _, Below.refl _ _⟩
  · have e : dcR Vl l = ((rdL Vl l (2 * l.length + 3) 0 0 0).1, (rdL Vl l (2 * l.length + 3) 0 0 0).2.2) := by unfold dcR; rw [if_neg (by omega)]
    rw [e]
    have hI : ¬ (65536 : Int) < (n : Int) := by omega
    have HR := hidden (rdecAll_all ao n cap l (2 * l.length + 4) (2 * l.length + 3) (by omega) 0 0 w hs (by omega) (by omega) (by omega))
    have HE := hidden (rdL_err Vl l (2 * l.length + 3) 0 0 0)
    have hok := (rdL_ok Vl l hs.wf (by omega) (2 * l.length + 3) 0 0 0 (by omega) (by omega) (by omega)).1
    generalize rdL Vl l (2 * l.length + 3) 0 0 0 = x at *
    clear e hs
    obtain ⟨xi, xq, xe⟩ := x
    simp only at hok HE HR ⊢
    by_cases hx : xe = 0
    · subst hx
      clear HE hok
      go_enter Tryz.func6, Tryz.ntmps6
      go_wp2_with (first | (go_at_call 18; refine HR.out.mono ?_; rintro e1 w1 ⟨v1, F, rfl, ho1, hb1⟩; obtain ⟨s1, m1, c1, rfl⟩ := ho1.form; have HO1 := hidden ho1; have HB1 := hidden hb1; clear ho1 hb1))
      go_ret2
      exact ⟨_, F, rfl, HO1.out, HB1.out⟩
    · have hxi : xi = .nil := by
        have := HE.out hx
        injection this
      subst hxi
      have hxe : xe = 21 ∨ xe = 22 := by
        rcases hok.2.2.2 with h | h | h
        · exact absurd h hx
        · exact .inl h
        · exact .inr h
      clear HE hok hx
      rcases hxe with rfl | rfl
      all_goals
        go_enter Tryz.func6, Tryz.ntmps6
        go_wp2_with (first | (go_at_call 18; refine HR.out.mono ?_; rintro e1 w1 ⟨v1, F, rfl, ho1, hb1⟩; obtain ⟨s1, m1, c1, rfl⟩ := ho1.form; have HB1 := hidden hb1; clear ho1 hb1))
        go_ret2
        exact ⟨_, [], rfl, OwI.nil _ _, HB1.out⟩
end Go.Proofs.YtpiijmionafmcaaGreatDoor
