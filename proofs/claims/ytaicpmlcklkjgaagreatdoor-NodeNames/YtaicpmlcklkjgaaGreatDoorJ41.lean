/- plain.Page.Insert, Set and Remove, in general. -/
import Derived.Test.YtaicpmlcklkjgaaGreatDoorJ40
import Derived.Test.YtaicpmlcklkjgaaGreatDoorJ06
import Derived.Test.YtaicpmlcklkjgaaGreatDoorJ39
namespace Go.Proofs.YtaicpmlcklkjgaaGreatDoor
open Go.RowKit

/-- Whether a place is one of n. -/
def hasP (x : Int) (n : Nat) : Prop := 0 ≤ x ∧ x < (n : Int)
set_option maxRecDepth 100000 in
theorem has_any (w : World) (a : Nat) (k : Int) (n : Nat) (vb : Value) (so : Option Addr) (sn sc : Nat) (h : PR w a k n vb (.slice so sn sc)) (x : Int) (b : Bool) (hb : b = true ↔ hasP x sn) :
    Calls Tryz.prog 265 #[.pointer (some ⟨a, 0, none⟩), .int .i64 x] w fun e w' => e = .returned (.bool b) ∧ w' = w := by
  have HL := hidden (lenR_any w a k n vb so sn sc h)
  clear h
  by_cases h0 : 0 ≤ x
  · by_cases h1 : x < (sn : Int)
    · have hbt : b = true := hb.2 ⟨h0, h1⟩
      subst hbt
      clear hb
      go_enter Tryz.func265, Tryz.ntmps265
      go_wp2_with (first | (go_at_call 148; refine same_call HL.out ?_))
      go_ret
      exact ⟨ret_bool (by simp), rfl⟩
    · have hbt : b = false := by
        cases b with
        | false => rfl
        | true => exact absurd (hb.1 rfl).2 h1
      subst hbt
      clear hb
      go_enter Tryz.func265, Tryz.ntmps265
      go_wp2_with (first | (go_at_call 148; refine same_call HL.out ?_))
      go_ret
      exact ⟨ret_bool (by simp; omega), rfl⟩
  · have hbt : b = false := by
      cases b with
      | false => rfl
      | true => exact absurd (hb.1 rfl).1 h0
    subst hbt
    have h0' : x < 0 := by omega
    clear hb
    go_enter Tryz.func265, Tryz.ntmps265
    go_wp2_with (first | (go_at_call 148; refine same_call HL.out ?_))
    go_ret
    exact ⟨ret_bool (by simp), rfl⟩
/-- What Insert, Set and Remove answer, and the cells behind them. -/
def insE (k : Int) (n : Nat) (cs : List Cl) (x : Int) (c : Cl) : Int := if 0 ≤ x ∧ x ≤ (cs.length : Int) then putE k n cs x.toNat x.toNat c else 64
set_option maxRecDepth 100000 in
set_option maxHeartbeats 1000000 in
theorem insert_any (w : World) (B a : Nat) (k : Int) (n : Nat) (vb vs : Value) (cs : List Cl) (x : Int) (ka : Option Addr) (kn kc : Nat) (kd : Int) (va : Option Addr) (vn vc : Nat) (pg ct : Int) (key val : List Int) (hp : Po w B a k n vb vs cs) (hn : n ≤ 65536) (hw : ∀ c ∈ cs, c.Wf) (hft : ∀ c ∈ cs, c.fit) (hz : szN cs ≤ n) (hk : Sl w ka kn kc key) (hv : Sl w va vn vc val) (hB : B ≤ w.heap.size) :
    Calls Tryz.prog 260 #[.pointer (some ⟨a, 0, none⟩), .int .i64 x, .agg #[.slice ka kn kc, .int .i64 kd, .slice va vn vc, .int .i64 pg, .int .i64 ct]] w (PuTo w B a k n vb vs cs (cs.take x.toNat ++ [⟨key, kd, val, pg, ct⟩] ++ cs.drop x.toNat) (insE k n cs x ⟨key, kd, val, pg, ct⟩)) := by
  have hzc := szN_eq cs
  obtain ⟨bo, bc, rfl⟩ := hp.body.slice
  obtain ⟨so, sc, rfl⟩ := hp.starts.shape
  rw [sts_length] at hp ⊢
  obtain ⟨bl, hbl⟩ : ∃ bl, (bdy cs).length = bl := ⟨_, rfl⟩
  obtain ⟨sn, hsn⟩ : ∃ sn, cs.length = sn := ⟨_, rfl⟩
  rw [hbl, hsn] at hp
  rw [hbl, hsn]
  unfold insE
  rw [hsn]
  obtain ⟨y, hy⟩ : ∃ y, w.alloc (.cells #[.slice ka kn kc, .int .i64 kd, .slice va vn vc, .int .i64 pg, .int .i64 ct] 43) = y := ⟨_, rfl⟩
  have hby : Below w.heap.size w y := by rw [← hy]; exact bl_al (Below.refl _ _) (Nat.le_refl _) _
  obtain ⟨s, hs⟩ : ∃ s, w.heap.size = s := ⟨_, rfl⟩
  have HBOX : Hid (C5 y s (.slice ka kn kc) (.int .i64 kd) (.slice va vn vc) (.int .i64 pg) (.int .i64 ct)) := by rw [← hy, ← hs]; exact hidden (C5.box _ _ _ _ _ _)
  have hpy := hp.on hby
  have HL : Hid (Calls Tryz.prog 148 #[.pointer (some ⟨a, 0, none⟩)] y fun e w' => e = .returned (.int .i64 (sn : Int)) ∧ w' = y) := hidden (lenR_any y a k n _ so sn sc hpy.row)
  have HBY := hidden hby
  have HP := hidden hp
  obtain ⟨z0, z1, z2, z3, z4⟩ := HBOX.out.cells
  by_cases hx : 0 ≤ x ∧ x ≤ (sn : Int)
  · rw [if_pos hx]
    obtain ⟨i, rfl⟩ : ∃ i : Nat, x = (i : Int) := ⟨x.toNat, by omega⟩
    rw [Int.toNat_natCast]
    by_cases hl : i = sn
    · have hlI : (i : Int) = (sn : Int) := by omega
      rw [hlI]
      have hlN : i = sn := hl
      subst hl
      have HPT := hidden (put_any y B a k n _ _ cs i i ka kn kc kd va vn vc pg ct key val hpy (by omega) (by omega) hn hw hft hz (hk.on (Nat.le_refl _) hby) (hv.on (Nat.le_refl _) hby) (Nat.le_trans hB hby.size))
      generalize putE k n cs i i ⟨key, kd, val, pg, ct⟩ = R at *
      have hiI : (i : Int) ≤ 65536 := by omega
      clear hp hpy hk hv hby hw hft hzc hz hbl
      go_enter Tryz.func260, Tryz.ntmps260
      go_wp2_with (first | (go_at_call 148; refine same_call HL.out ?_) | (go_at_call 269; refine HPT.out.mono ?_; rintro e w2 ⟨rfl, HP2, HC2⟩; refine Hid.out ?_))
      apply hidden
      clear HPT
      go_wp2
      go_ret
      refine ⟨rfl, hidden ?_, hidden ((Cf.of_below HBY.out).go HC2.out)⟩
      obtain ⟨vb', vs', p1, p2, p3⟩ := HP2.out
      exact ⟨vb', vs', p1, p2.imp id (fun ⟨q, h1, h2⟩ => ⟨q, h1, Nat.le_trans HBY.out.size h2⟩), p3.imp id (fun ⟨q, h1, h2⟩ => ⟨q, h1, Nat.le_trans HBY.out.size h2⟩)⟩
    · have hlI : ¬ (i : Int) = (sn : Int) := by omega
      have HPT := hidden (put_any y B a k n _ _ cs i i ka kn kc kd va vn vc pg ct key val hpy (by omega) (by omega) hn hw hft hz (hk.on (Nat.le_refl _) hby) (hv.on (Nat.le_refl _) hby) (Nat.le_trans hB hby.size))
      have HH := hidden (has_any y a k n _ so sn sc hpy.row (i : Int) true (by unfold hasP; simp; omega))
      generalize putE k n cs i i ⟨key, kd, val, pg, ct⟩ = R at *
      have hiI : (i : Int) ≤ 65536 := by omega
      clear hp hpy hk hv hby hw hft hzc hz hbl
      go_enter Tryz.func260, Tryz.ntmps260
      go_wp2_with (first | (go_at_call 148; refine same_call HL.out ?_) | (go_at_call 265; refine same_call HH.out ?_) | (go_at_call 269; refine HPT.out.mono ?_; rintro e w2 ⟨rfl, HP2, HC2⟩; refine Hid.out ?_))
      apply hidden
      clear HPT
      go_wp2
      go_ret
      refine ⟨rfl, hidden ?_, hidden ((Cf.of_below HBY.out).go HC2.out)⟩
      obtain ⟨vb', vs', p1, p2, p3⟩ := HP2.out
      exact ⟨vb', vs', p1, p2.imp id (fun ⟨q, h1, h2⟩ => ⟨q, h1, Nat.le_trans HBY.out.size h2⟩), p3.imp id (fun ⟨q, h1, h2⟩ => ⟨q, h1, Nat.le_trans HBY.out.size h2⟩)⟩
  · rw [if_neg hx]
    have hxl : ¬ x = (sn : Int) := by omega
    have HH := hidden (has_any y a k n _ so sn sc hpy.row x false (by unfold hasP; simp; omega))
    clear hp hpy hk hv hby hw hft hzc hz hbl
    go_enter Tryz.func260, Tryz.ntmps260
    go_wp2_with (first | (go_at_call 148; refine same_call HL.out ?_) | (go_at_call 265; refine same_call HH.out ?_))
    go_ret
    exact PuTo.same HP.out HBY.out (by decide)
end Go.Proofs.YtaicpmlcklkjgaaGreatDoor

/- Layer 8: node.New and node.Open of a plain engine; engineOf. -/

namespace Go.Proofs.YtaicpmlcklkjgaaGreatDoor
open Go.RowKit

/-- What New comes to, of a plain engine. -/
def NNewP (k n : Int) (w : World) (e : Ending) (w' : World) : Prop :=
  ∃ v c, e = .returned (.tuple #[v, .int .i64 c]) ∧ Hid (Below w.heap.size w w') ∧ Hid ((v = .nilIface ∧ c = 1 ∧ ¬ (isKd k ∧ pw n)) ∨ ∃ a, v = iP a ∧ c = 0 ∧ isKd k ∧ pw n ∧ w.heap.size ≤ a ∧ PR w' a k n.toNat (.slice none 0 0) (.slice none 0 0))
set_option maxRecDepth 100000 in
theorem NNewP.from {k n : Int} {w u w' : World} {e : Ending} (h : NNewP k n u e w') (hb : Below w.heap.size w u) : NNewP k n w e w' := by
  obtain ⟨v, c, rfl, HB, HQ⟩ := h
  refine ⟨v, c, rfl, hidden (bl_go hb (Nat.le_refl _) HB.out), hidden ?_⟩
  rcases HQ.out with h | ⟨a, h1, h2, h3, h4, h5, h6⟩
  · exact .inl h
  · exact .inr ⟨a, h1, h2, h3, h4, Nat.le_trans hb.size h5, h6⟩
set_option maxRecDepth 100000 in
theorem makeP_any (k n : Int) (w : World) : Calls Tryz.prog 84 #[.int .i64 k, .int .i64 n] w (NNewP k n w) := by
  have HN := hidden (new_any k n w)
  go_enter Tryz.func84, Tryz.ntmps84
  go_wp2_with (first | (go_at_call 86; refine HN.out.mono ?_; rintro e w1 ⟨po, c, rfl, HB, HQ⟩; refine Hid.out ?_))
  apply hidden
  clear HN
  rcases HQ.out with ⟨rfl, rfl, hn⟩ | ⟨rfl, rfl, hk, hn, hh⟩
  · have H1 := hidden hn
    clear HQ hn
    go_wp2_with (first | (go_at_call 85; refine same_call (asP_no _ _ (by decide) _) ?_))
    go_ret2
    exact ⟨_, _, rfl, HB, hidden (.inl ⟨rfl, rfl, H1.out⟩)⟩
  · have H1 := hidden (And.intro hk (And.intro hn hh))
    clear HQ hk hn hh
    go_wp2_with (first | (go_at_call 85; refine same_call (asP_yes _ _) ?_))
    go_ret2
    obtain ⟨h1, h2, h3⟩ := H1.out
    have e : n = ((n.toNat : Nat) : Int) := by have := pw_le h2; omega
    refine ⟨_, _, rfl, HB, hidden (.inr ⟨_, rfl, rfl, h1, h2, Nat.le_refl _, ?_⟩)⟩
    unfold PR
    rw [← e]
    exact h3
set_option maxRecDepth 100000 in
theorem nnew_1 (k n : Int) (w : World) : Calls Tryz.prog 9 #[.int .i64 1, .int .i64 k, .int .i64 n] w (NNewP k n w) := by
  have HL := hidden (layout_1 w)
  have HM := hidden (fun u => makeP_any k n u)
  go_enter Tryz.func9, Tryz.ntmps9
  go_wp2_with (first | (go_at_call 39; refine HL.out.mono ?_; rintro e w1 ⟨rfl, HB1⟩) | (go_at_call 84; refine (HM.out _).mono ?_; rintro e w2 ⟨v, c, rfl, HB2, HQ2⟩; refine Hid.out ?_))
  apply hidden
  go_wp2
  go_ret2
  exact NNewP.from ⟨v, c, rfl, HB2, HQ2⟩ (bl_al HB1.out (Nat.le_refl _) _)
set_option maxRecDepth 100000 in
theorem nnew_0 (x k n : Int) (h1 : ¬ x = 1) (h2 : ¬ x = 2) (w : World) : Calls Tryz.prog 9 #[.int .i64 x, .int .i64 k, .int .i64 n] w fun e w' => e = .returned (.tuple #[.nilIface, .int .i64 80]) ∧ Hid (Below w.heap.size w w') := by
  have HL := hidden (layout_0 w x h1 h2)
  clear h1 h2
  go_enter Tryz.func9, Tryz.ntmps9
  go_wp2_with (first | (go_at_call 39; refine HL.out.mono ?_; rintro e w1 ⟨rfl, HB1⟩))
  go_ret2
  exact ⟨rfl, hidden (bl_al HB1.out (Nat.le_refl _) _)⟩
/-- The byte that tells the engine. -/
def egO (l : List Int) : Int := if l.length < 2 then 0 else l.getD 1 0
set_option maxRecDepth 100000 in
theorem engineOf_any (ao : Option Addr) (n cap : Nat) (l : List Int) (w : World) (hs : Sl w ao n cap l) :
    Calls Tryz.prog 44 #[.slice ao n cap] w fun e w' => e = .returned (.int .i64 (egO l)) ∧ w' = w := by
  have hlen := hs.hlen
  have hnr := hs.hroom
  unfold egO
  rw [hlen]
  by_cases h : n < 2
  · rw [if_pos h]
    have hI : (n : Int) < 2 := by omega
    clear hs hlen
    go_enter Tryz.func44, Tryz.ntmps44
    go_wp2
    go_ret
    exact ⟨rfl, rfl⟩
  · rw [if_neg h]
    have hI : ¬ (n : Int) < 2 := by omega
    have h1 : 1 < n := by omega
    obtain ⟨g, off, rfl, hc⟩ : ∃ g off, ao = some ⟨g, off, none⟩ ∧ w.cell? ⟨g, off + 1, none⟩ = some (.int .u8 (l.getD 1 0)) := by
      rcases hs.hat with h0 | ⟨g, off, e, _, hc⟩
      · omega
      · exact ⟨g, off, e, hc 1 h1⟩
    have hb := hs.wf.getD 1
    generalize l.getD 1 0 = x at *
    clear hs hlen
    go_enter Tryz.func44, Tryz.ntmps44
    go_wp2
    go_ret
    exact ⟨rfl, rfl⟩
end Go.Proofs.YtaicpmlcklkjgaaGreatDoor

/- Layer 8: node.Open of a plain page. -/

namespace Go.Proofs.YtaicpmlcklkjgaaGreatDoor
open Go.RowKit

set_option maxRecDepth 100000 in
theorem Po.low {w : World} {B C a : Nat} {k : Int} {n : Nat} {vb vs : Value} {cs : List Cl} (h : Po w C a k n vb vs cs) (hB : B ≤ C) : Po w B a k n vb vs cs := ⟨h.row, h.body.low hB, h.starts.lowN hB⟩
/-- What Open comes to, of a plain page. -/
def NOpenP (l : List Int) (w : World) (e : Ending) (w' : World) : Prop :=
  ∃ v c, e = .returned (.tuple #[v, .int .i64 c]) ∧ Hid (Below w.heap.size w w') ∧ Hid ((v = .nilIface ∧ c = 60 ∧ ¬ ∃ cs, Is (l.getD 0 0) l.length cs l) ∨ ∃ a bo bn bc so sn sc cs, v = iP a ∧ c = 0 ∧ w.heap.size ≤ a ∧ Is (l.getD 0 0) l.length cs l ∧ (∀ c ∈ cs, c.Wf) ∧ Po w' w.heap.size a (l.getD 0 0) l.length (.slice bo bn bc) (.slice so sn sc) cs)
set_option maxRecDepth 100000 in
theorem NOpenP.from {l : List Int} {w u w' : World} {e : Ending} (h : NOpenP l u e w') (hb : Below w.heap.size w u) : NOpenP l w e w' := by
  obtain ⟨v, c, rfl, HB, HQ⟩ := h
  refine ⟨v, c, rfl, hidden (bl_go hb (Nat.le_refl _) HB.out), hidden ?_⟩
  rcases HQ.out with h | ⟨a, bo, bn, bc, so, sn, sc, cs, h1, h2, h3, h4, h5, h6⟩
  · exact .inl h
  · exact .inr ⟨a, bo, bn, bc, so, sn, sc, cs, h1, h2, Nat.le_trans hb.size h3, h4, h5, h6.low hb.size⟩
set_option maxRecDepth 100000 in
theorem openP_any (ao : Option Addr) (n cap : Nat) (l : List Int) (w : World) (hs : Sl w ao n cap l) (ht : Tab w) (h0 : 1 < w.heap.size) : Calls Tryz.prog 87 #[.slice ao n cap] w (NOpenP l w) := by
  have HN := hidden (open_po ao n cap l w hs ht h0)
  clear hs ht h0
  go_enter Tryz.func87, Tryz.ntmps87
  go_wp2_with (first | (go_at_call 88; refine HN.out.mono ?_; rintro e w1 ⟨po, c, rfl, HB, HQ⟩; refine Hid.out ?_))
  apply hidden
  clear HN
  rcases HQ.out with ⟨rfl, rfl, hn⟩ | ⟨a, bo, bn, bc, so, sn, sc, cs, rfl, rfl, h1, h2, h3, h4, h5⟩
  · have H1 := hidden hn
    clear HQ hn
    go_wp2_with (first | (go_at_call 85; refine same_call (asP_no _ _ (by decide) _) ?_))
    go_ret2
    exact ⟨_, _, rfl, HB, hidden (.inl ⟨rfl, rfl, H1.out⟩)⟩
  · have H1 := hidden (And.intro h1 (And.intro h2 (And.intro h3 h5.2)))
    clear HQ h1 h2 h3 h4 h5
    go_wp2_with (first | (go_at_call 85; refine same_call (asP_yes _ _) ?_))
    go_ret2
    obtain ⟨h1, h2, h3, h4⟩ := H1.out
    exact ⟨_, _, rfl, HB, hidden (.inr ⟨a, bo, bn, bc, so, sn, sc, cs, rfl, rfl, h1, h2, h3, h4⟩)⟩
set_option maxRecDepth 100000 in
theorem nopen_1 (ao : Option Addr) (n cap : Nat) (l : List Int) (w : World) (hs : Sl w ao n cap l) (ht : Tab w) (h0 : 1 < w.heap.size) (he : egO l = 1) : Calls Tryz.prog 13 #[.slice ao n cap] w (NOpenP l w) := by
  have HE := hidden (engineOf_any ao n cap l w hs)
  rw [he] at HE
  have HL := hidden (layout_1 w)
  have HM : Hid (∀ u, Below w.heap.size w u → Calls Tryz.prog 87 #[.slice ao n cap] u (NOpenP l u)) := hidden fun u hu => openP_any ao n cap l u (hs.on (Nat.le_refl _) hu) (ht.on hu h0) (Nat.lt_of_lt_of_le h0 hu.size)
  clear hs ht h0 he
  go_enter Tryz.func13, Tryz.ntmps13
  go_wp2_with (first | (go_at_call 44; refine same_call HE.out ?_) | (go_at_call 39; refine HL.out.mono ?_; rintro e w1 ⟨rfl, HB1⟩) | (go_at_call 87; refine (HM.out _ (bl_al HB1.out (Nat.le_refl _) _)).mono ?_; rintro e w2 ⟨v, c, rfl, HB2, HQ2⟩; refine Hid.out ?_))
  apply hidden
  go_wp2
  go_ret2
  exact NOpenP.from ⟨v, c, rfl, HB2, HQ2⟩ (bl_al HB1.out (Nat.le_refl _) _)
end Go.Proofs.YtaicpmlcklkjgaaGreatDoor
