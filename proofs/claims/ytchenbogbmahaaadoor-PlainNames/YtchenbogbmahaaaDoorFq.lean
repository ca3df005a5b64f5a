/- plain.Open and plain.New. -/
import Derived.Test.YtchenbogbmahaaaDoorFp
namespace Go.Proofs.YtchenbogbmahaaaDoor
open Go.RowKit

set_option maxRecDepth 100000 in
theorem equal6 (ao bo : Option Addr) (n m c d : Nat) (la lb : List Int) (w : World) (ha : Sl w ao n c la) (hb : Sl w bo m d lb) :
    Calls Tryd.prog 48 #[.slice ao n c, .slice bo m d] w fun e w' => e = .returned (.bool (decide (la = lb))) ∧ w' = w := by
  have h1 := conv_sl ha
  have h2 := conv_sl hb
  have h3 := str_beq ha.wf hb.wf
  clear ha hb
  go_enter Tryd.func48, Tryd.ntmps48
  go_wp2
  go_ret
  exact ⟨rfl, rfl⟩

/-- What Open comes to. -/
def OpenTo (l : List Int) (w : World) (e : Ending) (w' : World) : Prop :=
  ∃ po k, e = .returned (.tuple #[.pointer po, .int .i64 k]) ∧ Hid (Below w.heap.size w w') ∧ Hid ((po = none ∧ k = 60 ∧ ¬ ∃ cs, Is (l.getD 0 0) l.length cs l) ∨ ∃ a bo bn bc so sn sc cs, po = some ⟨a, 0, none⟩ ∧ k = 0 ∧ w.heap.size ≤ a ∧ Is (l.getD 0 0) l.length cs l ∧ (∀ c ∈ cs, c.Wf) ∧ PgAt w' a (l.getD 0 0) l.length bo bn bc so sn sc cs)
set_option maxRecDepth 100000 in
set_option maxHeartbeats 1000000 in
theorem open_any (ao : Option Addr) (n cap : Nat) (l : List Int) (w : World) (hs : Sl w ao n cap l) (ht : Tab w) (h0 : 0 < w.heap.size) :
    Calls Tryd.prog 20 #[.slice ao n cap] w fun e w' => OpenTo l w e w' := by
  have HR := hidden (read_any ao n cap l w hs)
  have HS := hidden hs
  have HT := hidden ht
  clear hs ht
  go_enter Tryd.func20, Tryd.ntmps20
  go_wp2_with (first | (go_at_call 47; refine HR.out.mono ?_; rintro e w1 ⟨po, rfl, HB1, HQ⟩; refine Hid.out ?_))
  apply hidden
  clear HR
  rcases HQ.out with ⟨rfl, hno⟩ | ⟨a, bo, bn, bc, so, sn, sc, cs, rfl, hal, hrm, hpg⟩
  · have HNO : Hid (¬ ∃ cs, Is (l.getD 0 0) l.length cs l) := hidden (by
      rintro ⟨cs, h⟩
      have := (readM_of h).1
      rw [hno] at this
      cases this)
    clear HQ hno
    go_wp2
    go_ret2
    exact ⟨none, 60, rfl, HB1, hidden (.inl ⟨rfl, rfl, HNO.out⟩)⟩
  · have HRM := hidden hrm
    have HPG := hidden hpg
    have HAL := hidden hal
    obtain ⟨i1, i2, i3, i4, i5, _⟩ := readM_inv HS.out.wf hrm
    have HI := hidden (And.intro i1 (And.intro i2 (And.intro i3 (And.intro i4 i5))))
    have HBY := hidden (bytes_any w1 a _ _ bo bn bc so sn sc cs hpg i1 i2 i4 (HT.out.on HB1.out h0) (Nat.lt_of_lt_of_le h0 HB1.out.size) i5)
    clear hrm hpg hal HQ i1 i2 i3 i4 i5
    have hlen := HS.out.hlen
    have HLEN := hidden hlen
    rw [hlen] at HBY
    clear hlen
    have HPL : Hid ((pgB (l.getD 0 0) n cs).length = n) := hidden (by have := HI.out.2.2.2.1; rw [HLEN.out] at this; exact pgB_length _ _ _ this)
    have HPWF : Hid (Wf (pgB (l.getD 0 0) n cs)) := hidden (pgB_wf (by have := HI.out.1; unfold isKd at this; omega) HI.out.2.2.2.2)
    have hnr := HS.out.hroom
    obtain ⟨PB, hPB⟩ : ∃ PB, pgB (l.getD 0 0) n cs = PB := ⟨_, rfl⟩
    rw [hPB] at HBY HPL HPWF
    have HPB := hidden hPB
    clear hPB
    cases hd : decide (PB = l) with
    | true =>
      have hpl : PB = l := by simpa using hd
      go_wp2_with (first | (go_at_call 23; refine HBY.out.mono ?_; rintro e w2 ⟨g, rfl, hg, HBK, HB2⟩) | (go_at_call 48; refine same_call (equal6 _ _ _ _ _ _ PB l _ (HBK.out.sl HPL.out HPWF.out hnr) (HS.out.on (Nat.le_refl _) (bl_go HB1.out (Nat.le_refl _) HB2.out))) ?_; rw [hd]))
      go_ret2
      refine ⟨some ⟨a, 0, none⟩, 0, rfl, hidden (bl_go HB1.out (Nat.le_refl _) HB2.out), hidden (.inr ⟨a, bo, bn, bc, so, sn, sc, cs, rfl, rfl, HAL.out, ?_, HI.out.2.2.2.2, HPG.out.on HB2.out⟩)⟩
      refine (is_iff HS.out.wf cs).2 ⟨HRM.out, ?_⟩
      rw [HLEN.out, HPB.out]
      exact hpl
    | false =>
      have hpl : ¬ PB = l := by simpa using hd
      have HNO : Hid (¬ ∃ cs, Is (l.getD 0 0) l.length cs l) := hidden (by
        rintro ⟨ds, h⟩
        obtain ⟨h1, h2⟩ := (is_iff HS.out.wf ds).1 h
        rw [HRM.out] at h1
        injection h1 with h1
        subst h1
        rw [HLEN.out, HPB.out] at h2
        exact hpl h2)
      go_wp2_with (first | (go_at_call 23; refine HBY.out.mono ?_; rintro e w2 ⟨g, rfl, hg, HBK, HB2⟩) | (go_at_call 48; refine same_call (equal6 _ _ _ _ _ _ PB l _ (HBK.out.sl HPL.out HPWF.out hnr) (HS.out.on (Nat.le_refl _) (bl_go HB1.out (Nat.le_refl _) HB2.out))) ?_; rw [hd]))
      go_ret2
      exact ⟨none, 60, rfl, hidden (bl_go HB1.out (Nat.le_refl _) HB2.out), hidden (.inl ⟨rfl, rfl, HNO.out⟩)⟩

/-- What New comes to. -/
def NewTo (k n : Int) (w : World) (e : Ending) (w' : World) : Prop :=
  ∃ po c, e = .returned (.tuple #[.pointer po, .int .i64 c]) ∧ Hid (Below w.heap.size w w') ∧ Hid ((po = none ∧ c = 1 ∧ ¬ (isKd k ∧ pw n)) ∨ (po = some ⟨w.heap.size, 0, none⟩ ∧ c = 0 ∧ isKd k ∧ pw n ∧ w'.heap[w.heap.size]? = some (.cells #[.int .i64 k, .int .i64 n, .slice none 0 0, .slice none 0 0] 75 (0, 0))))
set_option maxRecDepth 100000 in
theorem new_any (k n : Int) (w : World) : Calls Tryd.prog 30 #[.int .i64 k, .int .i64 n] w fun e w' => NewTo k n w e w' := by
  cases h1 : decide (isKd k) with
  | false =>
    have hk : ¬ isKd k := by simpa using h1
    go_enter Tryd.func30, Tryd.ntmps30
    go_wp2_with (first | (go_at_call 59; refine same_call (isKind_any _ _) ?_; rw [h1]))
    go_ret2
    exact ⟨none, 1, rfl, Below.refl _ _, .inl ⟨rfl, rfl, fun h => hk h.1⟩⟩
  | true =>
    have hk : isKd k := by simpa using h1
    cases h2 : decide (pw n) with
    | false =>
      have hn : ¬ pw n := by simpa using h2
      have HN := hidden hn
      have HK := hidden hk
      clear hn hk
      go_enter Tryd.func30, Tryd.ntmps30
      go_wp2_with (first | (go_at_call 59; refine same_call (isKind_any _ _) ?_; rw [h1]) | (go_at_call 60; refine same_call (isSize_any _ _) ?_; rw [h2]))
      go_ret2
      exact ⟨none, 1, rfl, Below.refl _ _, .inl ⟨rfl, rfl, fun h => HN.out h.2⟩⟩
    | true =>
      have hn : pw n := by simpa using h2
      have HN := hidden hn
      have HK := hidden hk
      clear hn hk
      go_enter Tryd.func30, Tryd.ntmps30
      go_wp2_with (first | (go_at_call 59; refine same_call (isKind_any _ _) ?_; rw [h1]) | (go_at_call 60; refine same_call (isSize_any _ _) ?_; rw [h2]))
      go_ret2
      exact ⟨_, 0, rfl, (Below.refl _ _).alloc (Nat.le_refl _) _, .inr ⟨rfl, rfl, HK.out, HN.out, heap_alloc_last w _⟩⟩
end Go.Proofs.YtchenbogbmahaaaDoor
