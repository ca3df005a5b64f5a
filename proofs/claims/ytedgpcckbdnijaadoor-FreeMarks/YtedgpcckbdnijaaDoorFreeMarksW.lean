/- The walk of the law FreeMarks. -/
import Derived.Test.YtedgpcckbdnijaaDoorJy
namespace Go.Proofs.YtedgpcckbdnijaaDoor
open Go.RowKit Go.Maps

/-- An op in a block of its own. -/
def Oq (u : World) (o : Nat) (kd A B : Int) : Prop := u.heap[o]? = some (.cells #[.int .i64 kd, .int .i64 A, .int .i64 B] 38 (0, 0))
set_option maxRecDepth 100000 in
theorem Oq.cells {u : World} {o : Nat} {kd A B : Int} (h : Oq u o kd A B) : u.cell? ⟨o, 0, none⟩ = some (.int .i64 kd) ∧ u.cell? ⟨o, 1, none⟩ = some (.int .i64 A) ∧ u.cell? ⟨o, 2, none⟩ = some (.int .i64 B) := by
  unfold Oq at h
  unfold World.cell?
  refine ⟨?_, ?_, ?_⟩ <;> (rw [h]; rfl)
set_option maxRecDepth 100000 in
theorem Oq.cf {u v : World} {o : Nat} {kd A B : Int} {F : Nat → Prop} (h : Oq u o kd A B) (hc : Cf F u v) (hf : ¬ F o) : Oq v o kd A B := (hc.block o (lt_some h) hf).trans h
/-- Two lists, apart. -/
structure Ti (w : World) (S bl ml bm mm : Nat) (u : World) (mv : Value) (last : Int) (K Km : Int → Option Int) (M : List Mq) : Prop where
  l : Fl u bl ml mv last K M
  m : Fl u bm mm (.slice none 0 0) 0 Km []
  bel : Below w.heap.size w u
  own : ∀ k, Fb bl ml mv M k → k = bl ∨ k = ml ∨ S ≤ k
  hS : S ≤ u.heap.size
  c : (w.heap.size ≤ bl ∧ w.heap.size ≤ ml ∧ w.heap.size ≤ bm ∧ w.heap.size ≤ mm ∧ w.heap.size ≤ S) ∧ (bl < S ∧ ml < S ∧ bm < S ∧ mm < S) ∧ bl ≠ bm ∧ bl ≠ mm ∧ ml ≠ bm ∧ ml ≠ mm
section
variable {w u v : World} {S bl ml bm mm : Nat} {mv mv' : Value} {last last' : Int} {K Km K' : Int → Option Int} {M M' : List Mq}
set_option maxRecDepth 100000 in
theorem Ti.on (h : Ti w S bl ml bm mm u mv last K Km M) (hb : Below u.heap.size u v) : Ti w S bl ml bm mm v mv last K Km M :=
  ⟨h.l.on hb, h.m.on hb, h.bel.trans (hb.mono h.bel.size), h.own, Nat.le_trans h.hS hb.size, h.c⟩
set_option maxRecDepth 100000 in
theorem Ti.stepl (h : Ti w S bl ml bm mm u mv last K Km M) (hf : Fl v bl ml mv' last' K' M') (hc : Cf (Fb bl ml mv M) u v) (ho : ∀ k, Fb bl ml mv' M' k → k = bl ∨ k = ml ∨ S ≤ k) : Ti w S bl ml bm mm v mv' last' K' Km M' := by
  have c := h.c
  refine ⟨hf, h.m.cf hc (fun k hk e => ?_), h.bel.trans (hc.below h.bel.size (fun k hk e => ?_)), ho, Nat.le_trans h.hS hc.size, h.c⟩
  · have h1 := h.own k e
    rcases Fb_none hk with rfl | rfl <;> omega
  · have h1 := h.own k e
    omega
set_option maxRecDepth 100000 in
theorem Ti.stepm (h : Ti w S bl ml bm mm u mv last K Km M) (hf : Fl v bm mm (.slice none 0 0) 0 K' []) (hc : Cf (Fb bm mm (.slice none 0 0) []) u v) : Ti w S bl ml bm mm v mv last K K' M := by
  have c := h.c
  refine ⟨h.l.cf hc (fun k hk e => ?_), hf, h.bel.trans (hc.below h.bel.size (fun k hk e => ?_)), h.own, Nat.le_trans h.hS hc.size, h.c⟩
  · have h1 := h.own k hk
    rcases Fb_none e with rfl | rfl <;> omega
  · rcases Fb_none e with rfl | rfl <;> omega
set_option maxRecDepth 100000 in
theorem Ti.nl (h : Ti w S bl ml bm mm u mv last K Km M) {o : Nat} (ho : u.heap.size ≤ o) : ¬ Fb bl ml mv M o ∧ ¬ Fb bm mm (.slice none 0 0) [] o :=
  ⟨fun e => by have := h.l.lts e; omega, fun e => by have := h.m.lts e; omega⟩
set_option maxRecDepth 100000 in
/-- A call that is no Mark, at both. -/
theorem Ti.actl (h : Ti w S bl ml bm mm u mv last K Km M) {kd A B : Int} (ha : AcTo u bl ml mv last K M kd A B v) : Ti w S bl ml bm mm v mv last (actK K kd A B) Km (actM K M kd A B) :=
  h.stepl ha.1 ha.2 (fun k hk => h.own k (Fb_map (nb_b (actM_nb K M kd A B)) hk))
set_option maxRecDepth 100000 in
theorem Ti.actm (h : Ti w S bl ml bm mm u mv last K Km M) {kd A B : Int} (ha : AcTo u bm mm (.slice none 0 0) 0 Km [] kd A B v) : Ti w S bl ml bm mm v mv last K (actK Km kd A B) M := by
  have h1 := ha.1
  rw [actM_nil] at h1
  exact h.stepm h1 ha.2
set_option maxRecDepth 100000 in
theorem Ti.mark (h : Ti w S bl ml bm mm u mv last K Km M) {r : Nat} (ha : MkTo u bl ml mv last K M r v) : ∃ mv' bq, Ti w S bl ml bm mm v mv' (last + 1) K Km (M.drop r ++ [⟨last + 1, bq, fun _ => none⟩]) := by
  obtain ⟨mv', bq, a1, a2, a3, a4⟩ := ha
  have hS := h.hS
  refine ⟨mv', bq, h.stepl a1 a2 (fun k hk => ?_)⟩
  rcases hk with e | e | e | ⟨q, hq, e⟩
  · exact .inl e
  · exact .inr (.inl e)
  · rcases a4 k e with e | e
    · exact h.own k (.inr (.inr (.inl e)))
    · exact .inr (.inr (by omega))
  · rcases List.mem_append.1 hq with hq | hq
    · exact h.own k (.inr (.inr (.inr ⟨q, List.mem_of_mem_drop hq, e⟩)))
    · simp only [List.mem_singleton] at hq
      subst hq
      exact .inr (.inr (by simp only at e; omega))
end
/-- The marks behind the first one and c more. -/
def Mk (c : Nat) (M : List Mq) : Prop := M.length = min (c + 1) 16 ∧ ∀ (i : Nat) (q : Mq), M[i]? = some q → q.n = (c : Int) + 2 - (M.length : Int) + (i : Int)
set_option maxRecDepth 100000 in
theorem Mk.same {c : Nat} {M M' : List Mq} (h : Mk c M) (e : M'.map nb = M.map nb) : Mk c M' := by
  have hl := nb_len e
  refine ⟨by rw [hl]; exact h.1, fun i q hq => ?_⟩
  have h1 : (M.map nb)[i]? = some (nb q) := by rw [← e, List.getElem?_map, hq]; rfl
  rw [List.getElem?_map] at h1
  cases h2 : M[i]? with
  | none => rw [h2] at h1; cases h1
  | some p =>
    rw [h2] at h1
    injection h1 with h1
    have h3 : p.n = q.n := congrArg Prod.fst h1
    rw [hl, ← h3]
    exact h.2 i p h2
set_option maxRecDepth 100000 in
theorem Mk.nums {c : Nat} {M : List Mq} (h : Mk c M) (hc : c ≤ 10000000000000) : Nums ((c : Int) + 1) M := by
  refine ⟨by omega, by omega, fun q hq => ?_⟩
  obtain ⟨i, hi⟩ := List.getElem?_of_mem hq
  have h1 := h.2 i q hi
  have h2 := (List.getElem?_eq_some_iff.1 hi).1
  have h3 := h.1
  omega
set_option maxRecDepth 100000 in
theorem Mk.ne {c : Nat} {M : List Mq} (h : Mk c M) : M ≠ [] := by
  rintro rfl
  have := h.1
  simp at this
  omega
set_option maxRecDepth 100000 in
/-- One mark more. -/
theorem Mk.next {c : Nat} {M : List Mq} (h : Mk c M) (b : Nat) (B : Int → Option Int) : Mk (c + 1) (M.drop (if c + 1 < 16 then 0 else 1) ++ [⟨(c : Int) + 1 + 1, b, B⟩]) := by
  have h3 := h.1
  constructor
  · rw [List.length_append, List.length_drop]
    simp only [List.length_singleton]
    split <;> omega
  · intro i q hq
    rw [List.length_append, List.length_drop]
    simp only [List.length_singleton]
    have hil := (List.getElem?_eq_some_iff.1 hq).1
    rw [List.length_append, List.length_drop] at hil
    simp only [List.length_singleton] at hil
    by_cases hi : i < M.length - (if c + 1 < 16 then 0 else 1)
    · rw [List.getElem?_append_left (by rw [List.length_drop]; exact hi), List.getElem?_drop] at hq
      have := h.2 _ q hq
      split at hi <;> rename_i hc
      · rw [if_pos hc] at this ⊢
        omega
      · rw [if_neg hc] at this ⊢
        omega
    · rw [List.getElem?_append_right (by rw [List.length_drop]; omega), List.length_drop] at hq
      have e : i - (M.length - (if c + 1 < 16 then 0 else 1)) = 0 := by omega
      rw [e] at hq
      simp at hq
      subst hq
      simp only
      split at hi <;> rename_i hc
      · rw [if_pos hc] at hil ⊢
        omega
      · rw [if_neg hc] at hil ⊢
        omega
set_option maxRecDepth 100000 in
theorem Mk.old {c : Nat} {M : List Mq} (h : Mk c M) : (if c + 1 < 16 then 0 else 1) ≤ M.length ∧ (∀ (i : Nat) (q : Mq), i < (if c + 1 < 16 then 0 else 1) → M[i]? = some q → 16 ≤ (c : Int) + 1 + 1 - q.n) ∧ (∀ (i : Nat) (q : Mq), (if c + 1 < 16 then 0 else 1) ≤ i → M[i]? = some q → (c : Int) + 1 + 1 - q.n < 16) := by
  have h3 := h.1
  refine ⟨by split <;> omega, fun i q hi hq => ?_, fun i q hi hq => ?_⟩
  · have := h.2 i q hq
    split at hi <;> omega
  · have := h.2 i q hq
    have := (List.getElem?_eq_some_iff.1 hq).1
    split at hi <;> omega
set_option maxRecDepth 100000 in
theorem undo_mark {M : List Mq} {K : Int → Option Int} (n : Int) (b : Nat) : undo (M ++ [⟨n, b, fun _ => none⟩]) K = undo M K := by
  rw [undo_snoc]
  rfl
set_option maxRecDepth 100000 in
theorem Mk.first {c : Nat} {M : List Mq} (h : Mk c M) (hc : c < 16) : ∃ q R, M = q :: R ∧ q.n = 1 := by
  cases M with
  | nil => exact absurd rfl h.ne
  | cons q R =>
    have := h.2 0 q rfl
    have := h.1
    exact ⟨q, R, rfl, by omega⟩
set_option maxRecDepth 100000 in
theorem Mk.gone {c : Nat} {M : List Mq} (h : Mk c M) (hc : 16 ≤ c) : fdI (fun q' => q'.n == 1) M = -1 := fdI_none (fun j x hx => by
  have := h.2 j x hx
  have := h.1
  have h2 : x.n ≠ 1 := by omega
  simpa using h2)
set_option maxRecDepth 100000 in
theorem kL_small {K : Int → Option Int} (hK : Pgs K) (f : Int → Bool) : ∀ x ∈ kL K f, -9223372036854775808 ≤ x ∧ x ≤ 9223372036854775807 := fun x hx => by
  obtain ⟨s, h1, _⟩ := (kL_mem hK f x).1 hx
  have := hK x s h1
  omega
set_option maxRecDepth 100000 in
set_option maxHeartbeats 16000000 in
theorem walk_FreeMarks (ao : Option Addr) (n cap : Nat) (l : List Int) (ao1 : Option Addr) (n1 cap1 : Nat) (l1 : List (Int × Int × Int)) (ao2 : Option Addr) (n2 cap2 : Nat) (l2 : List (Int × Int × Int)) (ao3 : Option Addr) (n3 cap3 : Nat) (l3 : List (Int × Int × Int)) (w : World) (ht : Tab w) (hz : Tz w) (h0 : 1 < w.heap.size) (hs : SlZ w ao n cap l) (hs1 : SlO w ao1 n1 l1) (hs2 : SlO w ao2 n2 l2) (hs3 : SlO w ao3 n3 l3) :
    Calls Tryd.prog 4 #[.slice ao n cap, .slice ao1 n1 cap1, .slice ao2 n2 cap2, .slice ao3 n3 cap3] w fun e u => e = .returned (.bool true) ∧ Below w.heap.size w u := by
  have HLV := hidden (live_any w ht hz h0)
  have HTZ : Hid (∀ u, Below w.heap.size w u → Tz u) := hidden (fun u hu j hj => (hu.cell (p := ⟨0, j, none⟩) (World.block_lt_of_cell? w _ (hz j hj))).trans (hz j hj))
  have HS := hidden hs
  have HS1 := hidden hs1
  have HS2 := hidden hs2
  have HS3 := hidden hs3
  have hb1 := hs1.hbig
  have hb2 := hs2.hbig
  have hb3 := hs3.hbig
  clear ht hz hs hs1 hs2 hs3
  go_enter Tryd.func4, Tryd.ntmps4
  go_wp2_with (go_at_call 5; refine HLV.out.mono ?_; rintro e w1 ⟨rfl, HB1⟩; refine Hid.out ?_)
  apply hidden
  have HN1 := hidden (new_any w1 ao n cap l (HS.out.on (Nat.le_refl _) HB1.out))
  obtain ⟨E, hE⟩ : ∃ E, newE l = E := ⟨_, rfl⟩
  rw [hE] at HN1
  clear HLV
  go_wp2_with (go_at_call 6; refine HN1.out.mono ?_; rintro e w2 ⟨p, rfl, HQ⟩; refine Hid.out ?_)
  apply hidden
  have HB2 := hidden (bl_go HB1.out (Nat.le_refl _) HQ.out.1)
  have HN2 := hidden (new_any w2 ao n cap l (HS.out.on (Nat.le_refl _) HB2.out))
  rw [hE] at HN2
  clear HN1
  go_wp2_with (go_at_call 6; refine HN2.out.mono ?_; rintro e w3 ⟨p2, rfl, HQ2⟩; refine Hid.out ?_)
  apply hidden
  have HB3 := hidden (bl_go HB2.out (Nat.le_refl _) HQ2.out.1)
  clear HN2
  have eE : (E == E) = true := by simp
  by_cases hE0 : E = 0
  case neg =>
    obtain rfl : p = none := by
      rcases HQ.out.2 with ⟨e, _⟩ | ⟨_, e⟩
      · exact absurd e hE0
      · exact e
    obtain rfl : p2 = none := by
      rcases HQ2.out.2 with ⟨e, _⟩ | ⟨_, e⟩
      · exact absurd e hE0
      · exact e
    clear HQ HQ2 hE
    go_wp2_with fail
    go_ret
    exact ⟨rfl, HB3.out⟩
  subst hE0
  obtain ⟨bl, ml, rfl, hbl, hml, hfl⟩ : ∃ b m, p = some ⟨b, 0, none⟩ ∧ w1.heap.size ≤ b ∧ w1.heap.size ≤ m ∧ Fl w2 b m (.slice none 0 0) 0 (KL l) [] := by
    rcases HQ.out.2 with ⟨_, e⟩ | ⟨e, _⟩
    · exact e
    · exact absurd rfl e
  obtain ⟨bm, mm, rfl, hbm, hmm, hfm⟩ : ∃ b m, p2 = some ⟨b, 0, none⟩ ∧ w2.heap.size ≤ b ∧ w2.heap.size ≤ m ∧ Fl w3 b m (.slice none 0 0) 0 (KL l) [] := by
    rcases HQ2.out.2 with ⟨_, e⟩ | ⟨e, _⟩
    · exact e
    · exact absurd rfl e
  obtain ⟨S, hS⟩ : ∃ S, w3.heap.size = S := ⟨_, rfl⟩
  have HT0 : Hid (Ti w S bl ml bm mm w3 (.slice none 0 0) 0 (KL l) (KL l) []) := hidden (by
    have a1 := hfl.fs.lt
    have a2 := hfl.fs.mlt
    have a3 := hfm.fs.lt
    have a4 := hfm.fs.mlt
    have a5 := HB1.out.size
    have a6 := HB2.out.size
    have a7 := HQ2.out.1.size
    refine ⟨hfl.on HQ2.out.1, hfm, HB3.out, fun k hk => ?_, by omega, by omega⟩
    rcases Fb_none hk with e | e
    · exact .inl e
    · exact .inr (.inl e))
  clear hfl hfm HQ HQ2 hbl hml hbm hmm hS HB1 HB2 HB3 hE HS
  go_wp2_with fail
  go_loopw [14, 15] (fun i _ wr => ∃ k : Nat, k ≤ n1 ∧ i = .int .i64 (k : Int) ∧ Hid (∃ K, Ti w S bl ml bm mm wr (.slice none 0 0) 0 K K [])) (fun i _ _ => n1 - (RowKit.intOf i).toNat)
  case atStart => exact ⟨0, by omega, rfl, hidden ⟨_, HT0.out⟩⟩
  case round =>
    obtain ⟨k, hk, rfl, HT⟩ := hrel
    clear HT0
    obtain ⟨K, hT⟩ := HT.out
    have HT1 := hidden hT
    clear HT hT
    by_cases hlt : k < n1
    · have hltI : (k : Int) < (n1 : Int) := by omega
      obtain ⟨ob, off, kd, A, B, rfl, c0, c1, c2, hA, hB⟩ := HS1.out.at HT1.out.bel hlt
      obtain ⟨y, hy⟩ : ∃ y, wr.alloc (.cells #[.int .i64 kd, .int .i64 A, .int .i64 B] 38) = y := ⟨_, rfl⟩
      have hby : Below wr.heap.size wr y := by rw [← hy]; exact bl_al (Below.refl _ _) (Nat.le_refl _) _
      have HOY : Hid (Oq y wr.heap.size kd A B) := hidden (by unfold Oq; rw [← hy]; exact al_row _ _)
      have HTY := hidden (HT1.out.on hby)
      have HNF := hidden (HT1.out.nl (Nat.le_refl _))
      obtain ⟨o, ho⟩ : ∃ o, wr.heap.size = o := ⟨_, rfl⟩
      rw [ho] at HOY HNF
      obtain ⟨k0, k1, k2⟩ := HOY.out.cells
      clear hby hA hB
      by_cases h7 : kd < 7
      · have h7b : decide (kd < 7) = true := by simpa using h7
        have hne : kd ≠ 7 := by omega
        have HA1 := hidden (act_any HTY.out.l (HTZ.out _ HTY.out.bel) kd A B hne)
        clear h7
        go_wp2_with (go_at_call 10; refine HA1.out.mono ?_; rintro e u1 ⟨rfl, HU1⟩; refine Hid.out ?_)
        apply hidden
        have HT2 := hidden (HTY.out.actl HU1.out)
        rw [actM_nil] at HT2
        have HO1 := hidden (HOY.out.cf HU1.out.2 HNF.out.1)
        obtain ⟨q0, q1, q2⟩ := HO1.out.cells
        have HA2 := hidden (act_any HT2.out.m (HTZ.out _ HT2.out.bel) kd A B hne)
        clear HA1 HU1 k0 k1 k2 hne
        go_wp2_with (go_at_call 10; refine HA2.out.mono ?_; rintro e u2 ⟨rfl, HU2⟩; refine Hid.out ?_)
        apply hidden
        have HT3 := hidden (HT2.out.actm HU2.out)
        clear HA2 HU2 HT2 HO1
        go_wp2_with fail
        go_roundw
        case rel => exact ⟨k + 1, by omega, by go_num, hidden ⟨_, HT3.out⟩⟩
        case measure => simp [RowKit.intOf]; omega
      · have h7b : decide (kd < 7) = false := by simp; omega
        clear h7
        go_wp2_with fail
        go_roundw
        case rel => exact ⟨k + 1, by omega, by go_num, hidden ⟨_, HTY.out⟩⟩
        case measure => simp [RowKit.intOf]; omega
    · obtain rfl : k = n1 := by omega
      have HMK := hidden (mark_any HT1.out.l ⟨by omega, by omega, fun q hq => by cases hq⟩ (by omega) 0 (Nat.le_refl _) (fun i q hi => by omega) (fun i q _ hq => by simp at hq) (by simp))
      clear hlt
      go_wp2_with (go_at_call 11; refine HMK.out.mono ?_; rintro e u1 ⟨rfl, HU1⟩; refine Hid.out ?_)
      apply hidden
      obtain ⟨mv1, bq, hT2⟩ := HT1.out.mark (r := 0) HU1.out
      have HT2 : Hid (∃ mv K' M, Ti w S bl ml bm mm u1 mv (((0 : Nat) : Int) + 1) K' K M ∧ Mk 0 M ∧ ((0 : Nat) < 16 → undo M K' = K)) := hidden ⟨mv1, K, _, hT2, ⟨rfl, fun i q hq => by
        match i, hq with
        | 0, hq => simp at hq; subst hq; rfl
        | i + 1, hq => simp at hq⟩, fun _ => undo_mark (M := []) _ _⟩
      clear hT2 HU1 HMK HT1 HS1
      go_wp2_with fail
      go_loopw [17, 18, 19] (fun nn i _ wr => ∃ k c : Nat, k ≤ n2 ∧ c ≤ k ∧ i = .int .i64 (k : Int) ∧ nn = .int .i64 (c : Int) ∧ Hid (∃ mv K' M, Ti w S bl ml bm mm wr mv ((c : Int) + 1) K' K M ∧ Mk c M ∧ (c < 16 → undo M K' = K))) (fun _ i _ _ => n2 - (RowKit.intOf i).toNat)
      case atStart => exact ⟨0, 0, by omega, by omega, rfl, rfl, HT2⟩
      case round =>
        obtain ⟨k, c, hk, hck, rfl, rfl, HT⟩ := hrel
        clear HT2
        obtain ⟨mv, K', M, hT, hMk, hU⟩ := HT.out
        have HT1 := hidden hT
        have HMk := hidden hMk
        have HU := hidden hU
        clear HT hT hMk hU
        by_cases hlt : k < n2
        · have hltI : (k : Int) < (n2 : Int) := by omega
          obtain ⟨ob, off, kd, A, B, rfl, c0, c1, c2, hA, hB⟩ := HS2.out.at HT1.out.bel hlt
          obtain ⟨y, hy⟩ : ∃ y, wr.alloc (.cells #[.int .i64 kd, .int .i64 A, .int .i64 B] 38) = y := ⟨_, rfl⟩
          have hby : Below wr.heap.size wr y := by rw [← hy]; exact bl_al (Below.refl _ _) (Nat.le_refl _) _
          have HOY : Hid (Oq y wr.heap.size kd A B) := hidden (by unfold Oq; rw [← hy]; exact al_row _ _)
          have HTY := hidden (HT1.out.on hby)
          have HNF := hidden (HT1.out.nl (Nat.le_refl _))
          obtain ⟨o, ho⟩ : ∃ o, wr.heap.size = o := ⟨_, rfl⟩
          rw [ho] at HOY HNF
          obtain ⟨k0, k1, k2⟩ := HOY.out.cells
          have hcI : (c : Int) ≤ 5864062014806 := by omega
          clear hby hA hB
          by_cases h7 : kd = 7
          · subst h7
            have ho3 := HMk.out.old
            have HA1 := hidden (act_mark HTY.out.l A B (HMk.out.nums (by omega)) (by omega) _ ho3.1 ho3.2.1 ho3.2.2 (by have := HMk.out.1; omega))
            clear ho3
            go_wp2_with (go_at_call 10; refine HA1.out.mono ?_; rintro e u1 ⟨rfl, HU1⟩; refine Hid.out ?_)
            apply hidden
            obtain ⟨mv2, bq2, hT2⟩ := HTY.out.mark HU1.out
            have HT2 : Hid (∃ mv K' M, Ti w S bl ml bm mm u1 mv (((c + 1 : Nat) : Int) + 1) K' K M ∧ Mk (c + 1) M ∧ (c + 1 < 16 → undo M K' = K)) := hidden ⟨mv2, K', _, by simpa using hT2, HMk.out.next bq2 _, fun hc => by rw [undo_mark, if_pos hc]; exact HU.out (by omega)⟩
            obtain ⟨mvo, _, _, _, _⟩ := HU1.out
            have HO1 : Hid (Oq u1 o 7 A B) := hidden (by
              obtain ⟨_, _, _, a2, _, _⟩ := HU1.out
              exact HOY.out.cf a2 HNF.out.1)
            obtain ⟨q0, q1, q2⟩ := HO1.out.cells
            clear hT2 HU1 HA1 k0 k1 k2
            go_wp2_with fail
            go_roundw
            case rel => exact ⟨k + 1, c + 1, by omega, by omega, by go_num, by go_num, HT2⟩
            case measure => simp [RowKit.intOf]; omega
          · have h7b : (kd == 7) = false := by rw [beq_eq_false_iff_ne]; exact h7
            have HA1 := hidden (act_any HTY.out.l (HTZ.out _ HTY.out.bel) kd A B h7)
            go_wp2_with (go_at_call 10; refine HA1.out.mono ?_; rintro e u1 ⟨rfl, HU1⟩; refine Hid.out ?_)
            apply hidden
            have HT2 : Hid (∃ mv K' M, Ti w S bl ml bm mm u1 mv ((c : Int) + 1) K' K M ∧ Mk c M ∧ (c < 16 → undo M K' = K)) := hidden ⟨mv, _, _, HTY.out.actl HU1.out, HMk.out.same (actM_nb K' M kd A B), fun hc => by rw [undo_act HT1.out.l.fs.vals HT1.out.l.fs.kept.2 HMk.out.ne]; exact HU.out hc⟩
            have HO1 := hidden (HOY.out.cf HU1.out.2 HNF.out.1)
            obtain ⟨q0, q1, q2⟩ := HO1.out.cells
            clear HU1 HA1 k0 k1 k2
            go_wp2_with fail
            go_roundw
            case rel => exact ⟨k + 1, c, by omega, by omega, by go_num, rfl, HT2⟩
            case measure => simp [RowKit.intOf]; omega
        · obtain rfl : k = n2 := by omega
          clear hlt
          by_cases hc16 : 16 ≤ c
          · have hcI : (16 : Int) ≤ (c : Int) := by omega
            have HBN := hidden (back_no HT1.out.l 1 (HMk.out.gone hc16))
            go_wp2_with (go_at_call 12; refine HBN.out.mono ?_; rintro e u1 ⟨rfl, HB⟩)
            go_ret
            exact ⟨rfl, HT1.out.bel.trans (HB.out.mono HT1.out.bel.size)⟩
          · have hcI : ¬ (16 : Int) ≤ (c : Int) := by omega
            have hcd : decide ((16 : Int) ≤ (c : Int)) = false := by simp; omega
            obtain ⟨q, R, rfl, hq1⟩ := HMk.out.first (by omega)
            have HBK := hidden (back_any (N := []) HT1.out.l (fun x hx => by cases hx))
            rw [hq1] at HBK
            have HUN := hidden (HU.out (by omega))
            rw [HUN.out] at HBK
            clear HU HUN hc16
            go_wp2_with (go_at_call 12; refine HBK.out.mono ?_; rintro e u1 ⟨rfl, HB⟩; refine Hid.out ?_)
            apply hidden
            obtain ⟨mv2, hmo, hf2, hc2⟩ := HB.out
            have HT3 : Hid (∃ K3 M3, Ti w S bl ml bm mm u1 mv2 ((c : Int) + 1) K3 K3 M3 ∧ M3.map nb = [nb q]) := hidden ⟨K, [clr q], HT1.out.stepl hf2 hc2 (fun k hk => HT1.out.own k (by
              rcases hk with e | e | e | ⟨p, hp, e⟩
              · exact .inl e
              · exact .inr (.inl e)
              · exact .inr (.inr (.inl (by rw [← hmo]; exact e)))
              · simp only [List.mem_singleton] at hp
                subst hp
                exact .inr (.inr (.inr ⟨q, by simp, e⟩)))), rfl⟩
            have HQ1 := hidden hq1
            clear hmo hf2 hc2 HB HBK HT1 HMk HS2 hq1
            go_wp2_with fail
            go_loopw [21, 22, 23, 24] (fun i _ _ _ wr => ∃ k : Nat, k ≤ n3 ∧ i = .int .i64 (k : Int) ∧ Hid (∃ K3 M3, Ti w S bl ml bm mm wr mv2 ((c : Int) + 1) K3 K3 M3 ∧ M3.map nb = [nb q])) (fun i _ _ _ _ => n3 - (RowKit.intOf i).toNat)
            case atStart => exact ⟨0, by omega, rfl, HT3⟩
            case round =>
              obtain ⟨k, hk, rfl, HT⟩ := hrel
              clear HT3
              obtain ⟨K3, M3, hT, hM3⟩ := HT.out
              have HT1 := hidden hT
              have HM3 := hidden hM3
              clear HT hT hM3
              by_cases hlt : k < n3
              · have hltI : (k : Int) < (n3 : Int) := by omega
                obtain ⟨ob, off, kd, A, B, rfl, c0, c1, c2, hA, hB⟩ := HS3.out.at HT1.out.bel hlt
                obtain ⟨y, hy⟩ : ∃ y, wr.alloc (.cells #[.int .i64 kd, .int .i64 A, .int .i64 B] 38) = y := ⟨_, rfl⟩
                have hby : Below wr.heap.size wr y := by rw [← hy]; exact bl_al (Below.refl _ _) (Nat.le_refl _) _
                have HOY : Hid (Oq y wr.heap.size kd A B) := hidden (by unfold Oq; rw [← hy]; exact al_row _ _)
                have HTY := hidden (HT1.out.on hby)
                have HNF := hidden (HT1.out.nl (Nat.le_refl _))
                obtain ⟨o, ho⟩ : ∃ o, wr.heap.size = o := ⟨_, rfl⟩
                rw [ho] at HOY HNF
                obtain ⟨k0, k1, k2⟩ := HOY.out.cells
                clear hby hA hB
                by_cases h7 : kd < 7
                · have h7b : decide (kd < 7) = true := by simpa using h7
                  have hne : kd ≠ 7 := by omega
                  have HA1 := hidden (act_any HTY.out.l (HTZ.out _ HTY.out.bel) kd A B hne)
                  clear h7
                  obtain ⟨R1, hR1⟩ : ∃ R1, actR K3 kd A B = R1 := ⟨_, rfl⟩
                  rw [hR1] at HA1
                  go_wp2_with (go_at_call 10; refine HA1.out.mono ?_; rintro e u1 ⟨rfl, HU1⟩; refine Hid.out ?_)
                  apply hidden
                  have HT2 := hidden (HTY.out.actl HU1.out)
                  have HO1 := hidden (HOY.out.cf HU1.out.2 HNF.out.1)
                  obtain ⟨q0, q1, q2⟩ := HO1.out.cells
                  have HA2 := hidden (act_any HT2.out.m (HTZ.out _ HT2.out.bel) kd A B hne)
                  rw [hR1] at HA2
                  have eR : (R1 == R1) = true := by simp
                  clear HA1 HU1 k0 k1 k2 hne hR1
                  go_wp2_with (go_at_call 10; refine HA2.out.mono ?_; rintro e u2 ⟨rfl, HU2⟩; refine Hid.out ?_)
                  apply hidden
                  have HT4 : Hid (∃ K3 M3, Ti w S bl ml bm mm u2 mv2 ((c : Int) + 1) K3 K3 M3 ∧ M3.map nb = [nb q]) := hidden ⟨_, _, HT2.out.actm HU2.out, by rw [actM_nb]; exact HM3.out⟩
                  clear HA2 HU2 HT2 HO1
                  go_wp2_with fail
                  go_roundw
                  case rel => exact ⟨k + 1, by omega, by go_num, HT4⟩
                  case measure => simp [RowKit.intOf]; omega
                · have h7b : decide (kd < 7) = false := by simp; omega
                  clear h7
                  go_wp2_with fail
                  go_roundw
                  case rel => exact ⟨k + 1, by omega, by go_num, hidden ⟨_, _, HTY.out, HM3.out⟩⟩
                  case measure => simp [RowKit.intOf]; omega
              · obtain rfl : k = n3 := by omega
                clear hlt HS3
                have HF1 := hidden (free_any HT1.out.l.fs)
                have HSM1 := hidden (kL_small HT1.out.l.fs.kept.2 (· == 0))
                have HSM2 := hidden (kL_small HT1.out.l.fs.kept.2 (fun s => decide (0 < s)))
                have HL1 := hidden (kL_len K3 (· == 0))
                have HL2 := hidden (kL_len K3 (fun s => decide (0 < s)))
                obtain ⟨LF, hLF⟩ : ∃ LF, kL K3 (· == 0) = LF := ⟨_, rfl⟩
                obtain ⟨LW, hLW⟩ : ∃ LW, kL K3 (fun s => decide (0 < s)) = LW := ⟨_, rfl⟩
                rw [hLF] at HF1 HSM1 HL1
                rw [hLW] at HSM2 HL2
                go_wp2_with (go_at_call 13; refine HF1.out.mono ?_; rintro e u1 ⟨v1, rfl, HO1, HBa⟩; refine Hid.out ?_)
                apply hidden
                have HTa := hidden (HT1.out.on HBa.out)
                obtain ⟨a1, d1, rfl, hs1⟩ := HO1.out.slz HL1.out HSM1.out
                have HSa := hidden hs1
                have HF2 := hidden (free_any HTa.out.m.fs)
                rw [hLF] at HF2
                clear hs1 HF1 HO1 HT1
                go_wp2_with (go_at_call 13; refine HF2.out.mono ?_; rintro e u2 ⟨v2, rfl, HO2, HBb⟩; refine Hid.out ?_)
                apply hidden
                have HTb := hidden (HTa.out.on HBb.out)
                obtain ⟨a2, d2, rfl, hs2⟩ := HO2.out.slz HL1.out HSM1.out
                have HSb := hidden hs2
                have HSa2 := hidden (HSa.out.on (Nat.le_refl _) HBb.out)
                have HF3 := hidden (waiting_any HTb.out.l.fs)
                rw [hLW] at HF3
                clear hs2 HF2 HO2 HTa HSa HBa
                go_wp2_with (go_at_call 14; refine HF3.out.mono ?_; rintro e u3 ⟨v3, rfl, HO3, HBc⟩; refine Hid.out ?_)
                apply hidden
                have HTc := hidden (HTb.out.on HBc.out)
                obtain ⟨a3, d3, rfl, hs3⟩ := HO3.out.slz HL2.out HSM2.out
                have HSc := hidden hs3
                have HSa3 := hidden (HSa2.out.on (Nat.le_refl _) HBc.out)
                have HSb3 := hidden (HSb.out.on (Nat.le_refl _) HBc.out)
                have HF4 := hidden (waiting_any HTc.out.m.fs)
                rw [hLW] at HF4
                clear hs3 HF3 HO3 HTb HSa2 HSb HBb
                go_wp2_with (go_at_call 14; refine HF4.out.mono ?_; rintro e u4 ⟨v4, rfl, HO4, HBd⟩; refine Hid.out ?_)
                apply hidden
                have HTd := hidden (HTc.out.on HBd.out)
                obtain ⟨a4, d4, rfl, hs4⟩ := HO4.out.slz HL2.out HSM2.out
                have HSM := hidden (sameZ_any _ _ _ _ _ _ _ _ u4 (HSa3.out.on (Nat.le_refl _) HBd.out) (HSb3.out.on (Nat.le_refl _) HBd.out))
                have HSN := hidden (fun q => sameZ_any _ _ _ _ _ _ _ _ (u4.drewN q) ((HSc.out.on (Nat.le_refl _) HBd.out).drew q) (hs4.drew q))
                have hd1 : decide (LF = LF) = true := by simp
                rw [hd1] at HSM
                simp only at HSN
                clear hs4 HF4 HO4 HTc HSa3 HSb3 HSc HBc hd1
                go_wp2_with (go_at_call 15; refine HSM.out.mono ?_; rintro e u5 ⟨rfl, hq5⟩; refine Hid.out ?_)
                apply hidden
                obtain ⟨q5, rfl⟩ := hq5
                have HSO := hidden (HSN.out q5)
                go_wp2_with (go_at_call 15; refine HSO.out.mono ?_; rintro e u6 ⟨rfl, hq6⟩; refine Hid.out ?_)
                apply hidden
                obtain ⟨q6, hq6⟩ := hq6
                have HT6 : Hid (Ti w S bl ml bm mm u6 mv2 ((c : Int) + 1) K3 K3 M3) := hidden (by
                  rw [hq6]
                  exact HTd.out.on ⟨rfl, rfl, rfl, Nat.le_refl _, fun _ _ => rfl⟩)
                obtain ⟨q3, hq3, hq3n⟩ : ∃ q3, M3 = [q3] ∧ q3.n = 1 := by
                  have h1 := HM3.out
                  cases M3 with
                  | nil => simp at h1
                  | cons q3 R3 =>
                    simp only [List.map_cons, List.cons.injEq, List.map_eq_nil_iff] at h1
                    obtain ⟨h2, rfl⟩ := h1
                    exact ⟨q3, rfl, (congrArg Prod.fst h2).trans HQ1.out⟩
                subst hq3
                have HBK := hidden (back_any (N := []) (R := []) HT6.out.l (fun x hx => by cases hx))
                rw [hq3n] at HBK
                clear hq6 HSM HSN HSO HTd hq3n
                go_wp2_with (go_at_call 12; refine HBK.out.mono ?_; rintro e u7 ⟨rfl, HB7⟩; refine Hid.out ?_)
                apply hidden
                have HFIN : Hid (Below w.heap.size w u7) := hidden (by
                  obtain ⟨_, _, _, hc7⟩ := HB7.out
                  exact HT6.out.bel.trans (hc7.below HT6.out.bel.size (fun k hk e => by
                    have h1 := HT6.out.own k e
                    have h2 := HT6.out.c
                    omega)))
                clear HBK HB7
                go_wp2_with fail
                go_ret
                exact ⟨rfl, HFIN.out⟩
end Go.Proofs.YtedgpcckbdnijaaDoor
