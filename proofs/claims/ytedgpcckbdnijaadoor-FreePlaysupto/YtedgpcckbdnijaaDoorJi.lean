/- Entries by rising pages, and how pages stand: plain. -/
import Derived.Test.YtedgpcckbdnijaaDoorJw
import Derived.Test.YtedgpcckbdnijaaDoorJx
namespace Go.Proofs.YtedgpcckbdnijaaDoor
open Go.RowKit Go.Maps

/-- These entries, by rising pages, say how pages stand. -/
def Ent (K : Int → Option Int) (es : List (Int × Int)) : Prop := es.Pairwise (fun a b => a.1 < b.1) ∧ ∀ x t, (x, t) ∈ es ↔ K x = some t
section
variable {K : Int → Option Int} {es : List (Int × Int)}
set_option maxRecDepth 100000 in
theorem Ent.len (h : Ent K es) (hP : Pgs K) : es.length ≤ 65534 := by
  have := rise_len es 2 65536 h.1 (fun x hx => by have := hP x.1 x.2 ((h.2 x.1 x.2).1 hx); omega)
  rw [if_pos (by omega)] at this
  omega
set_option maxRecDepth 100000 in
theorem Ent.key (h : Ent K es) (p : Int) : keyE es p ↔ (K p).isSome = true := by
  unfold keyE
  rw [List.mem_map]
  constructor
  · rintro ⟨⟨x, t⟩, hx, rfl⟩
    rw [(h.2 x t).1 hx]
    rfl
  · intro hs
    obtain ⟨t, ht⟩ := Option.isSome_iff_exists.1 hs
    exact ⟨(p, t), (h.2 p t).2 ht, rfl⟩
set_option maxRecDepth 100000 in
theorem Ent.ins (h : Ent K es) {p t : Int} (hn : K p = none) (ht : t ≠ -1) : Ent (setK K p t) (insE es (p, t)) := by
  refine ⟨insE_rise _ es h.1 (fun x hx e => ?_), fun x s => ?_⟩
  · have h1 := (h.2 x.1 x.2).1 hx
    rw [e] at h1
    simp only at h1
    rw [hn] at h1
    cases h1
  · rw [insE_mem]
    unfold setK putK
    rw [if_neg ht]
    by_cases e : x = p
    · subst e
      rw [if_pos rfl]
      constructor
      · rintro (h1 | h1)
        · injection h1 with _ h1
          rw [h1]
        · rw [(h.2 x s).1 h1] at hn
          cases hn
      · intro h1
        injection h1 with h1
        left
        rw [h1]
    · rw [if_neg e]
      constructor
      · rintro (h1 | h1)
        · injection h1 with h1
          exact absurd h1 e
        · exact (h.2 x s).1 h1
      · exact fun h1 => .inr ((h.2 x s).2 h1)
set_option maxRecDepth 100000 in
theorem Ent.told (h : Ent K es) (hP : Pgs K) (f : Int → Bool) : kL K f = (es.filter (fun e => f e.2)).map (·.1) := by
  refine kL_eq hP f ?_ (fun x => ?_)
  · rw [List.pairwise_map]
    exact h.1.filter _
  · rw [List.mem_map]
    constructor
    · rintro ⟨⟨y, t⟩, hy, rfl⟩
      rw [List.mem_filter] at hy
      exact ⟨t, (h.2 y t).1 hy.1, hy.2⟩
    · rintro ⟨s, h1, h2⟩
      exact ⟨(x, s), List.mem_filter.2 ⟨(h.2 x s).2 h1, h2⟩, rfl⟩
/-- Where the first free one stands. -/
def fz (es : List (Int × Int)) : Option Nat := es.findIdx? (fun e => e.2 == 0)
set_option maxRecDepth 100000 in
theorem Ent.nofree (h : Ent K es) (hz : fz es = none) : lsP K = none := by
  refine lsP_none (fun x hx => ?_)
  unfold fz at hz
  rw [List.findIdx?_eq_none_iff] at hz
  have := hz (x, 0) ((h.2 x 0).2 hx)
  simp at this
set_option maxRecDepth 100000 in
theorem Ent.free (h : Ent K es) (hP : Pgs K) {i : Nat} (hz : fz es = some i) : ∃ p : Nat, es[i]? = some ((p : Int), 0) ∧ lsP K = some p ∧ p < 65536 := by
  unfold fz at hz
  rw [List.findIdx?_eq_some_iff_getElem] at hz
  obtain ⟨hi, h0, hj⟩ := hz
  obtain ⟨⟨p, t⟩, he⟩ : ∃ e, es[i] = e := ⟨_, rfl⟩
  rw [he] at h0
  have ht : t = 0 := by simpa using h0
  subst ht
  have hm : (p, 0) ∈ es := by rw [← he]; exact List.getElem_mem hi
  have hK := (h.2 p 0).1 hm
  have hp := hP p 0 hK
  obtain ⟨pn, rfl⟩ : ∃ pn : Nat, p = (pn : Int) := ⟨p.toNat, by omega⟩
  refine ⟨pn, by rw [List.getElem?_eq_getElem hi, he], lsP_some ⟨hK, fun q hq e => ?_⟩ (by omega), by omega⟩
  have hq2 := (h.2 (q : Int) 0).2 e
  obtain ⟨j, hjl, hje⟩ := List.getElem_of_mem hq2
  have hpw := List.pairwise_iff_getElem.1 h.1
  rcases Nat.lt_trichotomy j i with hl | hl | hl
  · have := hj j hl
    rw [hje] at this
    simp at this
  · subst hl
    rw [he] at hje
    injection hje with hje
    omega
  · have := hpw i j hi hjl hl
    rw [he, hje] at this
    simp only at this
    omega
set_option maxRecDepth 100000 in
theorem Ent.rem (h : Ent K es) {i : Nat} {p : Int} (hi : es[i]? = some (p, 0)) : Ent (setK K p (-1)) (es.eraseIdx i) := by
  have hil := (List.getElem?_eq_some_iff.1 hi).1
  have hie := (List.getElem?_eq_some_iff.1 hi).2
  have hpw := List.pairwise_iff_getElem.1 h.1
  refine ⟨h.1.sublist (List.eraseIdx_sublist _ _), fun x t => ?_⟩
  unfold setK delK
  rw [if_pos rfl, List.mem_eraseIdx_iff_getElem]
  constructor
  · rintro ⟨j, hj, hne, e⟩
    have hm : (x, t) ∈ es := by rw [← e]; exact List.getElem_mem hj
    have hx : ¬ x = p := by
      intro ex
      rcases Nat.lt_or_gt_of_ne hne with hl | hl
      · have := hpw j i hj hil hl
        rw [e, hie] at this
        simp only at this
        omega
      · have := hpw i j hil hj hl
        rw [e, hie] at this
        simp only at this
        omega
    rw [if_neg hx]
    exact (h.2 x t).1 hm
  · intro hx
    by_cases e : x = p
    · rw [if_pos e] at hx
      cases hx
    · rw [if_neg e] at hx
      obtain ⟨j, hj, hje⟩ := List.getElem_of_mem ((h.2 x t).2 hx)
      refine ⟨j, hj, fun ej => ?_, hje⟩
      subst ej
      rw [hie] at hje
      injection hje with hje
      exact e hje.symm
/-- What is due is freed. -/
def relE (o : Int) (es : List (Int × Int)) : List (Int × Int) := es.map (fun e => if dueF o e.2 = true then (e.1, 0) else e)
def cntE (o : Int) (es : List (Int × Int)) : Nat := (es.filter (fun e => dueF o e.2)).length
set_option maxRecDepth 100000 in
theorem Ent.rel (h : Ent K es) (o : Int) : Ent (relK K o) (relE o es) := by
  have hf : ∀ e : Int × Int, (if dueF o e.2 = true then (e.1, 0) else e).1 = e.1 := fun e => by split <;> rfl
  refine ⟨?_, fun x t => ?_⟩
  · unfold relE
    rw [List.pairwise_map]
    exact h.1.imp (fun {a b} hab => by rw [hf, hf]; exact hab)
  · unfold relE relK
    rw [List.mem_map]
    constructor
    · rintro ⟨⟨y, s⟩, hy, e⟩
      have hK := (h.2 y s).1 hy
      simp only at e
      by_cases hd : dueF o s = true
      · rw [if_pos hd] at e
        injection e with e1 e2
        subst e1
        rw [hK, ← e2]
        simp [hd]
      · rw [if_neg hd] at e
        injection e with e1 e2
        subst e1
        rw [hK, ← e2]
        simp [hd]
    · intro hx
      cases hK : K x with
      | none => rw [hK] at hx; cases hx
      | some s =>
        rw [hK] at hx
        simp only at hx
        refine ⟨(x, s), (h.2 x s).2 hK, ?_⟩
        by_cases hd : dueF o s = true
        · rw [if_pos hd] at hx ⊢
          injection hx with hx
          rw [← hx]
        · rw [if_neg hd] at hx ⊢
          injection hx with hx
          rw [← hx]
set_option maxRecDepth 100000 in
theorem Ent.cnt (h : Ent K es) (hP : Pgs K) (o : Int) : (kL K (dueF o)).length = cntE o es := by
  rw [h.told hP, List.length_map]
  rfl
end
set_option maxRecDepth 100000 in
theorem Ent.new {l : List Int} (h : newE l = 0) : Ent (KL l) (enE l) := by
  obtain ⟨h1, h2⟩ : (∀ x ∈ l, isPg x) ∧ l.Nodup := by
    unfold newE at h
    by_cases h1 : ∀ x ∈ l, isPg x
    · rw [if_pos h1] at h
      by_cases h2 : l.Nodup
      · exact ⟨h1, h2⟩
      · rw [if_neg h2] at h; cases h
    · rw [if_neg h1] at h; cases h
  refine ⟨enE_rise l h2, fun x t => ?_⟩
  rw [enE_mem]
  unfold KL
  by_cases e : x ∈ l
  · rw [if_pos e]
    simp [e, eq_comm]
  · rw [if_neg e]
    simp [e]
end Go.Proofs.YtedgpcckbdnijaaDoor

/- The document's Take, Release, Waiting, All. -/

namespace Go.Proofs.YtedgpcckbdnijaaDoor
open Go.RowKit

def tG (f : Int → Bool) (es : List (Int × Int)) : List Int := (es.filter (fun x => f x.2)).map (·.1)
set_option maxRecDepth 100000 in
theorem tG_next (f : Int → Bool) (es : List (Int × Int)) (k : Nat) (hk : k < es.length) : tG f (es.take (k + 1)) = if f (es.getD k (0, 0)).2 = true then tG f (es.take k) ++ [(es.getD k (0, 0)).1] else tG f (es.take k) := by
  unfold tG
  rw [List.take_add_one, List.getElem?_eq_getElem hk, List.getD, List.getElem?_eq_getElem hk]
  simp only [Option.toList, List.filter_append, List.map_append, Option.getD_some]
  split
  · rename_i h
    simp [h]
  · rename_i h
    simp [h]
set_option maxRecDepth 100000 in
theorem tG_len (f : Int → Bool) (es : List (Int × Int)) (k : Nat) : (tG f (es.take k)).length ≤ k := by
  unfold tG
  rw [List.length_map]
  exact Nat.le_trans (List.length_filter_le _ _) (by rw [List.length_take]; exact Nat.min_le_left _ _)
set_option maxRecDepth 100000 in
set_option maxHeartbeats 4000000 in
theorem rtold_waiting (w : World) (B b : Nat) (v m : Value) (la : Int) (es : List (Int × Int)) (h : Rl w B b v m la es) :
    Calls Tryd.prog 56 #[pB b, .bool false, .bool true] w fun e u => ∃ o, e = .returned o ∧ Hid (OwnJ u w.heap.size o (tG (fun s => decide (0 < s)) es)) ∧ Hid (Below w.heap.size w u) := by
  obtain ⟨ao, cap, rfl, hc⟩ := h.own.cells
  have hbl := lt_some h.box
  have HC := hidden hc
  have HH := hidden h
  have hlen := h.len
  have hlI : (es.length : Int) ≤ 65536 := by omega
  clear h hc
  obtain ⟨P, hP⟩ : ∃ P : Int → Bool, P = (fun s => decide (0 < s)) := ⟨_, rfl⟩
  have HPP := hidden hP
  rw [← hP]
  obtain ⟨N, hN⟩ : ∃ N, es.length = N := ⟨_, rfl⟩
  have HN := hidden hN
  rw [hN] at hlen hlI HC
  clear hN hP
  go_enter Tryd.func56, Tryd.ntmps56
  go_wp2_with fail
  go_loopw [7, 8] (fun o i wr => ∃ (k : Nat) (ov : Value), k ≤ N ∧ ov = o ∧ i = .int .i64 (k : Int) ∧ Hid (OwnJ wr w.heap.size ov (tG P (es.take k))) ∧ Hid (Below w.heap.size w wr)) (fun _ i _ => N - (RowKit.intOf i).toNat)
  case atStart => exact ⟨0, _, by omega, rfl, rfl, hidden (OwnJ.nil _ _), hidden (Below.refl _ _)⟩
  case round =>
    obtain ⟨k, o, hk, ho, rfl, HO, HB⟩ := hrel
    subst ho
    have HCB : Hid (∀ u, Below w.heap.size w u → u.cell? ⟨b, 0, none⟩ = some (.slice ao N cap)) := hidden (fun u hu => (hu.cell (p := ⟨b, 0, none⟩) hbl).trans (by rw [cell_of_row _ _ 0 _ _ _ HH.out.box, HN.out]; rfl))
    have a0 := HCB.out wr HB.out
    by_cases hlt : k < N
    · rcases HC.out with h0 | ⟨g, rfl, _, hgl, hcc⟩
      · omega
      have hltI : (k : Int) < (N : Int) := by omega
      have HCK : Hid (∀ u, Below w.heap.size w u → u.cell? ⟨g, k * 2, none⟩ = some (.int .i64 (es.getD k (0, 0)).1) ∧ u.cell? ⟨g, k * 2 + 1, none⟩ = some (.int .i64 (es.getD k (0, 0)).2)) := hidden (fun u hu => ⟨(hu.cell (p := ⟨g, k * 2, none⟩) hgl).trans (hcc k hlt).1, (hu.cell (p := ⟨g, k * 2 + 1, none⟩) hgl).trans (hcc k hlt).2⟩)
      have HTN := hidden (tG_next P es k (by rw [HN.out]; exact hlt))
      have htl := tG_len P es k
      obtain ⟨T, hT⟩ : ∃ T, tG P (es.take k) = T := ⟨_, rfl⟩
      rw [hT] at HO HTN htl
      obtain ⟨⟨z, z2⟩, hz⟩ : ∃ z, es.getD k (0, 0) = z := ⟨_, rfl⟩
      rw [hz] at HCK HTN
      clear hz hT hcc
      obtain ⟨a1, a2⟩ := HCK.out wr HB.out
      simp only at a1 a2
      simp only at HTN
      by_cases hz0 : z2 = 0
      · subst hz0
        have HT2 : Hid (tG P (es.take (k + 1)) = T) := hidden (by rw [HTN.out]; exact if_neg (by rw [HPP.out]; decide))
        have HO3 : Hid (OwnJ wr w.heap.size o (tG P (es.take (k + 1)))) := hidden (by rw [HT2.out]; exact HO.out)
        clear HTN
        go_wp2_with fail
        go_roundw
        case rel => exact ⟨k + 1, _, by omega, rfl, by go_num, HO3, HB⟩
        case measure => simp [RowKit.intOf]; omega
      have hzb : (z2 == 0) = false := by rw [beq_eq_false_iff_ne]; exact hz0
      by_cases hzp : 0 < z2
      · have hd : decide (0 < z2) = true := by simpa using hzp
        have HT2 : Hid (tG P (es.take (k + 1)) = T ++ [z]) := hidden (by rw [HTN.out]; exact if_pos (by rw [HPP.out]; simp [hzp]))
        obtain ⟨y, hy⟩ : ∃ y, wr.alloc (.cells #[.int .i64 z] 3) = y := ⟨_, rfl⟩
        have hb1 : Below wr.heap.size wr y := by rw [← hy]; exact bl_al (Below.refl _ _) (Nat.le_refl _) _
        have q0 : y.cell? ⟨wr.heap.size, 0, none⟩ = some (.int .i64 z) := by rw [← hy]; simp
        have HOY := hidden (HO.out.below hb1)
        have HBY := hidden (bl_go HB.out (Nat.le_refl _) hb1)
        have hsy : w.heap.size ≤ y.heap.size := HBY.out.size
        have hbo : T.length + 1 ≤ 1000000 := by omega
        clear hb1 HTN
        go_wp2_with (at_builtin; refine app_j _ rfl _ _ rfl w.heap.size T z _ wr.heap.size rfl rfl HOY.out q0 hbo hsy ?_; refine Hid.out ?_)
        apply hidden
        intro v3 w3 ho3 hg3
        have HB3 : Hid (Below w.heap.size w w3) := hidden (HBY.out.trans (own_below HOY.out hsy hg3.grow))
        have HO3 : Hid (OwnJ w3 w.heap.size v3 (tG P (es.take (k + 1)))) := hidden (by rw [HT2.out]; exact ho3)
        clear ho3 hg3 hy q0 HOY HBY hsy hbo a0 a1 a2
        go_wp2_with fail
        go_roundw
        case rel => exact ⟨k + 1, _, by omega, rfl, by go_num, HO3, HB3⟩
        case measure => simp [RowKit.intOf]; omega
      · have hd : decide (0 < z2) = false := by simpa using hzp
        have hzn : z2 < 0 := by omega
        clear hzp
        have HT2 : Hid (tG P (es.take (k + 1)) = T) := hidden (by rw [HTN.out]; exact if_neg (by rw [HPP.out]; simp; omega))
        have HO3 : Hid (OwnJ wr w.heap.size o (tG P (es.take (k + 1)))) := hidden (by rw [HT2.out]; exact HO.out)
        clear HTN
        go_wp2_with fail
        go_roundw
        case rel => exact ⟨k + 1, _, by omega, rfl, by go_num, HO3, HB⟩
        case measure => simp [RowKit.intOf]; omega
    · have hge : ¬ (k : Int) < (N : Int) := by omega
      have HO3 : Hid (OwnJ wr w.heap.size o (tG P es)) := hidden (by
        have := HO.out
        rw [List.take_of_length_le (by rw [HN.out]; omega)] at this
        exact this)
      go_wp2_with fail
      go_ret
      exact ⟨_, rfl, HO3, HB⟩
set_option maxRecDepth 100000 in
theorem rwaiting_any (w : World) (B b : Nat) (v m : Value) (la : Int) (es : List (Int × Int)) (h : Rl w B b v m la es) :
    Calls Tryd.prog 34 #[pB b] w fun e u => ∃ o, e = .returned o ∧ Hid (OwnJ u w.heap.size o (tG (fun s => decide (0 < s)) es)) ∧ Hid (Below w.heap.size w u) := by
  have HT := hidden (rtold_waiting w B b v m la es h)
  clear h
  go_enter Tryd.func34, Tryd.ntmps34
  go_wp2_with (go_at_call 56; refine HT.out.mono ?_; rintro e u ⟨o, rfl, HO, HB⟩)
  go_ret
  exact ⟨_, rfl, HO, HB⟩
set_option maxRecDepth 100000 in
set_option maxHeartbeats 4000000 in
theorem rtold_all (w : World) (B b : Nat) (v m : Value) (la : Int) (es : List (Int × Int)) (h : Rl w B b v m la es) :
    Calls Tryd.prog 56 #[pB b, .bool true, .bool true] w fun e u => ∃ o, e = .returned o ∧ Hid (OwnJ u w.heap.size o (tG (fun s => decide (0 ≤ s)) es)) ∧ Hid (Below w.heap.size w u) := by
  obtain ⟨ao, cap, rfl, hc⟩ := h.own.cells
  have hbl := lt_some h.box
  have HC := hidden hc
  have HH := hidden h
  have hlen := h.len
  have hlI : (es.length : Int) ≤ 65536 := by omega
  clear h hc
  obtain ⟨P, hP⟩ : ∃ P : Int → Bool, P = (fun s => decide (0 ≤ s)) := ⟨_, rfl⟩
  have HPP := hidden hP
  rw [← hP]
  obtain ⟨N, hN⟩ : ∃ N, es.length = N := ⟨_, rfl⟩
  have HN := hidden hN
  rw [hN] at hlen hlI HC
  clear hN hP
  go_enter Tryd.func56, Tryd.ntmps56
  go_wp2_with fail
  go_loopw [7, 8] (fun o i wr => ∃ (k : Nat) (ov : Value), k ≤ N ∧ ov = o ∧ i = .int .i64 (k : Int) ∧ Hid (OwnJ wr w.heap.size ov (tG P (es.take k))) ∧ Hid (Below w.heap.size w wr)) (fun _ i _ => N - (RowKit.intOf i).toNat)
  case atStart => exact ⟨0, _, by omega, rfl, rfl, hidden (OwnJ.nil _ _), hidden (Below.refl _ _)⟩
  case round =>
    obtain ⟨k, o, hk, ho, rfl, HO, HB⟩ := hrel
    subst ho
    have HCB : Hid (∀ u, Below w.heap.size w u → u.cell? ⟨b, 0, none⟩ = some (.slice ao N cap)) := hidden (fun u hu => (hu.cell (p := ⟨b, 0, none⟩) hbl).trans (by rw [cell_of_row _ _ 0 _ _ _ HH.out.box, HN.out]; rfl))
    have a0 := HCB.out wr HB.out
    by_cases hlt : k < N
    · rcases HC.out with h0 | ⟨g, rfl, _, hgl, hcc⟩
      · omega
      have hltI : (k : Int) < (N : Int) := by omega
      have HCK : Hid (∀ u, Below w.heap.size w u → u.cell? ⟨g, k * 2, none⟩ = some (.int .i64 (es.getD k (0, 0)).1) ∧ u.cell? ⟨g, k * 2 + 1, none⟩ = some (.int .i64 (es.getD k (0, 0)).2)) := hidden (fun u hu => ⟨(hu.cell (p := ⟨g, k * 2, none⟩) hgl).trans (hcc k hlt).1, (hu.cell (p := ⟨g, k * 2 + 1, none⟩) hgl).trans (hcc k hlt).2⟩)
      have HTN := hidden (tG_next P es k (by rw [HN.out]; exact hlt))
      have htl := tG_len P es k
      obtain ⟨T, hT⟩ : ∃ T, tG P (es.take k) = T := ⟨_, rfl⟩
      rw [hT] at HO HTN htl
      obtain ⟨⟨z, z2⟩, hz⟩ : ∃ z, es.getD k (0, 0) = z := ⟨_, rfl⟩
      rw [hz] at HCK HTN
      clear hz hT hcc
      obtain ⟨a1, a2⟩ := HCK.out wr HB.out
      simp only at a1 a2
      simp only at HTN
      by_cases hz0 : z2 = 0
      · subst hz0
        have HT2 : Hid (tG P (es.take (k + 1)) = T ++ [z]) := hidden (by rw [HTN.out]; exact if_pos (by rw [HPP.out]; decide))
        obtain ⟨y, hy⟩ : ∃ y, wr.alloc (.cells #[.int .i64 z] 3) = y := ⟨_, rfl⟩
        have hb1 : Below wr.heap.size wr y := by rw [← hy]; exact bl_al (Below.refl _ _) (Nat.le_refl _) _
        have q0 : y.cell? ⟨wr.heap.size, 0, none⟩ = some (.int .i64 z) := by rw [← hy]; simp
        have HOY := hidden (HO.out.below hb1)
        have HBY := hidden (bl_go HB.out (Nat.le_refl _) hb1)
        have hsy : w.heap.size ≤ y.heap.size := HBY.out.size
        have hbo : T.length + 1 ≤ 1000000 := by omega
        clear hb1 HTN
        go_wp2_with (at_builtin; refine app_j _ rfl _ _ rfl w.heap.size T z _ wr.heap.size rfl rfl HOY.out q0 hbo hsy ?_; refine Hid.out ?_)
        apply hidden
        intro v3 w3 ho3 hg3
        have HB3 : Hid (Below w.heap.size w w3) := hidden (HBY.out.trans (own_below HOY.out hsy hg3.grow))
        have HO3 : Hid (OwnJ w3 w.heap.size v3 (tG P (es.take (k + 1)))) := hidden (by rw [HT2.out]; exact ho3)
        clear ho3 hg3 hy q0 HOY HBY hsy hbo a0 a1 a2
        go_wp2_with fail
        go_roundw
        case rel => exact ⟨k + 1, _, by omega, rfl, by go_num, HO3, HB3⟩
        case measure => simp [RowKit.intOf]; omega
      have hzb : (z2 == 0) = false := by rw [beq_eq_false_iff_ne]; exact hz0
      by_cases hzp : 0 < z2
      · have hd : decide (0 < z2) = true := by simpa using hzp
        have HT2 : Hid (tG P (es.take (k + 1)) = T ++ [z]) := hidden (by rw [HTN.out]; exact if_pos (by rw [HPP.out]; simp; omega))
        obtain ⟨y, hy⟩ : ∃ y, wr.alloc (.cells #[.int .i64 z] 3) = y := ⟨_, rfl⟩
        have hb1 : Below wr.heap.size wr y := by rw [← hy]; exact bl_al (Below.refl _ _) (Nat.le_refl _) _
        have q0 : y.cell? ⟨wr.heap.size, 0, none⟩ = some (.int .i64 z) := by rw [← hy]; simp
        have HOY := hidden (HO.out.below hb1)
        have HBY := hidden (bl_go HB.out (Nat.le_refl _) hb1)
        have hsy : w.heap.size ≤ y.heap.size := HBY.out.size
        have hbo : T.length + 1 ≤ 1000000 := by omega
        clear hb1 HTN
        go_wp2_with (at_builtin; refine app_j _ rfl _ _ rfl w.heap.size T z _ wr.heap.size rfl rfl HOY.out q0 hbo hsy ?_; refine Hid.out ?_)
        apply hidden
        intro v3 w3 ho3 hg3
        have HB3 : Hid (Below w.heap.size w w3) := hidden (HBY.out.trans (own_below HOY.out hsy hg3.grow))
        have HO3 : Hid (OwnJ w3 w.heap.size v3 (tG P (es.take (k + 1)))) := hidden (by rw [HT2.out]; exact ho3)
        clear ho3 hg3 hy q0 HOY HBY hsy hbo a0 a1 a2
        go_wp2_with fail
        go_roundw
        case rel => exact ⟨k + 1, _, by omega, rfl, by go_num, HO3, HB3⟩
        case measure => simp [RowKit.intOf]; omega
      · have hd : decide (0 < z2) = false := by simpa using hzp
        have hzn : z2 < 0 := by omega
        clear hzp
        have HT2 : Hid (tG P (es.take (k + 1)) = T) := hidden (by rw [HTN.out]; exact if_neg (by rw [HPP.out]; simp; omega))
        have HO3 : Hid (OwnJ wr w.heap.size o (tG P (es.take (k + 1)))) := hidden (by rw [HT2.out]; exact HO.out)
        clear HTN
        go_wp2_with fail
        go_roundw
        case rel => exact ⟨k + 1, _, by omega, rfl, by go_num, HO3, HB⟩
        case measure => simp [RowKit.intOf]; omega
    · have hge : ¬ (k : Int) < (N : Int) := by omega
      have HO3 : Hid (OwnJ wr w.heap.size o (tG P es)) := hidden (by
        have := HO.out
        rw [List.take_of_length_le (by rw [HN.out]; omega)] at this
        exact this)
      go_wp2_with fail
      go_ret
      exact ⟨_, rfl, HO3, HB⟩
set_option maxRecDepth 100000 in
theorem rall_any (w : World) (B b : Nat) (v m : Value) (la : Int) (es : List (Int × Int)) (h : Rl w B b v m la es) :
    Calls Tryd.prog 35 #[pB b] w fun e u => ∃ o, e = .returned o ∧ Hid (OwnJ u w.heap.size o (tG (fun s => decide (0 ≤ s)) es)) ∧ Hid (Below w.heap.size w u) := by
  have HT := hidden (rtold_all w B b v m la es h)
  clear h
  go_enter Tryd.func35, Tryd.ntmps35
  go_wp2_with (go_at_call 56; refine HT.out.mono ?_; rintro e u ⟨o, rfl, HO, HB⟩)
  go_ret
  exact ⟨_, rfl, HO, HB⟩
end Go.Proofs.YtedgpcckbdnijaaDoor

/- The document's Take, Release, Give. -/

namespace Go.Proofs.YtedgpcckbdnijaaDoor
open Go.RowKit

/-- The first entries but for the i-th one. -/
def rmE (es : List (Int × Int)) (i k : Nat) : List (Int × Int) := (es.take k).eraseIdx i
set_option maxRecDepth 100000 in
theorem rmE_skip (es : List (Int × Int)) (i : Nat) (h : i < es.length) : rmE es i (i + 1) = rmE es i i := by
  unfold rmE
  rw [List.take_add_one, List.getElem?_eq_getElem h, List.eraseIdx_append_of_length_le (by rw [List.length_take]; omega), List.length_take]
  rw [List.eraseIdx_of_length_le (l := es.take i) (by rw [List.length_take]; omega)]
  rw [show i - min i es.length = 0 by omega]
  simp
set_option maxRecDepth 100000 in
theorem rmE_next (es : List (Int × Int)) (i k : Nat) (h : k < es.length) (hne : k ≠ i) : rmE es i (k + 1) = rmE es i k ++ [es.getD k (0, 0)] := by
  unfold rmE
  have e : es.getD k (0, 0) = es[k] := by rw [List.getD, List.getElem?_eq_getElem h]; rfl
  rw [List.take_add_one, List.getElem?_eq_getElem h, e]
  by_cases hl : i < k
  · rw [List.eraseIdx_append_of_lt_length (by rw [List.length_take]; omega)]
    rfl
  · rw [List.eraseIdx_of_length_le (l := es.take k) (by rw [List.length_take]; omega), List.eraseIdx_of_length_le (by rw [List.length_append, List.length_take]; simp; omega)]
    rfl
set_option maxRecDepth 100000 in
theorem rmE_len (es : List (Int × Int)) (i k : Nat) : (rmE es i k).length ≤ k := by
  unfold rmE
  exact Nat.le_trans (List.length_eraseIdx_le _ _) (by rw [List.length_take]; exact Nat.min_le_left _ _)
/-- What Take answers. -/
def RtIs (w : World) (B b : Nat) (m : Value) (la : Int) (es : List (Int × Int)) (e : Ending) (u : World) : Prop := ∃ (p : Int) (ok : Bool), e = .returned (.tuple #[.int .i64 p, .bool ok]) ∧ Hid ((ok = true ∧ ∃ i v', fz es = some i ∧ (es.getD i (0, 0)).1 = p ∧ Rl u B b v' m la (es.eraseIdx i) ∧ (∀ k, v'.ownBlock = some k → w.heap.size ≤ k)) ∨ (ok = false ∧ p = 0 ∧ fz es = none ∧ u = w)) ∧ Hid (Cf (· = b) w u)
set_option maxRecDepth 100000 in
set_option maxHeartbeats 4000000 in
theorem rtake_any (w : World) (B b : Nat) (v m : Value) (la : Int) (es : List (Int × Int)) (h : Rl w B b v m la es) (hb : B ≤ b) :
    Calls Tryd.prog 29 #[pB b] w (RtIs w B b m la es) := by
  obtain ⟨ao, cap, rfl, hc⟩ := h.own.cells
  have hbl := lt_some h.box
  have HC := hidden hc
  have HH := hidden h
  have hlen := h.len
  have hlI : (es.length : Int) ≤ 65536 := by omega
  have fb : w.frozen? ⟨b, 0, none⟩ = false := by simp [World.frozen?, h.box]
  clear h hc
  obtain ⟨N, hN⟩ : ∃ N, es.length = N := ⟨_, rfl⟩
  have HN := hidden hN
  rw [hN] at hlen hlI HC
  clear hN
  have HCB : Hid (∀ u, Below w.heap.size w u → u.cell? ⟨b, 0, none⟩ = some (.slice ao N cap)) := hidden (fun u hu => (hu.cell (p := ⟨b, 0, none⟩) hbl).trans (by rw [cell_of_row _ _ 0 _ _ _ HH.out.box, HN.out]; rfl))
  have a0 := HCB.out w (Below.refl _ _)
  go_enter Tryd.func29, Tryd.ntmps29
  go_wp2_with fail
  go_loopw [4] (fun i wr => wr = w ∧ ∃ k : Nat, k ≤ N ∧ i = .int .i64 (k : Int) ∧ Hid (∀ j, j < k → ((es.getD j (0, 0)).2 == 0) = false)) (fun i _ => N - (RowKit.intOf i).toNat)
  case atStart => exact ⟨rfl, 0, by omega, rfl, hidden (fun j hj => by omega)⟩
  case round =>
    obtain ⟨hwr, i, hi, rfl, HJ⟩ := hrel
    have hwr2 := hwr.symm
    subst hwr2
    clear hwr
    by_cases hlt : i < N
    · rcases HC.out with h0 | ⟨g, rfl, _, hgl, hcc⟩
      · omega
      have hltI : (i : Int) < (N : Int) := by omega
      obtain ⟨a1, a2⟩ := hcc i hlt
      have HCC := hidden hcc
      obtain ⟨⟨z, z2⟩, hz⟩ : ∃ z, es.getD i (0, 0) = z := ⟨_, rfl⟩
      have HZ := hidden hz
      rw [hz] at a1 a2
      simp only at a1 a2
      clear hz hcc
      by_cases hz0 : z2 = 0
      · subst hz0
        have HFZ : Hid (fz es = some i) := hidden (by
          unfold fz
          rw [List.findIdx?_eq_some_iff_getElem]
          have hil : i < es.length := by rw [HN.out]; exact hlt
          have e : es.getD i (0, 0) = es[i] := by rw [List.getD, List.getElem?_eq_getElem hil]; rfl
          refine ⟨hil, by rw [← e, HZ.out]; rfl, fun j hj => ?_⟩
          have h1 := HJ.out j hj
          rw [List.getD, List.getElem?_eq_getElem (by omega)] at h1
          simpa using h1)
        go_wp2_with fail
        go_loopw [6, 7] (fun o k u => ∃ (kn : Nat) (ov : Value), kn ≤ N ∧ ov = o ∧ k = .int .i64 (kn : Int) ∧ Hid (OwnE u w.heap.size ov (rmE es i kn)) ∧ Hid (Below w.heap.size w u)) (fun _ k _ => N - (RowKit.intOf k).toNat)
        case atStart => exact ⟨0, _, by omega, rfl, rfl, hidden (OwnE.nil _ _), hidden (Below.refl _ _)⟩
        case round =>
          obtain ⟨k, o, hk, ho, rfl, HO, HB⟩ := hrel
          subst ho
          have b0 := HCB.out _ HB.out
          by_cases hlt2 : k < N
          · have hltI2 : (k : Int) < (N : Int) := by omega
            by_cases hne : k = i
            · subst hne
              have hneb : ((k : Int) == (k : Int)) = true := by simp
              have HR : Hid (rmE es k (k + 1) = rmE es k k) := hidden (rmE_skip es k (by rw [HN.out]; exact hlt2))
              go_wp2_with fail
              go_roundw
              case rel => exact ⟨k + 1, _, by omega, rfl, by go_num, by rw [HR.out]; exact HO, HB⟩
              case measure => simp [RowKit.intOf]; omega
            · have hneb : ((k : Int) == (i : Int)) = false := by rw [beq_eq_false_iff_ne]; omega
              have HR := hidden (rmE_next es i k (by rw [HN.out]; exact hlt2) hne)
              have hrl := rmE_len es i k
              obtain ⟨R, hR⟩ : ∃ R, rmE es i k = R := ⟨_, rfl⟩
              rw [hR] at HO HR hrl
              have HCK : Hid (∀ u, Below w.heap.size w u → u.cell? ⟨g, k * 2, none⟩ = some (.int .i64 (es.getD k (0, 0)).1) ∧ u.cell? ⟨g, k * 2 + 1, none⟩ = some (.int .i64 (es.getD k (0, 0)).2)) := hidden (fun u hu => ⟨(hu.cell (p := ⟨g, k * 2, none⟩) hgl).trans (HCC.out k hlt2).1, (hu.cell (p := ⟨g, k * 2 + 1, none⟩) hgl).trans (HCC.out k hlt2).2⟩)
              obtain ⟨⟨y, y2⟩, hy⟩ : ∃ y, es.getD k (0, 0) = y := ⟨_, rfl⟩
              rw [hy] at HCK HR
              clear hy hR
              obtain ⟨b1, b2⟩ := HCK.out _ HB.out
              simp only at b1 b2
              obtain ⟨x, hx⟩ : ∃ x, wr.alloc (.cells #[.int .i64 y, .int .i64 y2] 71) = x := ⟨_, rfl⟩
              have hb2 : Below wr.heap.size wr x := by rw [← hx]; exact bl_al (Below.refl _ _) (Nat.le_refl _) _
              have q0 : x.cell? ⟨wr.heap.size, 0, none⟩ = some (.int .i64 y) := by rw [← hx]; simp
              have q1 : x.cell? ⟨wr.heap.size, 1, none⟩ = some (.int .i64 y2) := by rw [← hx]; simp
              have HOY := hidden (HO.out.below hb2)
              have HBY := hidden (bl_go HB.out (Nat.le_refl _) hb2)
              have hsy : w.heap.size ≤ x.heap.size := HBY.out.size
              have hbo : R.length + 1 ≤ 1000000 := by omega
              clear hb2
              go_wp2_with (at_builtin; refine app_e _ rfl _ _ rfl w.heap.size R (y, y2) _ wr.heap.size rfl rfl HOY.out q0 q1 hbo hsy ?_; refine Hid.out ?_)
              apply hidden
              intro v4 w4 ho4 hg4
              have HB4 : Hid (Below w.heap.size w w4) := hidden (HBY.out.trans (own_below HOY.out hsy hg4.grow))
              have HO4 : Hid (OwnE w4 w.heap.size v4 (rmE es i (k + 1))) := hidden (by rw [HR.out]; exact ho4)
              clear hx q0 q1 HOY HBY hsy ho4 hg4 b0 b1 b2
              go_wp2_with fail
              go_roundw
              case rel => exact ⟨k + 1, _, by omega, rfl, by go_num, HO4, HB4⟩
              case measure => simp [RowKit.intOf]; omega
          · obtain rfl : k = N := by omega
            have HP := hidden (HH.out.put (Below.refl _ _) HB.out HO.out (by have := rmE_len es i k; omega) hb)
            rw [show rmE es i k = es.eraseIdx i from by unfold rmE; rw [List.take_of_length_le (by rw [HN.out]; exact Nat.le_refl _)]] at HP HO
            have HOL : Hid (∀ q, o.ownBlock = some q → w.heap.size ≤ q) := hidden (fun q hq => (HO.out.lt hq).1)
            obtain ⟨vo, vc, e, _⟩ := HO.out.cells
            subst e
            have fb2 : wr.frozen? ⟨b, 0, none⟩ = false := (World.frozen?_of_block (a := ⟨b, 0, none⟩) (HB.out.block b hbl)).trans fb
            clear HO HB
            go_wp2_with fail
            go_returns
            exact ⟨z, true, rfl, hidden (.inl ⟨rfl, i, _, HFZ.out, by rw [HZ.out], HP.out.1, HOL.out⟩), hidden HP.out.2⟩
      · have hzb : (z2 == 0) = false := by rw [beq_eq_false_iff_ne]; exact hz0
        go_wp2_with fail
        go_roundw
        case rel => exact ⟨trivial, i + 1, by omega, by go_num, hidden (fun j hj => by
          by_cases e : j = i
          · subst e
            rw [HZ.out]
            exact hzb
          · exact HJ.out j (by omega))⟩
        case measure => simp [RowKit.intOf]; omega
    · obtain rfl : i = N := by omega
      have HFZ : Hid (fz es = none) := hidden (by
        unfold fz
        rw [List.findIdx?_eq_none_iff]
        intro x hx
        obtain ⟨j, hj, rfl⟩ := List.getElem_of_mem hx
        have h1 := HJ.out j (by rw [← HN.out]; exact hj)
        rw [List.getD, List.getElem?_eq_getElem hj] at h1
        simpa using h1)
      go_wp2_with fail
      go_returns
      exact ⟨0, false, rfl, hidden (.inr ⟨rfl, rfl, HFZ.out, rfl⟩), hidden (Cf.refl _ _)⟩
end Go.Proofs.YtedgpcckbdnijaaDoor

/- The document's with, and where the entries lie behind it. -/

namespace Go.Proofs.YtedgpcckbdnijaaDoor
open Go.RowKit

set_option maxRecDepth 100000 in
theorem Rl.put2 {w x U : World} {B b : Nat} {v m v' : Value} {la : Int} {es L : List (Int × Int)} (h : Rl w B b v m la es) (hX : Below w.heap.size w x) (hU : Below x.heap.size x U) (ho : OwnE U x.heap.size v' L) (hl : L.length ≤ 65536) (hb : B ≤ b) :
    (Rl (U.setCell ⟨b, 0, none⟩ v') B b v' m la L ∧ ∀ k, v'.ownBlock = some k → w.heap.size ≤ k) ∧ Cf (· = b) w (U.setCell ⟨b, 0, none⟩ v') :=
  ⟨⟨(h.put hX hU ho hl hb).1, fun _ hk => Nat.le_trans hX.size (ho.lt hk).1⟩, (h.put hX hU ho hl hb).2⟩
set_option maxRecDepth 100000 in
set_option maxHeartbeats 4000000 in
theorem rwith_new (w : World) (B b : Nat) (v m : Value) (la : Int) (es : List (Int × Int)) (p t : Int) (h : Rl w B b v m la es) (hlen : es.length < 65536) (hb : B ≤ b) :
    Calls Tryd.prog 28 #[pB b, .agg #[.int .i64 p, .int .i64 t]] w fun e u => e = .returned (.tuple #[]) ∧ Hid (∃ v', Rl u B b v' m la (wAll es (p, t)) ∧ ∀ k, v'.ownBlock = some k → w.heap.size ≤ k) ∧ Hid (Cf (· = b) w u) := by
  obtain ⟨ao, cap, rfl, hc⟩ := h.own.cells
  have hbx := h.box
  have hbl := lt_some hbx
  have HC := hidden hc
  have HH := hidden h
  have hlI : (es.length : Int) < 65536 := by omega
  clear h hc
  obtain ⟨N, hN⟩ : ∃ N, es.length = N := ⟨_, rfl⟩
  have HN := hidden hN
  obtain ⟨x, hx⟩ : ∃ x, w.alloc (.cells #[.int .i64 p, .int .i64 t] 71) = x := ⟨_, rfl⟩
  have hbx2 : Below w.heap.size w x := by rw [← hx]; exact bl_al (Below.refl _ _) (Nat.le_refl _) _
  have HX := hidden hbx2
  have HE0 : Hid (x.cell? ⟨w.heap.size, 0, none⟩ = some (.int .i64 p) ∧ x.cell? ⟨w.heap.size, 1, none⟩ = some (.int .i64 t) ∧ w.heap.size < x.heap.size) := hidden (by rw [← hx]; simp)
  rw [hN] at hlen hlI HC
  clear hN hbx hbx2
  go_enter Tryd.func28, Tryd.ntmps28
  go_wp2_with fail
  have HST : Hid (∀ k, k < N → wSt es (p, t) (k + 1) = wStep (p, t) (wSt es (p, t) k) (es.getD k (0, 0))) := hidden (fun k hk => wSt_next es (p, t) k (by rw [HN.out]; exact hk))
  have HSL : Hid (∀ k, k ≤ N → (wSt es (p, t) k).2.length ≤ k + 1) := hidden (fun k hk => by
    have := wSt_len es (p, t) k (by rw [HN.out]; exact hk)
    split at this <;> omega)
  go_loopw [4, 5, 6] (fun o inn i wr => ∃ k : Nat, k ≤ N ∧ i = .int .i64 (k : Int) ∧ inn = .bool (wSt es (p, t) k).1 ∧ ∃ vo vc, o = .slice vo (wSt es (p, t) k).2.length vc ∧ Hid (OwnE wr x.heap.size (.slice vo (wSt es (p, t) k).2.length vc) (wSt es (p, t) k).2) ∧ Hid (Below x.heap.size x wr)) (fun _ _ i _ => N - (RowKit.intOf i).toNat)
  case atStart => exact ⟨0, by omega, rfl, rfl, none, 0, rfl, hidden (OwnE.nil _ _), hidden (Below.refl _ _)⟩
  case round =>
    obtain ⟨k, hk, rfl, rfl, vo, vc, rfl, HO, HB⟩ := hrel
    have HWX : Hid (Below w.heap.size w wr) := hidden (bl_go HX.out (Nat.le_refl _) HB.out)
    by_cases hlt : k < N
    · rcases HC.out with h0 | ⟨g, rfl, _, hgl, hcc⟩
      · omega
      have hltI : (k : Int) < (N : Int) := by omega
      have hsl := HSL.out k hk
      have HSN := hidden (HST.out k hlt)
      have HZZ : Hid (w.cell? ⟨b, 0, none⟩ = some (.slice (some ⟨g, 0, none⟩) N cap) ∧ w.cell? ⟨g, k * 2, none⟩ = some (.int .i64 (es.getD k (0, 0)).1) ∧ w.cell? ⟨g, k * 2 + 1, none⟩ = some (.int .i64 (es.getD k (0, 0)).2)) := hidden ⟨by rw [cell_of_row _ _ 0 _ _ _ HH.out.box, HN.out]; rfl, hcc k hlt⟩
      clear hcc
      obtain ⟨⟨z, z2⟩, hz⟩ : ∃ z, es.getD k (0, 0) = z := ⟨_, rfl⟩
      rw [hz] at HZZ HSN
      clear hz
      obtain ⟨⟨inn, out⟩, hst⟩ : ∃ s, wSt es (p, t) k = s := ⟨_, rfl⟩
      rw [hst] at HO hsl HSN ⊢
      clear hst
      simp only at hsl ⊢
      simp only at HO
      have HFA : Hid (∀ u, Below x.heap.size x u → u.cell? ⟨b, 0, none⟩ = some (.slice (some ⟨g, 0, none⟩) N cap) ∧ u.cell? ⟨g, k * 2, none⟩ = some (.int .i64 z) ∧ u.cell? ⟨g, k * 2 + 1, none⟩ = some (.int .i64 z2) ∧ u.cell? ⟨w.heap.size, 0, none⟩ = some (.int .i64 p) ∧ u.cell? ⟨w.heap.size, 1, none⟩ = some (.int .i64 t)) := hidden (fun u h2 => by
        have h1 := bl_go HX.out (Nat.le_refl _) h2
        exact ⟨(h1.cell (p := ⟨b, 0, none⟩) hbl).trans HZZ.out.1, (h1.cell (p := ⟨g, k * 2, none⟩) hgl).trans HZZ.out.2.1, (h1.cell (p := ⟨g, k * 2 + 1, none⟩) hgl).trans HZZ.out.2.2, (h2.cell (p := ⟨w.heap.size, 0, none⟩) HE0.out.2.2).trans HE0.out.1, (h2.cell (p := ⟨w.heap.size, 1, none⟩) HE0.out.2.2).trans HE0.out.2.1⟩)
      obtain ⟨a0, a1, a2, a3, a4⟩ := HFA.out wr HB.out
      cases inn with
      | true =>
        have HSN2 : Hid (wSt es (p, t) (k + 1) = (true, out ++ [(z, z2)])) := hidden (by rw [HSN.out]; rfl)
        clear HSN
        go_wp2_with fail
        go_quiet (fail)
        clear a0 a1 a2 a3 a4
        obtain ⟨U, hU⟩ : ∃ U, wr.drewN nq = U := ⟨_, rfl⟩
        have hbq : Below wr.heap.size wr U := by rw [← hU]; exact bl_dr (Below.refl _ _) nq
        have HOU := hidden (HO.out.below hbq)
        have HBU := hidden (bl_go HB.out (Nat.le_refl _) hbq)
        obtain ⟨a0, a1, a2, a3, a4⟩ := HFA.out U HBU.out
        rw [hU]
        clear hU hbq HO HB
        obtain ⟨y2, hy2⟩ : ∃ y, U.alloc (.cells #[.int .i64 z, .int .i64 z2] 71) = y := ⟨_, rfl⟩
        have hb2 : Below U.heap.size U y2 := by rw [← hy2]; exact bl_al (Below.refl _ _) (Nat.le_refl _) _
        have q0 : y2.cell? ⟨U.heap.size, 0, none⟩ = some (.int .i64 z) := by rw [← hy2]; simp
        have q1 : y2.cell? ⟨U.heap.size, 1, none⟩ = some (.int .i64 z2) := by rw [← hy2]; simp
        have HOY : Hid (OwnE y2 x.heap.size (.slice vo out.length vc) out) := hidden (HOU.out.below hb2)
        have HBY : Hid (Below x.heap.size x y2) := hidden (bl_go HBU.out (Nat.le_refl _) hb2)
        have hsy : x.heap.size ≤ y2.heap.size := HBY.out.size
        clear hb2
        go_wp2_with (at_builtin; refine app_e _ rfl _ _ rfl x.heap.size out (z, z2) _ U.heap.size rfl rfl HOY.out q0 q1 (by omega) hsy ?_; refine Hid.out ?_)
        apply hidden
        intro v4 w4 ho4 hg4
        have HB4 : Hid (Below x.heap.size x w4) := hidden (HBY.out.trans (own_below HOY.out hsy hg4.grow))
        obtain ⟨vo4, vc4, rfl, _⟩ := ho4.cells
        have HO4 := hidden ho4
        clear hy2 q0 q1 HOY HBY hsy ho4 hg4
        go_wp2_with fail
        go_roundw
        case rel =>
          refine ⟨k + 1, by omega, by go_num, ?_, vo4, vc4, ?_, ?_, HB4⟩
          · rw [HSN2.out]
          · rw [HSN2.out]
          · rw [HSN2.out]; exact HO4
        case measure => simp [RowKit.intOf]; omega
      | false =>
        by_cases hpz : p < z
        · have HSN2 : Hid (wSt es (p, t) (k + 1) = (true, (out ++ [(p, t)]) ++ [(z, z2)])) := hidden (by rw [HSN.out]; unfold wStep; simp [hpz])
          clear HSN
          have hpd : decide (p < z) = true := by simpa using hpz
          go_wp2_with fail
          go_quiet (fail)
          clear a0 a1 a2 a3 a4
          obtain ⟨U, hU⟩ : ∃ U, wr.drewN nq = U := ⟨_, rfl⟩
          have hbq : Below wr.heap.size wr U := by rw [← hU]; exact bl_dr (Below.refl _ _) nq
          have HOU := hidden (HO.out.below hbq)
          have HBU := hidden (bl_go HB.out (Nat.le_refl _) hbq)
          obtain ⟨a0, a1, a2, a3, a4⟩ := HFA.out U HBU.out
          rw [hU]
          clear hU hbq HO HB
          obtain ⟨y1, hy1⟩ : ∃ y, U.alloc (.cells #[.int .i64 p, .int .i64 t] 71) = y := ⟨_, rfl⟩
          have hb1 : Below U.heap.size U y1 := by rw [← hy1]; exact bl_al (Below.refl _ _) (Nat.le_refl _) _
          have q0 : y1.cell? ⟨U.heap.size, 0, none⟩ = some (.int .i64 p) := by rw [← hy1]; simp
          have q1 : y1.cell? ⟨U.heap.size, 1, none⟩ = some (.int .i64 t) := by rw [← hy1]; simp
          have HOY : Hid (OwnE y1 x.heap.size (.slice vo out.length vc) out) := hidden (HOU.out.below hb1)
          have HBY : Hid (Below x.heap.size x y1) := hidden (bl_go HBU.out (Nat.le_refl _) hb1)
          have hsy : x.heap.size ≤ y1.heap.size := HBY.out.size
          clear hb1
          go_wp2_with (at_builtin; refine app_e _ rfl _ _ rfl x.heap.size out (p, t) _ U.heap.size rfl rfl HOY.out q0 q1 (by omega) hsy ?_; refine Hid.out ?_)
          apply hidden
          intro v3 w3 ho3 hg3
          have HB3 : Hid (Below x.heap.size x w3) := hidden (HBY.out.trans (own_below HOY.out hsy hg3.grow))
          obtain ⟨vo3, vc3, rfl, _⟩ := ho3.cells
          obtain ⟨O1, hO1⟩ : ∃ O, out ++ [(p, t)] = O := ⟨_, rfl⟩
          have hl1 : O1.length = out.length + 1 := by rw [← hO1]; simp
          rw [hO1] at ho3 HSN2
          rw [hO1]
          have HO3 := hidden ho3
          have hbO : O1.length + 1 ≤ 1000000 := by omega
          clear hl1
          clear hy1 q0 q1 HOY HBY hsy ho3 hg3 a0 a1 a2 a3 a4 HOU HBU hO1
          obtain ⟨a0, a1, a2, a3, a4⟩ := HFA.out w3 HB3.out
          obtain ⟨y2, hy2⟩ : ∃ y, w3.alloc (.cells #[.int .i64 z, .int .i64 z2] 71) = y := ⟨_, rfl⟩
          have hb2 : Below w3.heap.size w3 y2 := by rw [← hy2]; exact bl_al (Below.refl _ _) (Nat.le_refl _) _
          have q0 : y2.cell? ⟨w3.heap.size, 0, none⟩ = some (.int .i64 z) := by rw [← hy2]; simp
          have q1 : y2.cell? ⟨w3.heap.size, 1, none⟩ = some (.int .i64 z2) := by rw [← hy2]; simp
          have HOY : Hid (OwnE y2 x.heap.size (.slice vo3 O1.length vc3) O1) := hidden (HO3.out.below hb2)
          have HBY : Hid (Below x.heap.size x y2) := hidden (bl_go HB3.out (Nat.le_refl _) hb2)
          have hsy : x.heap.size ≤ y2.heap.size := HBY.out.size
          clear hb2
          go_wp2_with (at_builtin; refine app_e _ rfl _ _ rfl x.heap.size O1 (z, z2) _ w3.heap.size rfl rfl HOY.out q0 q1 hbO hsy ?_; refine Hid.out ?_)
          apply hidden
          intro v4 w4 ho4 hg4
          have HB4 : Hid (Below x.heap.size x w4) := hidden (HBY.out.trans (own_below HOY.out hsy hg4.grow))
          obtain ⟨vo4, vc4, rfl, _⟩ := ho4.cells
          have HO4 := hidden ho4
          clear hy2 q0 q1 HOY HBY hsy ho4 hg4
          go_wp2_with fail
          go_roundw
          case rel =>
            refine ⟨k + 1, by omega, by go_num, ?_, vo4, vc4, ?_, ?_, HB4⟩
            · rw [HSN2.out]
            · rw [HSN2.out]
            · rw [HSN2.out]; exact HO4
          case measure => simp [RowKit.intOf]; omega
        · have HSN2 : Hid (wSt es (p, t) (k + 1) = (false, out ++ [(z, z2)])) := hidden (by rw [HSN.out]; unfold wStep; simp [hpz])
          clear HSN
          have hpd : decide (p < z) = false := by simpa using hpz
          clear hpz
          go_wp2_with fail
          go_quiet (fail)
          clear a0 a1 a2 a3 a4
          obtain ⟨U, hU⟩ : ∃ U, wr.drewN nq = U := ⟨_, rfl⟩
          have hbq : Below wr.heap.size wr U := by rw [← hU]; exact bl_dr (Below.refl _ _) nq
          have HOU := hidden (HO.out.below hbq)
          have HBU := hidden (bl_go HB.out (Nat.le_refl _) hbq)
          obtain ⟨a0, a1, a2, a3, a4⟩ := HFA.out U HBU.out
          rw [hU]
          clear hU hbq HO HB
          obtain ⟨y2, hy2⟩ : ∃ y, U.alloc (.cells #[.int .i64 z, .int .i64 z2] 71) = y := ⟨_, rfl⟩
          have hb2 : Below U.heap.size U y2 := by rw [← hy2]; exact bl_al (Below.refl _ _) (Nat.le_refl _) _
          have q0 : y2.cell? ⟨U.heap.size, 0, none⟩ = some (.int .i64 z) := by rw [← hy2]; simp
          have q1 : y2.cell? ⟨U.heap.size, 1, none⟩ = some (.int .i64 z2) := by rw [← hy2]; simp
          have HOY : Hid (OwnE y2 x.heap.size (.slice vo out.length vc) out) := hidden (HOU.out.below hb2)
          have HBY : Hid (Below x.heap.size x y2) := hidden (bl_go HBU.out (Nat.le_refl _) hb2)
          have hsy : x.heap.size ≤ y2.heap.size := HBY.out.size
          clear hb2
          go_wp2_with (at_builtin; refine app_e _ rfl _ _ rfl x.heap.size out (z, z2) _ U.heap.size rfl rfl HOY.out q0 q1 (by omega) hsy ?_; refine Hid.out ?_)
          apply hidden
          intro v4 w4 ho4 hg4
          have HB4 : Hid (Below x.heap.size x w4) := hidden (HBY.out.trans (own_below HOY.out hsy hg4.grow))
          obtain ⟨vo4, vc4, rfl, _⟩ := ho4.cells
          have HO4 := hidden ho4
          clear hy2 q0 q1 HOY HBY hsy ho4 hg4
          go_wp2_with fail
          go_roundw
          case rel =>
            refine ⟨k + 1, by omega, by go_num, ?_, vo4, vc4, ?_, ?_, HB4⟩
            · rw [HSN2.out]
            · rw [HSN2.out]
            · rw [HSN2.out]; exact HO4
          case measure => simp [RowKit.intOf]; omega
    · have hkN : k = N := by omega
      subst hkN
      have hge : ¬ (k : Int) < (k : Int) := by omega
      have hsl := HSL.out k hk
      have HWL : Hid ((wAll es (p, t)).length ≤ 65536) := hidden (by rw [wAll_len, HN.out]; omega)
      have HWA : Hid (wAll es (p, t) = if (wSt es (p, t) k).1 = true then (wSt es (p, t) k).2 else (wSt es (p, t) k).2 ++ [(p, t)]) := hidden (by unfold wAll; rw [HN.out])
      obtain ⟨⟨inn, out⟩, hst⟩ : ∃ s, wSt es (p, t) k = s := ⟨_, rfl⟩
      rw [hst] at HO hsl HWA ⊢
      clear hst
      simp only at hsl ⊢
      simp only at HO HWA
      have HFA : Hid (∀ u, Below x.heap.size x u → u.cell? ⟨b, 0, none⟩ = some (.slice ao k cap) ∧ u.frozen? ⟨b, 0, none⟩ = false ∧ u.cell? ⟨w.heap.size, 0, none⟩ = some (.int .i64 p) ∧ u.cell? ⟨w.heap.size, 1, none⟩ = some (.int .i64 t)) := hidden (fun u h2 => by
        have h1 := bl_go HX.out (Nat.le_refl _) h2
        have hbu := (h1.block b hbl).trans HH.out.box
        refine ⟨by rw [cell_of_row _ _ 0 _ _ _ hbu, HN.out]; rfl, by simp [World.frozen?, hbu], (h2.cell (p := ⟨w.heap.size, 0, none⟩) HE0.out.2.2).trans HE0.out.1, (h2.cell (p := ⟨w.heap.size, 1, none⟩) HE0.out.2.2).trans HE0.out.2.1⟩)
      cases inn with
      | true =>
        obtain ⟨a0, fb, a3, a4⟩ := HFA.out wr HB.out
        have HFIN := hidden (HH.out.put2 HX.out HB.out HO.out (by have := HWL.out; rw [HWA.out] at this; exact this) hb)
        have HWE : Hid (wAll es (p, t) = out) := hidden (by rw [HWA.out]; rfl)
        clear HWA
        go_wp2_with fail
        go_end0
        exact ⟨rfl, hidden ⟨_, by rw [HWE.out]; exact HFIN.out.1⟩, hidden HFIN.out.2⟩
      | false =>
        obtain ⟨a0, fb, a3, a4⟩ := HFA.out wr HB.out
        have HWE : Hid (wAll es (p, t) = out ++ [(p, t)]) := hidden (by rw [HWA.out]; rfl)
        clear HWA
        obtain ⟨y1, hy1⟩ : ∃ y, wr.alloc (.cells #[.int .i64 p, .int .i64 t] 71) = y := ⟨_, rfl⟩
        have hb1 : Below wr.heap.size wr y1 := by rw [← hy1]; exact bl_al (Below.refl _ _) (Nat.le_refl _) _
        have q0 : y1.cell? ⟨wr.heap.size, 0, none⟩ = some (.int .i64 p) := by rw [← hy1]; simp
        have q1 : y1.cell? ⟨wr.heap.size, 1, none⟩ = some (.int .i64 t) := by rw [← hy1]; simp
        have HOY : Hid (OwnE y1 x.heap.size (.slice vo out.length vc) out) := hidden (HO.out.below hb1)
        have HBY : Hid (Below x.heap.size x y1) := hidden (bl_go HB.out (Nat.le_refl _) hb1)
        have hsy : x.heap.size ≤ y1.heap.size := HBY.out.size
        clear hb1
        go_wp2_with (at_builtin; refine app_e _ rfl _ _ rfl x.heap.size out (p, t) _ wr.heap.size rfl rfl HOY.out q0 q1 (by omega) hsy ?_; refine Hid.out ?_)
        apply hidden
        intro v3 w3 ho3 hg3
        have HB3 : Hid (Below x.heap.size x w3) := hidden (HBY.out.trans (own_below HOY.out hsy hg3.grow))
        obtain ⟨vo3, vc3, rfl, _⟩ := ho3.cells
        have HFIN := hidden (HH.out.put2 HX.out HB3.out ho3 (by have := HWL.out; rw [HWE.out] at this; exact this) hb)
        obtain ⟨ln, hln⟩ : ∃ ln, (out ++ [(p, t)]).length = ln := ⟨_, rfl⟩
        rw [hln] at HFIN ⊢
        clear hln
        clear hy1 q0 q1 HOY HBY hsy hg3 a0 a3 a4 fb ho3
        obtain ⟨a0, fb, _, _⟩ := HFA.out w3 HB3.out
        go_wp2_with fail
        go_end0
        exact ⟨rfl, hidden ⟨_, by rw [HWE.out]; exact HFIN.out.1⟩, hidden HFIN.out.2⟩
end Go.Proofs.YtedgpcckbdnijaaDoor

/- The document's Release and Give. -/

namespace Go.Proofs.YtedgpcckbdnijaaDoor
open Go.RowKit

set_option maxRecDepth 100000 in
theorem relE_next (o : Int) (es : List (Int × Int)) (k : Nat) (h : k < es.length) : relE o (es.take (k + 1)) = relE o (es.take k) ++ [if dueF o (es.getD k (0, 0)).2 = true then ((es.getD k (0, 0)).1, 0) else es.getD k (0, 0)] := by
  unfold relE
  have e : es.getD k (0, 0) = es[k] := by rw [List.getD, List.getElem?_eq_getElem h]; rfl
  rw [List.take_add_one, List.getElem?_eq_getElem h, e, List.map_append]
  rfl
set_option maxRecDepth 100000 in
theorem relE_len (o : Int) (es : List (Int × Int)) : (relE o es).length = es.length := by unfold relE; rw [List.length_map]
set_option maxRecDepth 100000 in
theorem cntE_next (o : Int) (es : List (Int × Int)) (k : Nat) (h : k < es.length) : cntE o (es.take (k + 1)) = cntE o (es.take k) + (if dueF o (es.getD k (0, 0)).2 = true then 1 else 0) := by
  unfold cntE
  have e : es.getD k (0, 0) = es[k] := by rw [List.getD, List.getElem?_eq_getElem h]; rfl
  rw [List.take_add_one, List.getElem?_eq_getElem h, e]
  simp only [Option.toList, List.filter_append, List.length_append]
  split
  · rename_i hd
    simp [hd]
  · rename_i hd
    simp [hd]
set_option maxRecDepth 100000 in
theorem cntE_le (o : Int) (es : List (Int × Int)) (k : Nat) : cntE o (es.take k) ≤ k := by
  unfold cntE
  exact Nat.le_trans (List.length_filter_le _ _) (by rw [List.length_take]; exact Nat.min_le_left _ _)
/-- What Release answers. -/
def RrIs (w : World) (B b : Nat) (m : Value) (la : Int) (es : List (Int × Int)) (o : Int) (u : World) : Prop := ∃ v', Rl u B b v' m la (relE o es) ∧ (∀ k, v'.ownBlock = some k → w.heap.size ≤ k) ∧ Cf (· = b) w u
set_option maxRecDepth 100000 in
set_option maxHeartbeats 4000000 in
theorem rrel_any (w : World) (B b : Nat) (v m : Value) (la : Int) (es : List (Int × Int)) (o : Int) (h : Rl w B b v m la es) (hb : B ≤ b) :
    Calls Tryd.prog 31 #[pB b, .int .i64 o] w fun e u => e = .returned (.int .i64 (cntE o es : Nat)) ∧ Hid (RrIs w B b m la es o u) := by
  obtain ⟨ao, cap, rfl, hc⟩ := h.own.cells
  have hbl := lt_some h.box
  have HC := hidden hc
  have HH := hidden h
  have hlen := h.len
  have hlI : (es.length : Int) ≤ 65536 := by omega
  have fb : w.frozen? ⟨b, 0, none⟩ = false := by simp [World.frozen?, h.box]
  clear h hc
  obtain ⟨N, hN⟩ : ∃ N, es.length = N := ⟨_, rfl⟩
  have HN := hidden hN
  rw [hN] at hlen hlI HC
  clear hN
  have HCB : Hid (∀ u, Below w.heap.size w u → u.cell? ⟨b, 0, none⟩ = some (.slice ao N cap)) := hidden (fun u hu => (hu.cell (p := ⟨b, 0, none⟩) hbl).trans (by rw [cell_of_row _ _ 0 _ _ _ HH.out.box, HN.out]; rfl))
  obtain ⟨CE, hCE⟩ : ∃ CE, cntE o es = CE := ⟨_, rfl⟩
  have HCE := hidden hCE
  rw [hCE]
  clear hCE
  go_enter Tryd.func31, Tryd.ntmps31
  go_wp2_with fail
  go_loopw [5, 6, 7, 8] (fun c ov i _ wr => ∃ (k : Nat) (cn : Nat) (vo : Option Addr) (vc : Nat), k ≤ N ∧ cn ≤ k ∧ i = .int .i64 (k : Int) ∧ c = .int .i64 (cn : Int) ∧ ov = .slice vo k vc ∧ Hid (cntE o (es.take k) = cn) ∧ Hid (OwnE wr w.heap.size (.slice vo k vc) (relE o (es.take k))) ∧ Hid (Below w.heap.size w wr)) (fun _ _ i _ _ => N - (RowKit.intOf i).toNat)
  case atStart => exact ⟨0, 0, none, 0, by omega, by omega, rfl, rfl, rfl, hidden rfl, hidden (OwnE.nil _ _), hidden (Below.refl _ _)⟩
  case round =>
    obtain ⟨k, cn, vo, vc, hk, hcn, rfl, rfl, rfl, HCN, HO, HB⟩ := hrel
    have a0 := HCB.out wr HB.out
    by_cases hlt : k < N
    · rcases HC.out with h0 | ⟨g, rfl, _, hgl, hcc⟩
      · omega
      have hltI : (k : Int) < (N : Int) := by omega
      have a1 := (HB.out.cell (p := ⟨g, k * 2, none⟩) hgl).trans (hcc k hlt).1
      have a2 := (HB.out.cell (p := ⟨g, k * 2 + 1, none⟩) hgl).trans (hcc k hlt).2
      have HRN := hidden (relE_next o es k (by rw [HN.out]; exact hlt))
      have HCX := hidden (cntE_next o es k (by rw [HN.out]; exact hlt))
      have hrl : (relE o (es.take k)).length = k := by rw [relE_len, List.length_take, HN.out]; omega
      obtain ⟨R, hR⟩ : ∃ R, relE o (es.take k) = R := ⟨_, rfl⟩
      rw [hR] at HO HRN hrl
      obtain ⟨⟨z, z2⟩, hz⟩ : ∃ z, es.getD k (0, 0) = z := ⟨_, rfl⟩
      rw [hz] at HRN HCX a1 a2
      simp only at a1 a2
      simp only at HRN HCX
      rw [HCN.out] at HCX
      clear hz hR hcc
      obtain ⟨x, hx⟩ : ∃ x, wr.alloc (.cells #[.int .i64 z, .int .i64 z2] 71) = x := ⟨_, rfl⟩
      have hbx : Below wr.heap.size wr x := by rw [← hx]; exact bl_al (Below.refl _ _) (Nat.le_refl _) _
      have hxb : x.heap[wr.heap.size]? = some (.cells #[.int .i64 z, .int .i64 z2] 71 (0, 0)) := by rw [← hx]; exact al_row _ _
      have k0 : x.cell? ⟨wr.heap.size, 0, none⟩ = some (.int .i64 z) := by unfold World.cell?; rw [hxb]; rfl
      have k1 : x.cell? ⟨wr.heap.size, 1, none⟩ = some (.int .i64 z2) := by unfold World.cell?; rw [hxb]; rfl
      have f1 : x.frozen? ⟨wr.heap.size, 1, none⟩ = false := by simp [World.frozen?, hxb]
      have hxs := lt_some hxb
      have HXO := hidden (HO.out.below hbx)
      have HXB := hidden (bl_go HB.out (Nat.le_refl _) hbx)
      have HSW : Hid (w.heap.size ≤ wr.heap.size) := hidden HB.out.size
      have HOL : Hid (∀ q, (Value.slice vo k vc).ownBlock = some q → q < wr.heap.size) := hidden (fun q hq => (HO.out.lt hq).2)
      clear hbx HO HB
      by_cases hd : dueF o z2 = true
      · have hdd : 0 < z2 ∧ z2 ≤ o := by simpa [dueF] using hd
        have d1 : decide (0 < z2) = true := by simpa using hdd.1
        have d2 : decide (z2 ≤ o) = true := by simpa using hdd.2
        rw [if_pos hd] at HRN HCX
        obtain ⟨y, hy⟩ : ∃ y, x.setCell ⟨wr.heap.size, 1, none⟩ (.int .i64 0) = y := ⟨_, rfl⟩
        have hyb : y.heap[wr.heap.size]? = some (.cells #[.int .i64 z, .int .i64 0] 71 (0, 0)) := by rw [← hy]; exact set_row (cs := [.int .i64 z, .int .i64 z2]) hxb
        have hby : Below w.heap.size w y := by rw [← hy]; exact HXB.out.setCell (p := ⟨wr.heap.size, 1, none⟩) HSW.out _
        have HOY : Hid (OwnE y w.heap.size (.slice vo k vc) R) := hidden (by
          rw [← hy]
          refine HXO.out.cf (Cf.setCell (F := (· = wr.heap.size)) x (p := ⟨wr.heap.size, 1, none⟩) rfl _) (fun q hq e => ?_)
          have := HOL.out q hq
          omega)
        have HBYY := hidden hby
        have m0 : y.cell? ⟨wr.heap.size, 0, none⟩ = some (.int .i64 z) := by unfold World.cell?; rw [hyb]; rfl
        have m1 : y.cell? ⟨wr.heap.size, 1, none⟩ = some (.int .i64 0) := by unfold World.cell?; rw [hyb]; rfl
        obtain ⟨y2, hy2⟩ : ∃ q, y.alloc (.cells #[.int .i64 z, .int .i64 0] 71) = q := ⟨_, rfl⟩
        have hb2 : Below y.heap.size y y2 := by rw [← hy2]; exact bl_al (Below.refl _ _) (Nat.le_refl _) _
        have hys : y.heap.size = x.heap.size := by rw [← hy]; simp
        have q0 : y2.cell? ⟨x.heap.size, 0, none⟩ = some (.int .i64 z) := by rw [← hys, ← hy2]; simp
        have q1 : y2.cell? ⟨x.heap.size, 1, none⟩ = some (.int .i64 0) := by rw [← hys, ← hy2]; simp
        have HOZ := hidden (HOY.out.below hb2)
        have HBZ := hidden (bl_go HBYY.out (Nat.le_refl _) hb2)
        have hsy : w.heap.size ≤ y2.heap.size := HBZ.out.size
        have hbo : R.length + 1 ≤ 1000000 := by omega
        clear hb2 hdd hd hyb hby hxb
        go_wp2_with (at_builtin; refine app_e _ rfl _ _ rfl w.heap.size R (z, 0) _ x.heap.size rfl rfl HOZ.out q0 q1 hbo hsy ?_; refine Hid.out ?_)
        apply hidden
        intro v4 w4 ho4 hg4
        have HB4 : Hid (Below w.heap.size w w4) := hidden (HBZ.out.trans (own_below HOZ.out hsy hg4.grow))
        obtain ⟨vo4, vc4, e4, _⟩ := ho4.cells
        rw [List.length_append, hrl] at e4
        subst e4
        have HO4 : Hid (OwnE w4 w.heap.size (.slice vo4 (k + 1) vc4) (relE o (es.take (k + 1)))) := hidden (by rw [HRN.out]; exact ho4)
        clear hy2 q0 q1 HOZ HBZ hsy ho4 hg4 k0 k1 a0 a1 a2 m0 m1
        go_wp2_with fail
        go_roundw
        case rel => exact ⟨k + 1, cn + 1, vo4, vc4, by omega, by omega, by go_num, by go_num, rfl, HCX, HO4, HB4⟩
        case measure => simp [RowKit.intOf]; omega
      · rw [if_neg hd] at HRN HCX
        rw [Nat.add_zero] at HCX
        have HFIN : Hid (True) := hidden trivial
        obtain ⟨y2, hy2⟩ : ∃ q, x.alloc (.cells #[.int .i64 z, .int .i64 z2] 71) = q := ⟨_, rfl⟩
        have hb2 : Below x.heap.size x y2 := by rw [← hy2]; exact bl_al (Below.refl _ _) (Nat.le_refl _) _
        have q0 : y2.cell? ⟨x.heap.size, 0, none⟩ = some (.int .i64 z) := by rw [← hy2]; simp
        have q1 : y2.cell? ⟨x.heap.size, 1, none⟩ = some (.int .i64 z2) := by rw [← hy2]; simp
        have HOZ := hidden (HXO.out.below hb2)
        have HBZ := hidden (bl_go HXB.out (Nat.le_refl _) hb2)
        have hsy : w.heap.size ≤ y2.heap.size := HBZ.out.size
        have hbo : R.length + 1 ≤ 1000000 := by omega
        clear hb2 hxb HFIN
        by_cases d1 : 0 < z2
        · have d1b : decide (0 < z2) = true := by simpa using d1
          have d2b : decide (z2 ≤ o) = false := by
            unfold dueF at hd
            rw [d1b, Bool.true_and] at hd
            simpa using hd
          clear hd d1
          go_wp2_with (at_builtin; refine app_e _ rfl _ _ rfl w.heap.size R (z, z2) _ x.heap.size rfl rfl HOZ.out q0 q1 hbo hsy ?_; refine Hid.out ?_)
          apply hidden
          intro v4 w4 ho4 hg4
          have HB4 : Hid (Below w.heap.size w w4) := hidden (HBZ.out.trans (own_below HOZ.out hsy hg4.grow))
          obtain ⟨vo4, vc4, e4, _⟩ := ho4.cells
          rw [List.length_append, hrl] at e4
          subst e4
          have HO4 : Hid (OwnE w4 w.heap.size (.slice vo4 (k + 1) vc4) (relE o (es.take (k + 1)))) := hidden (by rw [HRN.out]; exact ho4)
          clear hy2 q0 q1 HOZ HBZ hsy ho4 hg4 k0 k1 a0 a1 a2
          go_wp2_with fail
          go_roundw
          case rel => exact ⟨k + 1, cn, vo4, vc4, by omega, by omega, by go_num, rfl, rfl, HCX, HO4, HB4⟩
          case measure => simp [RowKit.intOf]; omega
        · have d1b : decide (0 < z2) = false := by simpa using d1
          clear hd d1
          go_wp2_with (at_builtin; refine app_e _ rfl _ _ rfl w.heap.size R (z, z2) _ x.heap.size rfl rfl HOZ.out q0 q1 hbo hsy ?_; refine Hid.out ?_)
          apply hidden
          intro v4 w4 ho4 hg4
          have HB4 : Hid (Below w.heap.size w w4) := hidden (HBZ.out.trans (own_below HOZ.out hsy hg4.grow))
          obtain ⟨vo4, vc4, e4, _⟩ := ho4.cells
          rw [List.length_append, hrl] at e4
          subst e4
          have HO4 : Hid (OwnE w4 w.heap.size (.slice vo4 (k + 1) vc4) (relE o (es.take (k + 1)))) := hidden (by rw [HRN.out]; exact ho4)
          clear hy2 q0 q1 HOZ HBZ hsy ho4 hg4 k0 k1 a0 a1 a2
          go_wp2_with fail
          go_roundw
          case rel => exact ⟨k + 1, cn, vo4, vc4, by omega, by omega, by go_num, rfl, rfl, HCX, HO4, HB4⟩
          case measure => simp [RowKit.intOf]; omega
    · obtain rfl : k = N := by omega
      have hall : es.take k = es := List.take_of_length_le (by rw [HN.out]; exact Nat.le_refl _)
      rw [hall] at HO HCN
      have HP := hidden (HH.out.put (Below.refl _ _) HB.out HO.out (by rw [relE_len, HN.out]; exact hlen) hb)
      have HOL2 : Hid (∀ q, (Value.slice vo k vc).ownBlock = some q → w.heap.size ≤ q) := hidden (fun q hq => (HO.out.lt hq).1)
      have fb2 : wr.frozen? ⟨b, 0, none⟩ = false := (World.frozen?_of_block (a := ⟨b, 0, none⟩) (HB.out.block b hbl)).trans fb
      have HEQ : Hid (cn = CE) := hidden (by rw [← HCN.out]; exact HCE.out)
      clear HO HB hall
      go_wp2_with fail
      go_ret
      exact ⟨by rw [← HEQ.out]; rfl, hidden ⟨_, HP.out.1, HOL2.out, HP.out.2⟩⟩
set_option maxRecDepth 100000 in
theorem rgive_any (w : World) (B b : Nat) (v m : Value) (la : Int) (es : List (Int × Int)) (K : Int → Option Int) (p t : Int) (h : Rl w B b v m la es) (hE : Ent K es) (hP : Pgs K) (hb : B ≤ b) :
    Calls Tryd.prog 30 #[pB b, .int .i64 p, .int .i64 t] w fun e u => e = .returned (.int .i64 (giveE K p t)) ∧ Hid ((giveE K p t = 0 ∧ ∃ v', Rl u B b v' m la (insE es (p, t)) ∧ ∀ k, v'.ownBlock = some k → w.heap.size ≤ k) ∨ (giveE K p t ≠ 0 ∧ u = w)) ∧ Hid (Cf (· = b) w u) := by
  have HI := rnumber_any p w
  by_cases hp : isPg p
  · have e1 : decide (isPg p) = true := by simpa using hp
    rw [e1] at HI
    by_cases h1 : 0 ≤ t
    · by_cases h2 : t ≤ 1099511627776
      · have HF := hidden (rfind_any w B b v m la es p h)
        have HW := hidden (rwith_new w B b v m la es p t h (by have := hE.len hP; omega) hb)
        rw [wAll_ins] at HW
        have hk := hE.key p
        cases hK : (K p).isSome with
        | true =>
          have hG : giveE K p t = 100 := by unfold giveE; rw [if_pos hp, if_pos ⟨h1, h2⟩, hK]; rfl
          rw [hG]
          rw [hK] at hk
          have HK2 := hidden (hk.2 rfl)
          have t1 : ¬ t < 0 := by omega
          have t2 : ¬ 1099511627776 < t := by omega
          have t1b : decide (t < 0) = false := by simpa using t1
          have t2b : decide (1099511627776 < t) = false := by simpa using t2
          clear h hp e1 hK hG hE hP hk HW
          go_enter Tryd.func30, Tryd.ntmps30
          go_wp2_with (first
            | (go_at_call 26; refine same_call HI ?_)
            | (go_at_call 27; refine HF.out.mono ?_; rintro e u ⟨r, rfl, HR, rfl⟩; have hr0 : 0 ≤ r := HR.out.2 HK2.out; have hr1 : decide (0 ≤ r) = true := by simpa using hr0))
          go_ret
          exact ⟨rfl, hidden (.inr ⟨by decide, rfl⟩), hidden (Cf.refl _ _)⟩
        | false =>
          have hG : giveE K p t = 0 := by unfold giveE; rw [if_pos hp, if_pos ⟨h1, h2⟩, hK]; rfl
          rw [hG]
          rw [hK] at hk
          have HK2 : Hid (¬ keyE es p) := hidden (fun e => by have := hk.1 e; cases this)
          have t1 : ¬ t < 0 := by omega
          have t2 : ¬ 1099511627776 < t := by omega
          have t1b : decide (t < 0) = false := by simpa using t1
          have t2b : decide (1099511627776 < t) = false := by simpa using t2
          clear h hp e1 hK hG hE hP hk
          go_enter Tryd.func30, Tryd.ntmps30
          go_wp2_with (first
            | (go_at_call 26; refine same_call HI ?_)
            | (go_at_call 27; refine HF.out.mono ?_; rintro e u ⟨r, rfl, HR, rfl⟩; have hr1 : decide (0 ≤ r) = false := decide_eq_false (fun e => HK2.out (HR.out.1 e)))
            | (go_at_call 28; refine HW.out.mono ?_; rintro e u2 ⟨rfl, HV, HC⟩))
          go_ret
          exact ⟨rfl, hidden (.inl ⟨by first | rfl | trivial, HV.out⟩), HC⟩
      · have hG : giveE K p t = 1 := by unfold giveE; rw [if_pos hp, if_neg (fun h => h2 h.2)]
        rw [hG]
        have t1b : decide (t < 0) = false := by simp; omega
        have t2b : decide (1099511627776 < t) = true := by simp; omega
        clear h hp e1 hG hE hP h2
        go_enter Tryd.func30, Tryd.ntmps30
        go_wp2_with (go_at_call 26; refine same_call HI ?_)
        go_ret
        exact ⟨rfl, hidden (.inr ⟨by decide, rfl⟩), hidden (Cf.refl _ _)⟩
    · have hG : giveE K p t = 1 := by unfold giveE; rw [if_pos hp, if_neg (fun h => h1 h.1)]
      rw [hG]
      have t1b : decide (t < 0) = true := by simp; omega
      clear h hp e1 hG hE hP h1
      go_enter Tryd.func30, Tryd.ntmps30
      go_wp2_with (go_at_call 26; refine same_call HI ?_)
      go_ret
      exact ⟨rfl, hidden (.inr ⟨by decide, rfl⟩), hidden (Cf.refl _ _)⟩
  · have e1 : decide (isPg p) = false := by simpa using hp
    rw [e1] at HI
    have hG : giveE K p t = 30 := by unfold giveE; rw [if_neg hp]
    rw [hG]
    clear h hp e1 hG hE hP
    go_enter Tryd.func30, Tryd.ntmps30
    go_wp2_with (go_at_call 26; refine same_call HI ?_)
    go_ret
    exact ⟨rfl, hidden (.inr ⟨by decide, rfl⟩), hidden (Cf.refl _ _)⟩
end Go.Proofs.YtedgpcckbdnijaaDoor

/- The document's marks. -/

namespace Go.Proofs.YtedgpcckbdnijaaDoor
open Go.RowKit

/-- A mark of the document's: its number, the entries' slice, the entries. -/
structure Dq where
  n : Int
  v : Value
  es : List (Int × Int)
def dvC (D : List Dq) : List Value := D.flatMap (fun d => [.int .i64 d.n, d.v])
set_option maxRecDepth 100000 in
theorem dvC_len : ∀ D : List Dq, (dvC D).length = D.length * 2
  | [] => rfl
  | q :: M => by
    have := dvC_len M
    unfold dvC at *
    simp [List.flatMap_cons] at *
    omega
set_option maxRecDepth 100000 in
theorem dvC_at : ∀ (D : List Dq) (i : Nat) (d : Dq), D[i]? = some d → (dvC D)[2 * i]? = some (.int .i64 d.n) ∧ (dvC D)[2 * i + 1]? = some d.v
  | [], i, q, h => by simp at h
  | q' :: M, 0, q, h => by
    simp at h
    subst h
    exact ⟨rfl, rfl⟩
  | q' :: M, i + 1, q, h => by
    have := dvC_at M i q (by simpa using h)
    unfold dvC at *
    rw [List.flatMap_cons]
    exact ⟨by simpa [show 2 * (i + 1) = 2 * i + 2 by omega] using this.1, by simpa [show 2 * (i + 1) + 1 = 2 * i + 1 + 2 by omega] using this.2⟩
set_option maxRecDepth 100000 in
theorem dvC_append (M N : List Dq) : dvC (M ++ N) = dvC M ++ dvC N := by unfold dvC; simp
def OwnD (w : World) (v : Value) (D : List Dq) : Prop := w.ownsRow 0 90 2 v D.length (dvC D)
set_option maxRecDepth 100000 in
theorem OwnD.nil (w : World) : OwnD w (.slice none 0 0) [] := World.ownsRow_nil w 0 90 2
set_option maxRecDepth 100000 in
theorem OwnD.lt {w : World} {v : Value} {D : List Dq} (h : OwnD w v D) {k : Nat} (hk : v.ownBlock = some k) : k < w.heap.size := by
  unfold OwnD at h
  exact (h.lt k hk).2
set_option maxRecDepth 100000 in
theorem OwnD.cf {w u : World} {v : Value} {D : List Dq} {F : Nat → Prop} (h : OwnD w v D) (hc : Cf F w u) (hf : ∀ k, v.ownBlock = some k → ¬ F k) : OwnD u v D := by
  unfold OwnD at *
  rcases h.2 with h2 | ⟨g, cap, cur, e, hg, hh, rest⟩
  · exact ⟨h.1, .inl h2⟩
  · refine ⟨h.1, .inr ⟨g, cap, cur, e, hg, ?_, rest⟩⟩
    rw [hc.block g (lt_some hh) (hf g (by rw [e]; rfl))]
    exact hh
set_option maxRecDepth 100000 in
theorem OwnD.ty {w : World} {v : Value} {D : List Dq} (h : OwnD w v D) {k : Nat} (hk : v.ownBlock = some k) : ∃ cs, w.heap[k]? = some (.cells cs 90 (0, 0)) := by
  unfold OwnD at h
  rcases h.2 with ⟨rfl, _⟩ | ⟨g, cap, cur, rfl, _, hh, _⟩
  · cases hk
  · injection hk with hk
    have hk' : g = k := hk
    rw [← hk']
    exact ⟨_, hh⟩
set_option maxRecDepth 100000 in
theorem OwnD.shape {w : World} {v : Value} {D : List Dq} (h : OwnD w v D) : ∃ ao cap, v = .slice ao D.length cap ∧ (D.length = 0 ∨ ∃ g, ao = some ⟨g, 0, none⟩ ∧ g < w.heap.size ∧ D.length ≤ cap ∧ cap ≤ maxLen ∧ ∀ (i : Nat) (d : Dq), D[i]? = some d → w.cell? ⟨g, i * 2, none⟩ = some (.int .i64 d.n) ∧ w.cell? ⟨g, i * 2 + 1, none⟩ = some d.v) := by
  unfold OwnD at h
  rcases h.2 with ⟨rfl, h0⟩ | ⟨g, cap, cur, rfl, hg, hh, hnc, hm, hs, ht⟩
  · exact ⟨none, 0, by rw [h0], .inl h0⟩
  · refine ⟨_, cap, rfl, .inr ⟨g, rfl, lt_some hh, hnc, hm, fun i q hq => ?_⟩⟩
    have hlt := (List.getElem?_eq_some_iff.1 hq).1
    obtain ⟨h1, h2⟩ := dvC_at D i q hq
    have e1 := World.ownsRow.cellAt h (i * 2) (by omega)
    have e2 := World.ownsRow.cellAt h (i * 2 + 1) (by omega)
    rw [Nat.mul_comm] at h1 h2
    rw [e1, e2]
    exact ⟨h1, h2⟩
set_option maxRecDepth 100000 in
theorem OwnD.take {w : World} {g n cap : Nat} {D : List Dq} (h : OwnD w (.slice (some ⟨g, 0, none⟩) n cap) D) (k : Nat) (hk : k ≤ D.length) : OwnD w (.slice (some ⟨g, 0, none⟩) k cap) (D.take k) := by
  unfold OwnD at *
  rcases h.2 with ⟨e, _⟩ | ⟨g', cap', cur, e, hg, hh, hnc, hm, hs, ht⟩
  · cases e
  · cases e
    have hl : (D.take k).length = k := by rw [List.length_take]; omega
    refine ⟨by rw [dvC_len], .inr ⟨g, cap, cur, by rw [hl], hg, hh, by omega, hm, hs, ?_⟩⟩
    have h1 : dvC D = dvC (D.take k) ++ dvC (D.drop k) := by rw [← dvC_append, List.take_append_drop]
    rw [hl]
    have h2 := congrArg (List.take (k * 2)) ht
    rw [List.take_take, h1, List.take_left' (by rw [dvC_len, hl])] at h2
    rw [← h2]
    congr 1
    omega
set_option maxRecDepth 100000 in
theorem infoD : (Tryd.prog.info? 90).map (fun i => (i.zero, i.size, i.bytes)) = some (some (.agg #[.int .i64 0, .slice none 0 0]), 2, 32) := by kernel_rfl
set_option maxRecDepth 100000 in
theorem run_app_d (w : World) (ty : TypeId) (D : List Dq) (q : Dq) (mv : Value) (gs : Nat) (hown : OwnD w mv D) (h0 : w.cell? ⟨gs, 0, none⟩ = some (.int .i64 q.n)) (h1 : w.cell? ⟨gs, 1, none⟩ = some q.v) (hq : q.v.oneCell' = true) (hM : D.length ≤ 1000000) :
    ∃ v' w', (Builtin.append_ #[66, 66] ty #[mv, .slice (some ⟨gs, 0, none⟩) 1 1]).run Tryd.prog w = .ok v' w' ∧ OwnD w' v' (D ++ [q]) ∧ Gr w mv w' v' := by
  obtain ⟨i0, hi, hz0, hz1, hz2⟩ := info_parts infoD
  obtain ⟨v', w', hr, h2, h3, _, h4⟩ := run_append_own_at (P := Tryd.prog) w 0 66 ty 90 i0 (.agg #[.int .i64 0, .slice none 0 0]) 2 32 Tryd.underlying66 hi hz0 hz1 hz2 rfl (by decide) mv D.length (dvC D) hown ⟨gs, 0, none⟩ 1 1 [.int .i64 q.n, q.v] rfl
    (fun j u hu => by
      match j, hu with
      | 0, hu => simp at hu; subst hu; simpa [Addr.add_lit] using h0
      | 1, hu => simp at hu; subst hu; simpa [Addr.add_lit] using h1
      | j + 2, hu => simp at hu) (by
        intro v hv
        simp only [List.mem_cons, List.not_mem_nil, or_false] at hv
        rcases hv with rfl | rfl
        · rfl
        · exact hq) (by unfold maxLen; omega) (by omega) (Nat.zero_le _)
  refine ⟨v', w', hr, ?_, ⟨h3, h4.imp id fun e => ⟨_, e, Nat.le_refl _⟩⟩⟩
  unfold OwnD
  rw [dvC_append, List.length_append]
  exact h2
set_option maxRecDepth 100000 in
theorem step_d {ops : Array Oper} {o : Oper} {a : Act} {w : World} {K : Act → World → Prop} {Q : Exit → Act → World → Prop} {E : Prop} (hgd : o.guard = none) (s x : Operand)
    (ho : o.op = .call { callee := .builtin .append, args := #[s, x], argTypes := #[66, 66] }) (D : List Dq) (q : Dq) (mv : Value) (gs : Nat) (hs : a.eval s = mv) (hx : a.eval x = .slice (some ⟨gs, 0, none⟩) 1 1)
    (hown : OwnD w mv D) (h0 : w.cell? ⟨gs, 0, none⟩ = some (.int .i64 q.n)) (h1 : w.cell? ⟨gs, 1, none⟩ = some q.v) (hq : q.v.oneCell' = true) (hM : D.length ≤ 1000000)
    (h : ∀ v' w', OwnD w' v' (D ++ [q]) → Gr w mv w' v' → K (a.put o.dst v') w') :
    if Region.wanted o (yielded ops a.tmps) = true then Oper.wp Tryd.prog o a w K Q else E := by
  have hw : Region.wanted o (yielded ops a.tmps) = true := by simp [Region.wanted, hgd]
  rw [if_pos hw]
  obtain ⟨v', w', hr, h2, h3⟩ := run_app_d w o.type D q mv gs hown h0 h1 hq hM
  have hfin := h v' w' h2 h3
  unfold Oper.wp
  simp [execOp, ho, resolve, invoke, builtin, hs, hx, hr, Result.andThen]
  exact hfin
/-- The document's list with its marks. -/
structure Rm (w : World) (b : Nat) (v mk : Value) (la : Int) (es : List (Int × Int)) (D : List Dq) : Prop where
  rl : Rl w 0 b v mk la es
  row : OwnD w mk D
  ents : ∀ d ∈ D, OwnE w 0 d.v d.es ∧ d.es.length ≤ 65536
set_option maxRecDepth 100000 in
theorem rl_ne_mk : 68 ≠ 90 := by decide
set_option maxRecDepth 100000 in
theorem rl_ne_en : 68 ≠ 71 := by decide
set_option maxRecDepth 100000 in
theorem mk_ne_en : 90 ≠ 71 := by decide
set_option maxRecDepth 100000 in
theorem OwnD.noty {w : World} {v : Value} {D : List Dq} (h : OwnD w v D) {g : Nat} {c : Array Value} {t : TypeId} {fz : Nat × Nat} (hg : w.heap[g]? = some (.cells c t fz)) (ht : t ≠ 90) : v.ownBlock ≠ some g := by
  intro e
  obtain ⟨cs, hcs⟩ := h.ty e
  rw [hg] at hcs
  injection hcs with hcs
  injection hcs with _ h2 _
  exact ht h2
set_option maxRecDepth 100000 in
theorem OwnE.ty {w : World} {B : Nat} {v : Value} {l : List (Int × Int)} (h : OwnE w B v l) {k : Nat} (hk : v.ownBlock = some k) : ∃ cs, w.heap[k]? = some (.cells cs 71 (0, 0)) := by
  unfold OwnE at h
  rcases h.2 with ⟨rfl, _⟩ | ⟨g, cap, cur, rfl, _, hh, _⟩
  · cases hk
  · injection hk with hk
    have hk' : g = k := hk
    rw [← hk']
    exact ⟨_, hh⟩
set_option maxRecDepth 100000 in
theorem OwnE.noty {w : World} {B : Nat} {v : Value} {l : List (Int × Int)} (h : OwnE w B v l) {g : Nat} {c : Array Value} {t : TypeId} {fz : Nat × Nat} (hg : w.heap[g]? = some (.cells c t fz)) (ht : t ≠ 71) : v.ownBlock ≠ some g := by
  intro e
  obtain ⟨cs, hcs⟩ := h.ty e
  rw [hg] at hcs
  injection hcs with hcs
  injection hcs with _ h2 _
  exact ht h2
set_option maxRecDepth 100000 in
/-- Its entries are others; its marks stay. -/
theorem Rm.keep {w u : World} {b : Nat} {v v' mk : Value} {la : Int} {es es' : List (Int × Int)} {D : List Dq} (h : Rm w b v mk la es D) (hr : Rl u 0 b v' mk la es') (hc : Cf (· = b) w u) : Rm u b v' mk la es' D :=
  ⟨hr, h.row.cf hc (fun k hk e => h.row.noty h.rl.box rl_ne_mk (by rw [hk, e])), fun d hd => ⟨(h.ents d hd).1.cf hc (fun k hk e => (h.ents d hd).1.noty h.rl.box rl_ne_en (by rw [hk, e])), (h.ents d hd).2⟩⟩
set_option maxRecDepth 100000 in
theorem Rm.cf {w u : World} {b : Nat} {v mk : Value} {la : Int} {es : List (Int × Int)} {D : List Dq} {F : Nat → Prop} (h : Rm w b v mk la es D) (hc : Cf F w u) (h1 : ¬ F b) (h2 : ∀ k, mk.ownBlock = some k → ¬ F k) (h3 : ∀ k, v.ownBlock = some k → ¬ F k) (h4 : ∀ d ∈ D, ∀ k, d.v.ownBlock = some k → ¬ F k) : Rm u b v mk la es D :=
  ⟨⟨(hc.block b (lt_some h.rl.box) h1).trans h.rl.box, h.rl.own.cf hc h3, h.rl.len⟩, h.row.cf hc h2, fun d hd => ⟨(h.ents d hd).1.cf hc (h4 d hd), (h.ents d hd).2⟩⟩
set_option maxRecDepth 100000 in
theorem Rm.on {w u : World} {b : Nat} {v mk : Value} {la : Int} {es : List (Int × Int)} {D : List Dq} (h : Rm w b v mk la es D) (hb : Below w.heap.size w u) : Rm u b v mk la es D := h.cf (F := fun _ => False) (Cf.of_below hb) (fun h => h) (fun _ _ h => h) (fun _ _ h => h) (fun _ _ _ _ h => h)
/-- The world where the append stands. -/
def Wm (x : World) (L : Int) (v : Value) (W : World) : Prop := ∃ k, W = (x.drewN k).alloc (.cells #[.int .i64 L, v] 90)
set_option maxRecDepth 100000 in
theorem wm_ahead {x W : World} {b : Nat} {v mk : Value} {la : Int} {es : List (Int × Int)} {D : List Dq} (h : Rm x b v mk la es D) (hW : Wm x la v W) : OwnD W mk D ∧ W.cell? ⟨x.heap.size, 0, none⟩ = some (.int .i64 la) ∧ W.cell? ⟨x.heap.size, 1, none⟩ = some v ∧ Below x.heap.size x W := by
  obtain ⟨k, rfl⟩ := hW
  have hd : Below x.heap.size x (x.drewN k) := ⟨rfl, rfl, rfl, Nat.le_refl _, fun _ _ => rfl⟩
  have h1 : Below (x.drewN k).heap.size (x.drewN k) ((x.drewN k).alloc (.cells #[.int .i64 la, v] 90)) := bl_al (Below.refl _ _) (Nat.le_refl _) _
  have hb := al_row (x.drewN k) (.cells #[.int .i64 la, v] 90)
  have hb' : ((x.drewN k).alloc (.cells #[.int .i64 la, v] 90)).heap[x.heap.size]? = some (.cells #[.int .i64 la, v] 90 (0, 0)) := hb
  have hB := hd.trans h1
  refine ⟨(h.on hB).row, ?_, ?_, hB⟩
  · unfold World.cell?; rw [hb']; rfl
  · unfold World.cell?; rw [hb']; rfl
set_option maxRecDepth 100000 in
theorem wm_done {x W w' : World} {b : Nat} {v mk v' : Value} {la : Int} {es : List (Int × Int)} {D : List Dq} (h : Rm x b v mk la es D) (hW : Wm x la v W) (ho : OwnD w' v' (D ++ [⟨la, v, es⟩])) (hg : Gr W mk w' v') :
    w'.cell? ⟨b, 1, none⟩ = some mk ∧ w'.frozen? ⟨b, 1, none⟩ = false ∧ (Rm (w'.setCell ⟨b, 1, none⟩ v') b v v' la es (D ++ [⟨la, v, es⟩]) ∧ Cf (fun k => k = b ∨ mk.ownBlock = some k) x (w'.setCell ⟨b, 1, none⟩ v')) ∧ (∀ k, v'.ownBlock = some k → mk.ownBlock = some k ∨ x.heap.size ≤ k) := by
  obtain ⟨_, _, _, h5⟩ := wm_ahead h hW
  have hc : Cf (fun k => mk.ownBlock = some k) x w' := (Cf.of_below h5).go hg.cfo
  have hbx : w'.heap[b]? = some (.cells #[v, mk, .int .i64 la] 68 (0, 0)) := (hc.block b (lt_some h.rl.box) (h.row.noty h.rl.box rl_ne_mk)).trans h.rl.box
  have hcb : Cf (· = b) w' (w'.setCell ⟨b, 1, none⟩ v') := Cf.setCell (F := (· = b)) w' (p := ⟨b, 1, none⟩) rfl _
  have hen : ∀ (u : Value) (l : List (Int × Int)), OwnE x 0 u l → OwnE (w'.setCell ⟨b, 1, none⟩ v') 0 u l := fun u l hu =>
    (hu.cf hc (fun k hk e => by
      obtain ⟨cs, hcs⟩ := h.row.ty e
      exact hu.noty hcs mk_ne_en hk)).cf hcb (fun k hk e => (hu.noty h.rl.box rl_ne_en) (by rw [hk, e]))
  refine ⟨by rw [cell_of_row _ _ 1 _ _ _ hbx]; rfl, by simp [World.frozen?, hbx], ⟨⟨⟨set_row (cs := [v, mk, .int .i64 la]) hbx, hen v es h.rl.own, h.rl.len⟩, ho.cf hcb (fun k hk e => ho.noty hbx rl_ne_mk (by rw [hk, e])), fun d hd => ?_⟩, (hc.wd fun k hk => .inr hk).go (hcb.wd fun k hk => .inl hk)⟩, fun k hk => ?_⟩
  · rcases List.mem_append.1 hd with hd | hd
    · exact ⟨hen d.v d.es (h.ents d hd).1, (h.ents d hd).2⟩
    · simp only [List.mem_singleton] at hd
      subst hd
      exact ⟨hen v es h.rl.own, h.rl.len⟩
  · rcases hg.own with e | ⟨k', e, hk'⟩
    · exact .inl (by rw [← e]; exact hk)
    · right
      rw [e] at hk
      injection hk with hk
      have := h5.size
      omega
def RkIs (w : World) (b : Nat) (v mk : Value) (la : Int) (es : List (Int × Int)) (D : List Dq) (u : World) : Prop := ∃ mk', Rm u b v mk' (la + 1) es (D ++ [⟨la + 1, v, es⟩]) ∧ Cf (fun k => k = b ∨ mk.ownBlock = some k) w u ∧ (∀ k, mk'.ownBlock = some k → mk.ownBlock = some k ∨ w.heap.size ≤ k)
set_option maxRecDepth 100000 in
set_option maxHeartbeats 2000000 in
theorem rmark_any (w : World) (b : Nat) (v mk : Value) (la : Int) (es : List (Int × Int)) (D : List Dq) (h : Rm w b v mk la es D) (hl : 0 ≤ la ∧ la < 4611686018427387904) (hD : D.length ≤ 1000000) :
    Calls Tryd.prog 36 #[pB b] w fun e u => e = .returned (.int .i64 (la + 1)) ∧ Hid (RkIs w b v mk la es D u) := by
  have hbx := h.rl.box
  have c2 : w.cell? ⟨b, 2, none⟩ = some (.int .i64 la) := by rw [cell_of_row _ _ 2 _ _ _ hbx]; rfl
  have f2 : w.frozen? ⟨b, 2, none⟩ = false := by simp [World.frozen?, hbx]
  obtain ⟨x, hx⟩ : ∃ x, w.setCell ⟨b, 2, none⟩ (.int .i64 (la + 1)) = x := ⟨_, rfl⟩
  have hcb : Cf (· = b) w x := by rw [← hx]; exact Cf.setCell (F := (· = b)) w (p := ⟨b, 2, none⟩) rfl _
  have hxb : x.heap[b]? = some (.cells #[v, mk, .int .i64 (la + 1)] 68 (0, 0)) := by rw [← hx]; exact set_row (cs := [v, mk, .int .i64 la]) hbx
  have HX : Hid (Rm x b v mk (la + 1) es D) := hidden ⟨⟨hxb, h.rl.own.cf hcb (fun k hk e => h.rl.own.noty hbx rl_ne_en (by rw [hk, e])), h.rl.len⟩, h.row.cf hcb (fun k hk e => h.row.noty hbx rl_ne_mk (by rw [hk, e])), fun d hd => ⟨(h.ents d hd).1.cf hcb (fun k hk e => (h.ents d hd).1.noty hbx rl_ne_en (by rw [hk, e])), (h.ents d hd).2⟩⟩
  have HCB := hidden hcb
  obtain ⟨ao, cap, hv, _⟩ := h.rl.own.cells
  obtain ⟨mo, mc, hm, _⟩ := h.row.shape
  have hv1 : v.oneCell' = true := by rw [hv]; rfl
  have c0 : x.cell? ⟨b, 0, none⟩ = some v := by rw [cell_of_row _ _ 0 _ _ _ hxb]; rfl
  have c1 : x.cell? ⟨b, 1, none⟩ = some mk := by rw [cell_of_row _ _ 1 _ _ _ hxb]; rfl
  have c2x : x.cell? ⟨b, 2, none⟩ = some (.int .i64 (la + 1)) := by rw [cell_of_row _ _ 2 _ _ _ hxb]; rfl
  have hbl := lt_some hxb
  have hxs : x.heap.size = w.heap.size := by rw [← hx]; simp
  clear h hbx hcb hxb
  have HXS := hidden hxs
  subst hv hm
  clear hxs
  go_enter Tryd.func36, Tryd.ntmps36
  go_wp2_with fail
  go_region_law (first
    | (refine step_d rfl (.tmp 15) (.tmp 25) rfl D ⟨la + 1, .slice ao es.length cap, es⟩ (.slice mo D.length mc) x.heap.size rfl rfl (wm_ahead HX.out (by first | exact ⟨0, rfl⟩ | exact ⟨1, rfl⟩ | exact ⟨2, rfl⟩ | exact ⟨3, rfl⟩ | exact ⟨_, rfl⟩)).1 (wm_ahead HX.out (by first | exact ⟨0, rfl⟩ | exact ⟨1, rfl⟩ | exact ⟨2, rfl⟩ | exact ⟨3, rfl⟩ | exact ⟨_, rfl⟩)).2.1 (wm_ahead HX.out (by first | exact ⟨0, rfl⟩ | exact ⟨1, rfl⟩ | exact ⟨2, rfl⟩ | exact ⟨3, rfl⟩ | exact ⟨_, rfl⟩)).2.2.1 rfl hD ?_; intro v' w' ho hg; have hd := wm_done HX.out (by first | exact ⟨0, rfl⟩ | exact ⟨1, rfl⟩ | exact ⟨2, rfl⟩ | exact ⟨3, rfl⟩ | exact ⟨_, rfl⟩) ho hg; obtain ⟨vo, vc, rfl, _⟩ := ho.shape; have c4 := hd.1; have f4 := hd.2.1; have HD := hidden hd.2.2; clear ho hg hd))
  all_goals
    have hl2 : (D ++ [(⟨la + 1, .slice ao es.length cap, es⟩ : Dq)]).length = D.length + 1 := by simp
    rw [hl2] at HD
    obtain ⟨z, hz⟩ : ∃ z, w'.setCell ⟨b, 1, none⟩ (.slice vo (D.length + 1) vc) = z := ⟨_, rfl⟩
    rw [hz] at HD ⊢
    have c5 : z.cell? ⟨b, 2, none⟩ = some (.int .i64 (la + 1)) := by rw [cell_of_row _ _ 2 _ _ _ HD.out.1.1.rl.box]; rfl
    clear hz c4 f4 c0 c1 c2x hl2
    go_wp2_with fail
    go_ret
    refine ⟨rfl, hidden ⟨_, HD.out.1.1, (HCB.out.wd fun k hk => .inl hk).go HD.out.1.2, fun k hk => ?_⟩⟩
    have := HD.out.2 k hk
    rw [HXS.out] at this
    exact this
/-- Where the mark stands to which a Back goes. -/
def dbI (D : List Dq) (la z : Int) : Option Nat := D.findIdx? (fun d => d.n == z && decide (la - z < 16))
def RbIs (w : World) (b : Nat) (v mk : Value) (la : Int) (es : List (Int × Int)) (D : List Dq) (z : Int) (e : Ending) (u : World) : Prop := ∃ r : Int, e = .returned (.int .i64 r) ∧ Hid ((∃ i d mk', dbI D la z = some i ∧ r = 0 ∧ D[i]? = some d ∧ mk'.ownBlock = mk.ownBlock ∧ Rm u b d.v mk' la d.es (D.take (i + 1))) ∨ (dbI D la z = none ∧ r = 1 ∧ Rm u b v mk la es D)) ∧ Hid (Cf (· = b) w u)
set_option maxRecDepth 100000 in
theorem dbI_at {D : List Dq} {la z : Int} {i : Nat} {d : Dq} (hd : D[i]? = some d) (hy : (d.n == z && decide (la - z < 16)) = true) (hb : ∀ (j : Nat) (y : Dq), j < i → D[j]? = some y → (y.n == z && decide (la - z < 16)) = false) : dbI D la z = some i := by
  unfold dbI
  rw [List.findIdx?_eq_some_iff_getElem]
  have hk := (List.getElem?_eq_some_iff.1 hd)
  refine ⟨hk.1, by rw [hk.2]; exact hy, fun j hj => ?_⟩
  have hk1 := hk.1
  rw [hb j _ hj (List.getElem?_eq_getElem (by omega))]
  decide
set_option maxRecDepth 100000 in
theorem dbI_no {D : List Dq} {la z : Int} (hb : ∀ (j : Nat) (y : Dq), D[j]? = some y → (y.n == z && decide (la - z < 16)) = false) : dbI D la z = none := by
  unfold dbI
  rw [List.findIdx?_eq_none_iff]
  intro x hx
  obtain ⟨j, hj, rfl⟩ := List.getElem_of_mem hx
  exact hb j _ (List.getElem?_eq_getElem hj)
set_option maxRecDepth 100000 in
set_option maxHeartbeats 4000000 in
theorem rback_any (w : World) (b : Nat) (v mk : Value) (la : Int) (es : List (Int × Int)) (D : List Dq) (z : Int) (h : Rm w b v mk la es D) (hl : 0 ≤ la ∧ la ≤ 4611686018427387904) (hn : ∀ d ∈ D, 0 ≤ d.n ∧ d.n ≤ la) :
    Calls Tryd.prog 37 #[pB b, .int .i64 z] w (RbIs w b v mk la es D z) := by
  have hbx := h.rl.box
  have c0 : w.cell? ⟨b, 0, none⟩ = some v := by rw [cell_of_row _ _ 0 _ _ _ hbx]; rfl
  have c1 : w.cell? ⟨b, 1, none⟩ = some mk := by rw [cell_of_row _ _ 1 _ _ _ hbx]; rfl
  have c2 : w.cell? ⟨b, 2, none⟩ = some (.int .i64 la) := by rw [cell_of_row _ _ 2 _ _ _ hbx]; rfl
  have f0 : w.frozen? ⟨b, 0, none⟩ = false := by simp [World.frozen?, hbx]
  have f1 : w.frozen? ⟨b, 1, none⟩ = false := by simp [World.frozen?, hbx]
  have HW := hidden h
  have HNN := hidden hn
  obtain ⟨mo, mc, rfl, hsh⟩ := h.row.shape
  have HSH := hidden hsh
  obtain ⟨N, hN⟩ : ∃ N, D.length = N := ⟨_, rfl⟩
  have HN := hidden hN
  have hNI : (N : Int) ≤ 9223372036854775807 := by
    rcases hsh with h0 | ⟨g, _, _, h1, h2, _⟩
    · omega
    · unfold maxLen at h2; omega
  rw [hN] at c1
  clear h hbx hn hsh hN
  go_enter Tryd.func37, Tryd.ntmps37
  go_wp2_with fail
  go_loopw [5] (fun i wr => wr = w ∧ ∃ k : Nat, k ≤ N ∧ i = .int .i64 (k : Int) ∧ Hid (∀ (j : Nat) (y : Dq), j < k → D[j]? = some y → (y.n == z && decide (la - z < 16)) = false)) (fun i _ => N - (RowKit.intOf i).toNat)
  case atStart => exact ⟨rfl, 0, by omega, rfl, hidden (fun j y hj => by omega)⟩
  case round =>
    obtain ⟨hwr, i, hi, rfl, HJ⟩ := hrel
    have hwr2 := hwr.symm
    subst hwr2
    clear hwr
    by_cases hlt : i < N
    · obtain ⟨d, hd⟩ : ∃ d, D[i]? = some d := ⟨_, List.getElem?_eq_getElem (by rw [HN.out]; exact hlt)⟩
      have hltI : (i : Int) < (N : Int) := by omega
      obtain ⟨g, rfl, hgl, hcap, hmx, e1, e2⟩ : ∃ g, mo = some ⟨g, 0, none⟩ ∧ g < w.heap.size ∧ N ≤ mc ∧ mc ≤ maxLen ∧ w.cell? ⟨g, i * 2, none⟩ = some (.int .i64 d.n) ∧ w.cell? ⟨g, i * 2 + 1, none⟩ = some d.v := by
        rcases HSH.out with h0 | ⟨g, e, h1, h2, h3, h4⟩
        · rw [HN.out] at h0; omega
        · obtain ⟨a1, a2⟩ := h4 i d hd
          exact ⟨g, e, h1, by rw [← HN.out]; exact h2, h3, a1, a2⟩
      have hdn := HNN.out d (List.mem_of_getElem? hd)
      have HDD := hidden hd
      obtain ⟨vo, vc, hvv, _⟩ := (HW.out.ents d (List.mem_of_getElem? hd)).1.cells
      rw [hvv] at e2
      have HVV := hidden hvv
      obtain ⟨q, hq⟩ : ∃ q, d.n = q := ⟨_, rfl⟩
      rw [hq] at e1 hdn
      have HQ := hidden hq
      clear hd hvv hq
      by_cases hqz : q = z
      · subst hqz
        have b1 : (q == q) = true := by simp
        by_cases h16 : la - q < 16
        · have b2 : decide (la - q < 16) = true := by simpa using h16
          have HAT : Hid (dbI D la q = some i) := hidden (dbI_at HDD.out (by rw [HQ.out, b1, b2]; rfl) HJ.out)
          have hcapI : (i : Int) + 1 ≤ (mc : Int) := by omega
          have hmI : (mc : Int) ≤ 9223372036854775807 := by unfold maxLen at hmx; omega
          obtain ⟨x, hx⟩ : ∃ x, w.setCell ⟨b, 0, none⟩ (.slice vo d.es.length vc) = x := ⟨_, rfl⟩
          have hxb : x.heap[b]? = some (.cells #[.slice vo d.es.length vc, .slice (some ⟨g, 0, none⟩) D.length mc, .int .i64 la] 68 (0, 0)) := by rw [← hx]; exact set_row (cs := [v, .slice (some ⟨g, 0, none⟩) D.length mc, .int .i64 la]) HW.out.rl.box
          have x1 : x.cell? ⟨b, 1, none⟩ = some (.slice (some ⟨g, 0, none⟩) N mc) := by rw [cell_of_row _ _ 1 _ _ _ hxb, HN.out]; rfl
          have xf1 : x.frozen? ⟨b, 1, none⟩ = false := by simp [World.frozen?, hxb]
          have hcx : Cf (· = b) w x := by rw [← hx]; exact Cf.setCell (F := (· = b)) w (p := ⟨b, 0, none⟩) rfl _
          have HFIN : Hid (Rm (x.setCell ⟨b, 1, none⟩ (.slice (some ⟨g, 0, none⟩) (i + 1) mc)) b d.v (.slice (some ⟨g, 0, none⟩) (i + 1) mc) la d.es (D.take (i + 1)) ∧ Cf (· = b) w (x.setCell ⟨b, 1, none⟩ (.slice (some ⟨g, 0, none⟩) (i + 1) mc))) := hidden (by
            have hcy : Cf (· = b) x (x.setCell ⟨b, 1, none⟩ (.slice (some ⟨g, 0, none⟩) (i + 1) mc)) := Cf.setCell (F := (· = b)) x (p := ⟨b, 1, none⟩) rfl _
            have hct := hcx.go hcy
            have hen : ∀ (u : Value) (l : List (Int × Int)), OwnE w 0 u l → OwnE (x.setCell ⟨b, 1, none⟩ (.slice (some ⟨g, 0, none⟩) (i + 1) mc)) 0 u l := fun u l hu => hu.cf hct (fun k hk e => (hu.noty HW.out.rl.box rl_ne_en) (by rw [hk, e]))
            have hde := HW.out.ents d (List.mem_of_getElem? HDD.out)
            have hro := HW.out.row.take (i + 1) (by rw [HN.out]; omega)
            refine ⟨⟨⟨?_, hen d.v d.es hde.1, hde.2⟩, hro.cf hct (fun k hk e => (HW.out.row.noty HW.out.rl.box rl_ne_mk) (by rw [← e, ← hk]; rfl)), fun d' hd' => ?_⟩, hct⟩
            · rw [HVV.out]
              exact set_row (cs := [.slice vo d.es.length vc, .slice (some ⟨g, 0, none⟩) D.length mc, .int .i64 la]) hxb
            · have := HW.out.ents d' (List.mem_of_mem_take hd')
              exact ⟨hen _ _ this.1, this.2⟩)
          clear hxb hcx h16
          go_wp2_with fail
          go_ret
          exact ⟨0, rfl, hidden (.inl ⟨i, d, .slice (some ⟨g, 0, none⟩) (i + 1) mc, HAT.out, rfl, HDD.out, rfl, HFIN.out.1⟩), hidden HFIN.out.2⟩
        · have b2 : decide (la - q < 16) = false := by simpa using h16
          clear h16
          go_wp2_with fail
          go_roundw
          case rel => exact ⟨trivial, i + 1, by omega, by go_num, hidden (fun j y hj hy => by
            by_cases e : j = i
            · subst e
              rw [b2, Bool.and_false]
            · exact HJ.out j y (by omega) hy)⟩
          case measure => simp [RowKit.intOf]; omega
      · have b1 : (q == z) = false := by rw [beq_eq_false_iff_ne]; exact hqz
        go_wp2_with fail
        go_roundw
        case rel => exact ⟨trivial, i + 1, by omega, by go_num, hidden (fun j y hj hy => by
          by_cases e : j = i
          · subst e
            rw [HDD.out] at hy
            cases hy
            rw [HQ.out, b1]
            rfl
          · exact HJ.out j y (by omega) hy)⟩
        case measure => simp [RowKit.intOf]; omega
    · obtain rfl : i = N := by omega
      have HNO : Hid (dbI D la z = none) := hidden (dbI_no (fun j y hy => HJ.out j y (by have := (List.getElem?_eq_some_iff.1 hy).1; rw [HN.out] at this; exact this) hy))
      have HW2 := hidden HW.out
      go_wp2_with fail
      go_ret
      exact ⟨1, rfl, hidden (.inr ⟨HNO.out, rfl, HW2.out⟩), hidden (Cf.refl _ _)⟩
end Go.Proofs.YtedgpcckbdnijaaDoor

/- Our list and the document's: what they have in common, plain. -/

namespace Go.Proofs.YtedgpcckbdnijaaDoor
open Go.RowKit Go.Maps

set_option maxRecDepth 100000 in
theorem noteM_drop (K : Int → Option Int) (k : Int) (M : List Mq) (i : Nat) (hi : i < M.length) : (noteM K k M).drop i = noteM K k (M.drop i) := by
  obtain ⟨N, q, rfl⟩ := last_of (M := M) (by rintro rfl; simp at hi)
  rw [List.length_append] at hi
  simp only [List.length_singleton] at hi
  rw [noteM_last, List.drop_append_of_le_length (by omega), List.drop_append_of_le_length (by omega), noteM_last]
set_option maxRecDepth 100000 in
theorem relS_drop (i : Nat) : ∀ (l : List Int) (K : Int → Option Int) (M : List Mq), i < M.length → (relS l (K, M)).2.drop i = (relS l (K, M.drop i)).2
  | [], _, _, _ => rfl
  | p :: l, K, M, hi => by
    unfold relS
    rw [relS_drop i l _ _ (by rw [nb_len (noteM_nb K p M)]; exact hi), noteM_drop K p M i hi]
set_option maxRecDepth 100000 in
theorem actM_drop (K : Int → Option Int) (M : List Mq) (kd A B : Int) (i : Nat) (hi : i < M.length) : (actM K M kd A B).drop i = actM K (M.drop i) kd A B := by
  unfold actM
  split
  · split
    · exact noteM_drop K _ M i hi
    · rfl
  · split
    · split
      · exact noteM_drop K _ M i hi
      · rfl
    · split
      · exact relS_drop i _ K M hi
      · rfl
set_option maxRecDepth 100000 in
theorem undo_append : ∀ (M N : List Mq) (K : Int → Option Int), undo (M ++ N) K = undo M (undo N K)
  | [], _, _ => rfl
  | q :: M, N, K => by simp only [List.cons_append, undo]; rw [undo_append M N]
set_option maxRecDepth 100000 in
theorem undo_drop {K : Int → Option Int} {M : List Mq} (hK : Vals K) (hP : Pgs K) (kd A B : Int) (i : Nat) (hi : i < M.length) : undo ((actM K M kd A B).drop i) (actK K kd A B) = undo (M.drop i) K := by
  rw [actM_drop K M kd A B i hi]
  exact undo_act hK hP (by intro e; have := congrArg List.length e; simp at this; omega) kd A B
/-- How our list and the document's stand to each other. -/
structure Pq (last : Int) (K : Int → Option Int) (M : List Mq) (es : List (Int × Int)) (D : List Dq) : Prop where
  ent : Ent K es
  l0 : 0 ≤ last
  yng : ∀ q ∈ M, 1 ≤ q.n ∧ q.n ≤ last ∧ last - q.n < 16
  ris : M.Pairwise (fun p q => p.n < q.n)
  dn : ∀ d ∈ D, 0 ≤ d.n ∧ d.n ≤ last
  spl : ∃ Do Dn, D = Do ++ Dn ∧ (∀ d ∈ Do, 16 ≤ last - d.n) ∧ Dn.length = M.length ∧ ∀ (i : Nat) (d : Dq) (q : Mq), Dn[i]? = some d → M[i]? = some q → d.n = q.n ∧ Ent (undo (M.drop i) K) d.es
set_option maxRecDepth 100000 in
theorem Pq.new {l : List Int} (h : newE l = 0) : Pq 0 (KL l) [] (enE l) [] :=
  ⟨Ent.new h, Int.le_refl _, (fun q hq => by cases hq), List.Pairwise.nil, (fun q hq => by cases hq), [], [], rfl, (fun q hq => by cases hq), rfl, (fun i d q hd => by simp at hd)⟩
set_option maxRecDepth 100000 in
theorem nb_at {M M' : List Mq} (e : M'.map nb = M.map nb) {i : Nat} {q : Mq} (h : M'[i]? = some q) : ∃ p, M[i]? = some p ∧ p.n = q.n := by
  have h1 : (M.map nb)[i]? = some (nb q) := by rw [← e, List.getElem?_map, h]; rfl
  rw [List.getElem?_map] at h1
  cases h2 : M[i]? with
  | none => rw [h2] at h1; cases h1
  | some p =>
    rw [h2] at h1
    injection h1 with h1
    exact ⟨p, rfl, congrArg Prod.fst h1⟩
section
variable {last : Int} {K : Int → Option Int} {M : List Mq} {es es' : List (Int × Int)} {D : List Dq}
set_option maxRecDepth 100000 in
theorem Pq.act (h : Pq last K M es D) (hK : Vals K) (hP : Pgs K) (kd A B : Int) (he : Ent (actK K kd A B) es') : Pq last (actK K kd A B) (actM K M kd A B) es' D := by
  have e := actM_nb K M kd A B
  have hl := nb_len e
  obtain ⟨Do, Dn, h1, h2, h3, h4⟩ := h.spl
  refine ⟨he, h.l0, fun q hq => ?_, ?_, h.dn, Do, Dn, h1, h2, by rw [hl]; exact h3, fun i d q hd hq => ?_⟩
  · obtain ⟨i, hi⟩ := List.getElem?_of_mem hq
    obtain ⟨p, hp, hn⟩ := nb_at e hi
    rw [← hn]
    exact h.yng p (List.mem_of_getElem? hp)
  · have h5 : (M.map (fun q => q.n)).Pairwise (fun x y => x < y) := by rw [List.pairwise_map]; exact h.ris
    have h6 : (actM K M kd A B).map (fun q => q.n) = M.map (fun q => q.n) := by
      have := congrArg (List.map Prod.fst) e
      simp only [List.map_map] at this
      exact this
    rw [← h6, List.pairwise_map] at h5
    exact h5
  · obtain ⟨p, hp, hn⟩ := nb_at e hq
    have h5 := h4 i d p hd hp
    rw [undo_drop hK hP kd A B i (List.getElem?_eq_some_iff.1 hp).1, ← hn]
    exact h5
/-- How many marks are too old behind the next one. -/
def rOld (last : Int) : List Mq → Nat
  | [] => 0
  | q :: _ => if 16 ≤ last + 1 - q.n then 1 else 0
set_option maxRecDepth 100000 in
theorem rOld_cons (last : Int) (q : Mq) (R : List Mq) : rOld last (q :: R) = if 16 ≤ last + 1 - q.n then 1 else 0 := rfl
set_option maxRecDepth 100000 in
theorem Pq.old (h : Pq last K M es D) : rOld last M ≤ M.length ∧ (∀ (i : Nat) (q : Mq), i < rOld last M → M[i]? = some q → 16 ≤ last + 1 - q.n) ∧ (∀ (i : Nat) (q : Mq), rOld last M ≤ i → M[i]? = some q → last + 1 - q.n < 16) := by
  cases M with
  | nil => exact ⟨Nat.le_refl _, fun i q hi => by simp [rOld] at hi, fun i q _ hq => by simp at hq⟩
  | cons p R =>
    have hp := h.yng p (by simp)
    rw [rOld_cons]
    split
    · rename_i hc
      refine ⟨by simp, fun i q hi hq => ?_, fun i q hi hq => ?_⟩
      · obtain rfl : i = 0 := by omega
        simp at hq
        subst hq
        exact hc
      · obtain ⟨j, rfl⟩ : ∃ j, i = j + 1 := ⟨i - 1, by omega⟩
        have hq' : R[j]? = some q := by simpa using hq
        have := (List.pairwise_cons.1 h.ris).1 q (List.mem_of_getElem? hq')
        omega
    · rename_i hc
      refine ⟨Nat.zero_le _, fun i q hi => by omega, fun i q _ hq => ?_⟩
      cases i with
      | zero => simp at hq; subst hq; omega
      | succ j =>
        have hq' : R[j]? = some q := by simpa using hq
        have := (List.pairwise_cons.1 h.ris).1 q (List.mem_of_getElem? hq')
        omega
set_option maxRecDepth 100000 in
theorem Pq.few (h : Pq last K M es D) : M.length ≤ 16 := by
  have h1 := rise_len (M.map (fun q => (q.n, (0 : Int)))) (last - 15) (last + 1) (by rw [List.pairwise_map]; exact h.ris) (fun x hx => by
    obtain ⟨q, hq, rfl⟩ := List.mem_map.1 hx
    have := h.yng q hq
    simp only
    omega)
  rw [List.length_map, if_pos (by omega)] at h1
  omega
set_option maxRecDepth 100000 in
theorem Pq.mark (h : Pq last K M es D) (bq : Nat) (v : Value) : Pq (last + 1) K (M.drop (rOld last M) ++ [⟨last + 1, bq, fun _ => none⟩]) es (D ++ [⟨last + 1, v, es⟩]) := by
  obtain ⟨o1, o2, o3⟩ := h.old
  have hl0 := h.l0
  obtain ⟨Do, Dn, h1, h2, h3, h4⟩ := h.spl
  obtain ⟨r, hr⟩ : ∃ r, rOld last M = r := ⟨_, rfl⟩
  rw [hr] at o1 o2 o3 ⊢
  refine ⟨h.ent, by omega, fun q hq => ?_, ?_, fun d hd => ?_, Do ++ Dn.take r, Dn.drop r ++ [⟨last + 1, v, es⟩], ?_, fun d hd => ?_, ?_, fun i d q hd hq => ?_⟩
  · rcases List.mem_append.1 hq with hq | hq
    · obtain ⟨i, hi⟩ := List.getElem?_of_mem hq
      rw [List.getElem?_drop] at hi
      have := h.yng q (List.mem_of_getElem? hi)
      have := o3 (r + i) q (by omega) hi
      omega
    · simp only [List.mem_singleton] at hq
      subst hq
      simp only
      omega
  · rw [List.pairwise_append]
    refine ⟨h.ris.sublist (List.drop_sublist _ _), by simp, fun a ha c hc => ?_⟩
    simp only [List.mem_singleton] at hc
    subst hc
    have := h.yng a (List.mem_of_mem_drop ha)
    simp only
    omega
  · rcases List.mem_append.1 hd with hd | hd
    · have := h.dn d hd
      omega
    · simp only [List.mem_singleton] at hd
      subst hd
      simp only
      omega
  · rw [h1, List.append_assoc, List.append_assoc, ← List.append_assoc (Dn.take r), List.take_append_drop]
  · rcases List.mem_append.1 hd with hd | hd
    · have := h2 d hd
      omega
    · obtain ⟨i, hi⟩ := List.getElem?_of_mem hd
      have hil := (List.getElem?_eq_some_iff.1 hi).1
      rw [List.length_take] at hil
      rw [List.getElem?_take_of_lt (by omega)] at hi
      obtain ⟨q, hq⟩ : ∃ q, M[i]? = some q := ⟨_, List.getElem?_eq_getElem (by omega)⟩
      have := o2 i q (by omega) hq
      rw [(h4 i d q hi hq).1]
      omega
  · rw [List.length_append, List.length_append, List.length_drop, List.length_drop, h3]
    rfl
  · by_cases hi : i < M.length - r
    · rw [List.getElem?_append_left (by rw [List.length_drop]; omega), List.getElem?_drop] at hd
      rw [List.getElem?_append_left (by rw [List.length_drop]; omega), List.getElem?_drop] at hq
      rw [List.drop_append_of_le_length (by rw [List.length_drop]; omega), List.drop_drop, undo_append]
      exact h4 (r + i) d q hd hq
    · rw [List.getElem?_append_right (by rw [List.length_drop]; omega), List.length_drop] at hd hq
      have hil : i - (M.length - r) = 0 := by
        have := (List.getElem?_eq_some_iff.1 hq).1
        simp at this
        omega
      rw [h3, hil] at hd
      rw [hil] at hq
      simp at hd hq
      subst hd hq
      refine ⟨rfl, ?_⟩
      rw [List.drop_append, List.drop_eq_nil_of_le (by rw [List.length_drop]; omega), List.length_drop, hil]
      exact h.ent
set_option maxRecDepth 100000 in
/-- A Back that finds its mark. -/
theorem Pq.back (h : Pq last K M es D) {z : Int} {i : Nat} {q : Mq} (hq : M[i]? = some q) (hn : q.n = z) : ∃ j d, dbI D last z = some j ∧ D[j]? = some d ∧ Pq last (undo (M.drop i) K) (M.take i ++ [clr q]) d.es (D.take (j + 1)) := by
  obtain ⟨Do, Dn, h1, h2, h3, h4⟩ := h.spl
  have hil := (List.getElem?_eq_some_iff.1 hq).1
  obtain ⟨d, hd⟩ : ∃ d, Dn[i]? = some d := ⟨_, List.getElem?_eq_getElem (by omega)⟩
  obtain ⟨e1, e2⟩ := h4 i d q hd hq
  have hy := h.yng q (List.mem_of_getElem? hq)
  have hDi : D[Do.length + i]? = some d := by rw [h1, List.getElem?_append_right (by omega)]; simpa using hd
  have hpw := List.pairwise_iff_getElem.1 h.ris
  refine ⟨Do.length + i, d, dbI_at hDi (by rw [e1, hn]; simp; omega) (fun j y hj hyj => ?_), hDi, ?_⟩
  · by_cases hjo : j < Do.length
    · rw [h1, List.getElem?_append_left hjo] at hyj
      have := h2 y (List.mem_of_getElem? hyj)
      by_cases e : y.n = z
      · have : ¬ last - z < 16 := by omega
        simp [this]
      · simp [e]
    · rw [h1, List.getElem?_append_right (by omega)] at hyj
      have hjl := (List.getElem?_eq_some_iff.1 hyj).1
      obtain ⟨p, hp⟩ : ∃ p, M[j - Do.length]? = some p := ⟨_, List.getElem?_eq_getElem (by omega)⟩
      have e3 := (h4 _ y p hyj hp).1
      have h5 := hpw (j - Do.length) i (by omega) hil (by omega)
      rw [(List.getElem?_eq_some_iff.1 hp).2, (List.getElem?_eq_some_iff.1 hq).2] at h5
      have : y.n ≠ z := by omega
      simp [this]
  · have htk : M.take i ++ [q] = M.take (i + 1) := (take_at M i q hq).symm
    have hnn : (M.take i ++ [clr q]).map (fun q => q.n) = (M.take (i + 1)).map (fun q => q.n) := by rw [← htk]; simp [clr]
    refine ⟨e2, h.l0, fun p hp => ?_, ?_, fun d' hd' => h.dn d' (List.mem_of_mem_take hd'), Do, Dn.take (i + 1), ?_, h2, ?_, fun j d' p hd' hp => ?_⟩
    · rcases List.mem_append.1 hp with hp | hp
      · exact h.yng p (List.mem_of_mem_take hp)
      · simp only [List.mem_singleton] at hp
        subst hp
        exact hy
    · have h5 : ((M.take (i + 1)).map (fun q => q.n)).Pairwise (fun x y => x < y) := by rw [List.pairwise_map]; exact h.ris.sublist (List.take_sublist _ _)
      rw [← hnn, List.pairwise_map] at h5
      exact h5
    · rw [h1, show Do.length + i + 1 = Do.length + (i + 1) by omega, List.take_length_add_append]
    · rw [List.length_append, List.length_take, List.length_take]
      simp only [List.length_singleton]
      omega
    · have hjl := (List.getElem?_eq_some_iff.1 hp).1
      rw [List.length_append, List.length_take] at hjl
      simp only [List.length_singleton] at hjl
      rw [List.getElem?_take_of_lt (by omega)] at hd'
      by_cases hj : j < i
      · rw [List.getElem?_append_left (by rw [List.length_take]; omega), List.getElem?_take_of_lt hj] at hp
        have h6 := h4 j d' p hd' hp
        refine ⟨h6.1, ?_⟩
        rw [List.drop_append_of_le_length (by rw [List.length_take]; omega), undo_append]
        have h7 : undo ((M.take i).drop j) (undo (M.drop i) K) = undo (M.drop j) K := by
          rw [← undo_append]
          congr 1
          have h8 : M.drop j = (M.take i ++ M.drop i).drop j := by rw [List.take_append_drop]
          rw [h8, List.drop_append_of_le_length (by rw [List.length_take]; omega)]
        have h9 : undo [clr q] (undo (M.drop i) K) = undo (M.drop i) K := rfl
        rw [h9, h7]
        exact h6.2
      · obtain rfl : j = i := by omega
        rw [hd] at hd'
        cases hd'
        rw [List.getElem?_append_right (by rw [List.length_take]; omega), List.length_take, show j - min j M.length = 0 by omega] at hp
        simp at hp
        subst hp
        refine ⟨e1, ?_⟩
        rw [List.drop_append, List.drop_eq_nil_of_le (by rw [List.length_take]; omega), List.length_take, show j - min j M.length = 0 by omega]
        exact e2
set_option maxRecDepth 100000 in
theorem Pq.noback (h : Pq last K M es D) {z : Int} (hz : ∀ q ∈ M, q.n ≠ z) : dbI D last z = none := by
  obtain ⟨Do, Dn, h1, h2, h3, h4⟩ := h.spl
  refine dbI_no (fun j y hyj => ?_)
  by_cases hjo : j < Do.length
  · rw [h1, List.getElem?_append_left hjo] at hyj
    have := h2 y (List.mem_of_getElem? hyj)
    by_cases e : y.n = z
    · have : ¬ last - z < 16 := by omega
      simp [this]
    · simp [e]
  · rw [h1, List.getElem?_append_right (by omega)] at hyj
    have hjl := (List.getElem?_eq_some_iff.1 hyj).1
    obtain ⟨p, hp⟩ : ∃ p, M[j - Do.length]? = some p := ⟨_, List.getElem?_eq_getElem (by omega)⟩
    have e3 := (h4 _ y p hyj hp).1
    have : y.n ≠ z := by rw [e3]; exact hz p (List.mem_of_getElem? hp)
    simp [this]
end
end Go.Proofs.YtedgpcckbdnijaaDoor
