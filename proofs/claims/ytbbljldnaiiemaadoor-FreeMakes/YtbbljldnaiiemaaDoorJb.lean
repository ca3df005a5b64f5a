/- The document's New. -/
import Derived.Test.YtbbljldnaiiemaaDoorWd
namespace Go.Proofs.YtbbljldnaiiemaaDoor
open Go.RowKit

def insE : List (Int × Int) → Int × Int → List (Int × Int)
  | [], e => [e]
  | x :: r, e => if e.1 < x.1 then e :: x :: r else x :: insE r e
set_option maxRecDepth 100000 in
theorem fold_true (e : Int × Int) : ∀ (es acc : List (Int × Int)), es.foldl (wStep e) (true, acc) = (true, acc ++ es)
  | [], acc => by simp
  | x :: r, acc => by
    rw [List.foldl_cons, show wStep e (true, acc) x = (true, acc ++ [x]) from rfl, fold_true e r]
    simp
def finE (s : Bool × List (Int × Int)) (e : Int × Int) : List (Int × Int) := if s.1 = true then s.2 else s.2 ++ [e]
set_option maxRecDepth 100000 in
theorem fold_false (e : Int × Int) : ∀ (es acc : List (Int × Int)), finE (es.foldl (wStep e) (false, acc)) e = acc ++ insE es e
  | [], acc => rfl
  | x :: r, acc => by
    rw [List.foldl_cons]
    unfold insE
    by_cases h : e.1 < x.1
    · rw [if_pos h, show wStep e (false, acc) x = (true, (acc ++ [e]) ++ [x]) from by unfold wStep; simp [h], fold_true]
      unfold finE
      simp
    · rw [if_neg h, show wStep e (false, acc) x = (false, acc ++ [x]) from by unfold wStep; simp [h], fold_false e r]
      simp
set_option maxRecDepth 100000 in
theorem wAll_ins (es : List (Int × Int)) (e : Int × Int) : wAll es e = insE es e := by
  have h := fold_false e es []
  rw [List.nil_append] at h
  rw [← h]
  unfold wAll finE wSt
  rw [List.take_length]
set_option maxRecDepth 100000 in
theorem insE_mem (e x : Int × Int) : ∀ es, x ∈ insE es e ↔ x = e ∨ x ∈ es
  | [] => by simp [insE]
  | y :: r => by
    unfold insE
    by_cases h : e.1 < y.1
    · rw [if_pos h]; simp
    · rw [if_neg h, List.mem_cons, insE_mem e x r, List.mem_cons]
      constructor
      · rintro (h | h | h) <;> simp [h]
      · rintro (h | h | h) <;> simp [h]
set_option maxRecDepth 100000 in
theorem insE_rise (e : Int × Int) : ∀ es : List (Int × Int), es.Pairwise (fun a b => a.1 < b.1) → (∀ x ∈ es, x.1 ≠ e.1) → (insE es e).Pairwise (fun a b => a.1 < b.1)
  | [], _, _ => by simp [insE]
  | y :: r, hp, hn => by
    rw [List.pairwise_cons] at hp
    unfold insE
    by_cases h : e.1 < y.1
    · rw [if_pos h, List.pairwise_cons, List.pairwise_cons]
      refine ⟨fun a ha => ?_, hp⟩
      rcases List.mem_cons.1 ha with rfl | ha
      · exact h
      · have := hp.1 a ha; omega
    · rw [if_neg h, List.pairwise_cons]
      refine ⟨fun a ha => ?_, insE_rise e r hp.2 (fun x hx => hn x (List.mem_cons_of_mem _ hx))⟩
      rcases (insE_mem e a r).1 ha with rfl | ha
      · have := hn y List.mem_cons_self; omega
      · exact hp.1 a ha
set_option maxRecDepth 100000 in
theorem snoc_ind {P : List Int → Prop} (h0 : P []) (h1 : ∀ l p, P l → P (l ++ [p])) : ∀ l, P l := by
  intro l
  rw [← List.reverse_reverse l]
  induction l.reverse with
  | nil => exact h0
  | cons p r ih => rw [List.reverse_cons]; exact h1 _ _ ih
/-- Pages that are free, by rising numbers. -/
def enE (l : List Int) : List (Int × Int) := l.foldl (fun es p => insE es (p, 0)) []
set_option maxRecDepth 100000 in
theorem enE_snoc (l : List Int) (p : Int) : enE (l ++ [p]) = insE (enE l) (p, 0) := by unfold enE; rw [List.foldl_append]; rfl
set_option maxRecDepth 100000 in
theorem enE_mem (l : List Int) (x : Int × Int) : x ∈ enE l ↔ x.2 = 0 ∧ x.1 ∈ l := by
  refine snoc_ind (P := fun l => x ∈ enE l ↔ x.2 = 0 ∧ x.1 ∈ l) (by simp [enE]) ?_ l
  · intro l p ih
    rw [enE_snoc, insE_mem, ih]
    obtain ⟨a, b⟩ := x
    simp only [Prod.mk.injEq, List.mem_append, List.mem_singleton]
    constructor
    · rintro (⟨rfl, rfl⟩ | ⟨h1, h2⟩)
      · exact ⟨rfl, .inr rfl⟩
      · exact ⟨h1, .inl h2⟩
    · rintro ⟨h1, h2 | h2⟩
      · exact .inr ⟨h1, h2⟩
      · exact .inl ⟨h2, h1⟩
set_option maxRecDepth 100000 in
theorem enE_rise (l : List Int) (h : l.Nodup) : (enE l).Pairwise (fun a b => a.1 < b.1) := by
  refine snoc_ind (P := fun l => l.Nodup → (enE l).Pairwise (fun a b => a.1 < b.1)) (by simp [enE]) ?_ l h
  · intro l p ih h
    rw [enE_snoc]
    rw [List.nodup_append] at h
    refine insE_rise _ _ (ih h.1) (fun x hx => ?_)
    have := ((enE_mem l x).1 hx).2
    intro e
    exact h.2.2 x.1 this p (by simp) e
set_option maxRecDepth 100000 in
theorem rise_len : ∀ (es : List (Int × Int)) (a b : Int), es.Pairwise (fun a b => a.1 < b.1) → (∀ x ∈ es, a ≤ x.1 ∧ x.1 < b) → (es.length : Int) ≤ if a ≤ b then b - a else 0
  | [], a, b, _, _ => by split <;> simp <;> omega
  | x :: r, a, b, hp, hm => by
    rw [List.pairwise_cons] at hp
    have hx := hm x List.mem_cons_self
    have := rise_len r (x.1 + 1) b hp.2 (fun y hy => ⟨by have := hp.1 y hy; omega, (hm y (List.mem_cons_of_mem _ hy)).2⟩)
    rw [if_pos (by omega)] at this
    rw [if_pos (by omega), List.length_cons]
    omega
set_option maxRecDepth 100000 in
theorem enE_len (l : List Int) (h : l.Nodup) (hp : ∀ x ∈ l, isPg x) : (enE l).length ≤ 65534 := by
  have := rise_len (enE l) 2 65536 (enE_rise l h) (fun x hx => by have := hp x.1 ((enE_mem l x).1 hx).2; unfold isPg at this; omega)
  rw [if_pos (by omega)] at this
  omega
set_option maxRecDepth 100000 in
theorem keyE_en (l : List Int) (p : Int) : keyE (enE l) p ↔ p ∈ l := by
  unfold keyE
  rw [List.mem_map]
  constructor
  · rintro ⟨x, hx, rfl⟩
    exact ((enE_mem l x).1 hx).2
  · intro h
    exact ⟨(p, 0), (enE_mem l (p, 0)).2 ⟨rfl, h⟩, rfl⟩
end Go.Proofs.YtbbljldnaiiemaaDoor

/- The document's Number and New. -/

namespace Go.Proofs.YtbbljldnaiiemaaDoor
open Go.RowKit

set_option maxRecDepth 100000 in
theorem rnumber_any (x : Int) (w : World) : Calls Tryd.prog 38 #[.int .i64 x] w fun e u => e = .returned (.bool (decide (isPg x))) ∧ u = w := by
  by_cases h1 : 2 ≤ x
  · have d1 : decide (2 ≤ x) = true := by simpa using h1
    have e : decide (isPg x) = decide (x < 65536) := by simp [isPg, h1]
    rw [e]
    clear e
    go_enter Tryd.func38, Tryd.ntmps38
    go_wp2_with fail
    go_ret
    exact ⟨rfl, rfl⟩
  · have d1 : decide (2 ≤ x) = false := by simpa using h1
    have e : decide (isPg x) = false := by simp [isPg]; omega
    rw [e]
    clear e
    go_enter Tryd.func38, Tryd.ntmps38
    go_wp2_with fail
    go_ret
    exact ⟨rfl, rfl⟩
set_option maxRecDepth 100000 in
theorem take_nodup {l : List Int} {k : Nat} (hk : k < l.length) (h : (l.take k).Nodup) (hn : l.getD k 0 ∉ l.take k) : (l.take (k + 1)).Nodup := by
  rw [takeZ l k hk, List.nodup_append]
  refine ⟨h, by simp, fun a ha b hb e => ?_⟩
  rw [List.mem_singleton] at hb
  rw [e, hb] at ha
  exact hn ha
set_option maxRecDepth 100000 in
theorem take_twice {l : List Int} {k : Nat} (hk : k < l.length) (hn : l.getD k 0 ∈ l.take k) : ¬ l.Nodup := by
  intro h
  rw [← List.take_append_drop (k + 1) l, takeZ l k hk] at h
  rw [List.nodup_append, List.nodup_append] at h
  exact h.1.2.2 _ hn _ (by simp) rfl
set_option maxRecDepth 100000 in
set_option maxHeartbeats 4000000 in
theorem rnew_any (w : World) (ao : Option Addr) (n cap : Nat) (l : List Int) (hs : SlZ w ao n cap l) :
    Calls Tryd.prog 12 #[.slice ao n cap] w fun e u => ∃ p, e = .returned (.tuple #[.pointer p, .int .i64 (newE l)]) ∧ Hid (Below w.heap.size w u) ∧ Hid ((newE l = 0 ∧ ∃ b v, p = some ⟨b, 0, none⟩ ∧ w.heap.size ≤ b ∧ Rl u w.heap.size b v (.slice none 0 0) 0 (enE l)) ∨ (newE l ≠ 0 ∧ p = none)) := by
  have HS := hidden hs
  have HL := hidden hs.hlen
  have hbig := hs.hbig
  clear hs
  obtain ⟨x, hx⟩ : ∃ x, w.alloc (.cells #[.slice none 0 0, .slice none 0 0, .int .i64 0] 78) = x := ⟨_, rfl⟩
  have hbx : Below w.heap.size w x := by rw [← hx]; exact bl_al (Below.refl _ _) (Nat.le_refl _) _
  have HX := hidden hbx
  have HR0 : Hid (Rl x w.heap.size w.heap.size (.slice none 0 0) (.slice none 0 0) 0 (enE (l.take 0))) := hidden ⟨by rw [← hx]; exact al_row _ _, OwnE.nil _ _, by simp [enE]⟩
  have HNE := hidden (show newE l = newE l from rfl)
  obtain ⟨K, hK⟩ : ∃ K, newE l = K := ⟨_, rfl⟩
  have HK := hidden hK
  clear hbx hK HNE
  go_enter Tryd.func12, Tryd.ntmps12
  go_wp2_with fail
  clear hx
  go_loop [5] (fun i => ∃ k : Nat, k ≤ n ∧ i = .int .i64 (k : Int) ∧ Hid (∀ j, j < k → isPg (l.getD j 0))) (fun i => n - (RowKit.intOf i).toNat)
  case atStart => exact ⟨0, by omega, rfl, hidden (fun j hj => by omega)⟩
  case round =>
    obtain ⟨k, hk, rfl, HJ⟩ := hrel
    by_cases hlt : k < n
    · have hltI : (k : Int) < (n : Int) := by omega
      have HSX := hidden (HS.out.on (Nat.le_refl _) HX.out)
      obtain ⟨b1, off1, rfl, ck⟩ := HSX.out.at hlt
      have HIN : Hid (l.getD k 0 ∈ l) := hidden (getD_mem l k (by rw [HL.out]; exact hlt))
      obtain ⟨z, hz⟩ : ∃ z, l.getD k 0 = z := ⟨_, rfl⟩
      rw [hz] at ck HIN
      have HZ := hidden hz
      clear hz HSX
      have HNU := hidden (rnumber_any z x)
      by_cases hp : isPg z
      · have hd : decide (isPg z) = true := by simpa using hp
        rw [hd] at HNU
        have HP := hidden hp
        clear hd hp
        go_wp2_with (go_at_call 38; refine same_call HNU.out ?_)
        go_round
        case rel => exact ⟨k + 1, by omega, by go_num, hidden (fun j hj => by
          by_cases h2 : j < k
          · exact HJ.out j h2
          · obtain rfl : j = k := by omega
            rw [HZ.out]; exact HP.out)⟩
        case measure => simp [RowKit.intOf]; omega
      · have hd : decide (isPg z) = false := by simpa using hp
        rw [hd] at HNU
        have HE : Hid (newE l = 30) := hidden (by unfold newE; rw [if_neg (fun h => hp (h z HIN.out))])
        clear hd hp
        go_wp2_with (go_at_call 38; refine same_call HNU.out ?_)
        go_ret2
        exact ⟨none, by rw [HE.out]; rfl, HX, hidden (.inr ⟨by rw [HE.out]; decide, rfl⟩)⟩
    · have hge : ¬ (k : Int) < (n : Int) := by omega
      have HALL : Hid (∀ y ∈ l, isPg y) := hidden (fun y hy => by
        obtain ⟨j, hj, rfl⟩ := List.mem_iff_getElem.1 hy
        have := HJ.out j (by rw [HL.out] at hj; omega)
        rw [List.getD, List.getElem?_eq_getElem hj] at this
        exact this)
      clear HJ hlt hk
      go_wp2_with fail
      go_loopw [7] (fun i wr => ∃ k : Nat, k ≤ n ∧ i = .int .i64 (k : Int) ∧ Hid ((l.take k).Nodup) ∧ Hid (∃ v, Rl wr w.heap.size w.heap.size v (.slice none 0 0) 0 (enE (l.take k))) ∧ Hid (Below w.heap.size w wr)) (fun i _ => n - (RowKit.intOf i).toNat)
      case atStart => exact ⟨0, by omega, rfl, hidden (by simp), hidden ⟨_, HR0.out⟩, HX⟩
      case round =>
        obtain ⟨k2, hk2, rfl, HND, HRL, HB⟩ := hrel
        obtain ⟨v, hrl⟩ := HRL.out
        by_cases hlt : k2 < n
        · have hltI : (k2 : Int) < (n : Int) := by omega
          have HSX := hidden (HS.out.on (Nat.le_refl _) HB.out)
          obtain ⟨b1, off1, rfl, ck⟩ := HSX.out.at hlt
          have hkl : k2 < l.length := by rw [HL.out]; exact hlt
          have HT := hidden (takeZ l k2 hkl)
          have HTW := hidden (fun h => take_twice (l := l) (k := k2) hkl h)
          have HTN := hidden (fun h => take_nodup (l := l) (k := k2) hkl HND.out h)
          obtain ⟨z, hz⟩ : ∃ z, l.getD k2 0 = z := ⟨_, rfl⟩
          rw [hz] at ck HT HTW HTN
          clear hz HSX hkl
          have HF := hidden (rfind_any wr _ _ _ _ _ _ z hrl)
          have HSUB : Hid (∀ y ∈ l.take k2, isPg y) := hidden (fun y hy => HALL.out y (List.mem_of_mem_take hy))
          have HW9 := hidden (rwith_any wr _ _ _ _ _ _ z 0 hrl (by have := enE_len _ HND.out HSUB.out; omega) (Nat.le_refl _))
          have hwr : w.heap.size ≤ wr.heap.size := HB.out.size
          clear hrl HRL
          go_wp2_with (go_at_call 39; refine HF.out.mono ?_; rintro e u ⟨r, rfl, HR, rfl⟩; refine Hid.out ?_)
          apply hidden
          by_cases hr : 0 ≤ r
          · have HE : Hid (newE l = 100) := hidden (by
              unfold newE
              rw [if_pos HALL.out, if_neg (HTW.out ((keyE_en _ _).1 (HR.out.1 hr)))])
            clear HW9 HF
            go_wp2_with fail
            go_ret2
            exact ⟨none, by rw [HE.out]; rfl, HB, hidden (.inr ⟨by rw [HE.out]; decide, rfl⟩)⟩
          · have HNM : Hid (z ∉ l.take k2) := hidden (fun h => hr (HR.out.2 ((keyE_en _ _).2 h)))
            clear HF HR
            go_wp2_with (go_at_call 40; refine HW9.out.mono ?_; rintro e u2 ⟨rfl, HQ, HC⟩; refine Hid.out ?_)
            apply hidden
            have HB2 : Hid (Below w.heap.size w u2) := hidden (HB.out.trans (HC.out.below hwr (fun k hk e => by omega)))
            have HR2 : Hid (∃ v, Rl u2 w.heap.size w.heap.size v (.slice none 0 0) 0 (enE (l.take (k2 + 1)))) := hidden (by
              obtain ⟨v', hv⟩ := HQ.out
              rw [wAll_ins, ← enE_snoc, ← HT.out] at hv
              exact ⟨v', hv⟩)
            have HND2 := hidden (HTN.out HNM.out)
            clear HQ HC HW9
            go_wp2_with fail
            go_roundw
            case rel => exact ⟨k2 + 1, by omega, by go_num, HND2, HR2, HB2⟩
            case measure => simp [RowKit.intOf]; omega
        · have hge2 : ¬ (k2 : Int) < (n : Int) := by omega
          have HTE : Hid (l.take k2 = l) := hidden (List.take_of_length_le (by rw [HL.out]; omega))
          have HE : Hid (newE l = 0) := hidden (by
            unfold newE
            have := HND.out
            rw [HTE.out] at this
            rw [if_pos HALL.out, if_pos this])
          have HR3 : Hid (∃ v, Rl wr w.heap.size w.heap.size v (.slice none 0 0) 0 (enE l)) := hidden (by
            have := HRL.out
            rw [HTE.out] at this
            exact this)
          clear hrl HRL
          go_wp2_with fail
          go_ret2
          refine ⟨some ⟨w.heap.size, 0, none⟩, by rw [HE.out]; rfl, HB, hidden (.inl ⟨HE.out, w.heap.size, ?_⟩)⟩
          obtain ⟨v', hv⟩ := HR3.out
          exact ⟨rfl, Nat.le_refl _, v', hv⟩
end Go.Proofs.YtbbljldnaiiemaaDoor

/- The document's Free. -/

namespace Go.Proofs.YtbbljldnaiiemaaDoor
open Go.RowKit

def toldF (es : List (Int × Int)) : List Int := (es.filter (fun x => x.2 == 0)).map (·.1)
set_option maxRecDepth 100000 in
theorem toldF_next (es : List (Int × Int)) (k : Nat) (hk : k < es.length) : toldF (es.take (k + 1)) = if ((es.getD k (0, 0)).2 == 0) = true then toldF (es.take k) ++ [(es.getD k (0, 0)).1] else toldF (es.take k) := by
  unfold toldF
  rw [List.take_add_one, List.getElem?_eq_getElem hk, List.getD, List.getElem?_eq_getElem hk]
  simp only [Option.toList, List.filter_append, List.map_append, Option.getD_some]
  split
  · rename_i h
    simp [h]
  · rename_i h
    simp [h]
set_option maxRecDepth 100000 in
theorem toldF_len (es : List (Int × Int)) (k : Nat) : (toldF (es.take k)).length ≤ k := by
  unfold toldF
  rw [List.length_map]
  exact Nat.le_trans (List.length_filter_le _ _) (by rw [List.length_take]; exact Nat.min_le_left _ _)
set_option maxRecDepth 100000 in
set_option maxHeartbeats 4000000 in
theorem rtold_free (w : World) (B b : Nat) (v m : Value) (la : Int) (es : List (Int × Int)) (h : Rl w B b v m la es) :
    Calls Tryd.prog 43 #[pB b, .bool true, .bool false] w fun e u => ∃ o, e = .returned o ∧ Hid (OwnJ u w.heap.size o (toldF es)) ∧ Hid (Below w.heap.size w u) := by
  obtain ⟨ao, cap, rfl, hc⟩ := h.own.cells
  have hbl := lt_some h.box
  have HC := hidden hc
  have HH := hidden h
  have hlen := h.len
  have hlI : (es.length : Int) ≤ 65536 := by omega
  clear h hc
  obtain ⟨N, hN⟩ : ∃ N, es.length = N := ⟨_, rfl⟩
  have HN := hidden hN
  rw [hN] at hlen hlI HC
  clear hN
  go_enter Tryd.func43, Tryd.ntmps43
  go_wp2_with fail
  go_loopw [7, 8] (fun o i wr => ∃ (k : Nat) (ov : Value), k ≤ N ∧ ov = o ∧ i = .int .i64 (k : Int) ∧ Hid (OwnJ wr w.heap.size ov (toldF (es.take k))) ∧ Hid (Below w.heap.size w wr)) (fun _ i _ => N - (RowKit.intOf i).toNat)
  case atStart => exact ⟨0, _, by omega, rfl, rfl, hidden (OwnJ.nil _ _), hidden (Below.refl _ _)⟩
  case round =>
    obtain ⟨k, o, hk, ho, rfl, HO, HB⟩ := hrel
    subst ho
    have HCB : Hid (∀ u, Below w.heap.size w u → u.cell? ⟨b, 0, none⟩ = some (.slice ao N cap)) := hidden (fun u hu => (hu.cell (p := ⟨b, 0, none⟩) hbl).trans (by rw [cell_of_row _ _ 0 _ _ _ HH.out.box, HN.out]; rfl))
    have a0 := HCB.out wr HB.out
    by_cases hlt : k < N
    · rcases HC.out with h0 | ⟨g, rfl, _, hgl, hcc⟩
      · omega
      have hltI : (k : Int) < (N : Int) := by omega
      have HCK : Hid (∀ u, Below w.heap.size w u → u.cell? ⟨g, k * 2, none⟩ = some (.int .i64 (es.getD k (0, 0)).1) ∧ u.cell? ⟨g, k * 2 + 1, none⟩ = some (.int .i64 (es.getD k (0, 0)).2)) := hidden (fun u hu => ⟨(hu.cell (p := ⟨g, k * 2, none⟩) hgl).trans (hcc k hlt).1, (hu.cell (p := ⟨g, k * 2 + 1, none⟩) hgl).trans (hcc k hlt).2⟩)
      have HTN := hidden (toldF_next es k (by rw [HN.out]; exact hlt))
      have htl := toldF_len es k
      obtain ⟨T, hT⟩ : ∃ T, toldF (es.take k) = T := ⟨_, rfl⟩
      rw [hT] at HO HTN htl
      obtain ⟨⟨z, z2⟩, hz⟩ : ∃ z, es.getD k (0, 0) = z := ⟨_, rfl⟩
      rw [hz] at HCK HTN
      clear hz hT hcc
      obtain ⟨a1, a2⟩ := HCK.out wr HB.out
      simp only at a1 a2
      by_cases hz0 : z2 = 0
      · subst hz0
        obtain ⟨y, hy⟩ : ∃ y, wr.alloc (.cells #[.int .i64 z] 3) = y := ⟨_, rfl⟩
        have hb1 : Below wr.heap.size wr y := by rw [← hy]; exact bl_al (Below.refl _ _) (Nat.le_refl _) _
        have q0 : y.cell? ⟨wr.heap.size, 0, none⟩ = some (.int .i64 z) := by rw [← hy]; simp
        have HOY := hidden (HO.out.below hb1)
        have HBY := hidden (bl_go HB.out (Nat.le_refl _) hb1)
        have hsy : w.heap.size ≤ y.heap.size := HBY.out.size
        have hbo : T.length + 1 ≤ 1000000 := by omega
        have HT2 : Hid (toldF (es.take (k + 1)) = T ++ [z]) := hidden (by rw [HTN.out]; rfl)
        clear hb1 HTN
        go_wp2_with (at_builtin; refine app_j _ rfl _ _ rfl w.heap.size T z _ wr.heap.size rfl rfl HOY.out q0 hbo hsy ?_; refine Hid.out ?_)
        apply hidden
        intro v3 w3 ho3 hg3
        have HB3 : Hid (Below w.heap.size w w3) := hidden (HBY.out.trans (own_below HOY.out hsy hg3.grow))
        have HO3 : Hid (OwnJ w3 w.heap.size v3 (toldF (es.take (k + 1)))) := hidden (by rw [HT2.out]; exact ho3)
        clear ho3 hg3 hy q0 HOY HBY hsy hbo a0 a1 a2
        go_wp2_with fail
        go_roundw
        case rel => exact ⟨k + 1, _, by omega, rfl, by go_num, HO3, HB3⟩
        case measure => simp [RowKit.intOf]; omega
      · have hzb : (z2 == 0) = false := by rw [beq_eq_false_iff_ne]; exact hz0
        have HO3 : Hid (OwnJ wr w.heap.size o (toldF (es.take (k + 1)))) := hidden (by rw [HTN.out]; simp only [hzb]; exact HO.out)
        clear HTN
        by_cases hzp : 0 < z2
        · have hd : decide (0 < z2) = true := by simpa using hzp
          go_wp2_with fail
          go_roundw
          case rel => exact ⟨k + 1, _, by omega, rfl, by go_num, HO3, HB⟩
          case measure => simp [RowKit.intOf]; omega
        · have hd : decide (0 < z2) = false := by simpa using hzp
          clear hzp
          go_wp2_with fail
          go_roundw
          case rel => exact ⟨k + 1, _, by omega, rfl, by go_num, HO3, HB⟩
          case measure => simp [RowKit.intOf]; omega
    · have hge : ¬ (k : Int) < (N : Int) := by omega
      have HO3 : Hid (OwnJ wr w.heap.size o (toldF es)) := hidden (by
        have := HO.out
        rw [List.take_of_length_le (by rw [HN.out]; omega)] at this
        exact this)
      go_wp2_with fail
      go_ret
      exact ⟨_, rfl, HO3, HB⟩
set_option maxRecDepth 100000 in
theorem rfree_any (w : World) (B b : Nat) (v m : Value) (la : Int) (es : List (Int × Int)) (h : Rl w B b v m la es) :
    Calls Tryd.prog 15 #[pB b] w fun e u => ∃ o, e = .returned o ∧ Hid (OwnJ u w.heap.size o (toldF es)) ∧ Hid (Below w.heap.size w u) := by
  have HT := hidden (rtold_free w B b v m la es h)
  clear h
  go_enter Tryd.func15, Tryd.ntmps15
  go_wp2_with (go_at_call 43; refine HT.out.mono ?_; rintro e u ⟨o, rfl, HO, HB⟩)
  go_ret
  exact ⟨_, rfl, HO, HB⟩
set_option maxRecDepth 100000 in
/-- The pages of a new list. -/
theorem told_new (l : List Int) (hn : l.Nodup) (hK : Pgs (KL l)) : kL (KL l) (· == 0) = toldF (enE l) := by
  refine kL_eq hK _ ?_ (fun x => ?_)
  · unfold toldF
    rw [List.pairwise_map]
    exact (enE_rise l hn).filter _
  · unfold toldF KL
    rw [List.mem_map]
    constructor
    · rintro ⟨y, hy, rfl⟩
      have := (enE_mem l y).1 (List.mem_filter.1 hy).1
      exact ⟨0, by rw [if_pos this.2], rfl⟩
    · rintro ⟨s, h1, h2⟩
      by_cases hx : x ∈ l
      · exact ⟨(x, 0), List.mem_filter.2 ⟨(enE_mem l (x, 0)).2 ⟨rfl, hx⟩, rfl⟩, rfl⟩
      · rw [if_neg hx] at h1; cases h1
end Go.Proofs.YtbbljldnaiiemaaDoor
