/- espalierlaw02.lent: items in memory of their own. -/
import Derived.Test.YtfdiflfjefhjfaaGreatDoorLentI
import Derived.Deep.RegionWith
namespace Go.Proofs.YtfdiflfjefhjfaaGreatDoor
open Go.RowKit

set_option maxRecDepth 100000 in
theorem Its.len_sz : ∀ a : Its, a.len ≤ a.sz
  | .nil => by simp [Its.len]
  | .cons _ _ _ s r => by have := Its.len_sz r; simp only [Its.len, Its.sz]; omega

set_option maxRecDepth 100000 in
theorem oneItem (k n : Int) (t : ByteArray) (so : Option Addr) (m c : Nat) : (#[.int .i64 k, .int .i64 n, .string t, .slice so m c] : Array Value).all (·.oneCell') = true :=
  all_oneCell_toArray (cs := [.int .i64 k, .int .i64 n, .string t, .slice so m c]) (by simp [Value.oneCell'])
set_option maxRecDepth 100000 in
/-- The store of an item. -/
theorem put_item {ops : Array Oper} {rest : List Oper} {o : Oper} {a : Act} {w : World} {Q : Exit → Act → World → Prop} (hgd : o.guard = none) (p v : Operand)
    (ho : o.op = .store 40 p v) (b j N : Nat) (k n : Int) (t : ByteArray) (so : Option Addr) (m c : Nat) (hr : RowB w b N) (hp : a.eval p = .pointer (some ⟨b, j, none⟩)) (hv : a.eval v = .agg #[.int .i64 k, .int .i64 n, .string t, .slice so m c]) (hj : j + 4 ≤ 4 * N)
    (h : ∀ u, Hid (u = w.setCells b j [.int .i64 k, .int .i64 n, .string t, .slice so m c]) → wpList Tryz.prog ops Q rest (a.put o.dst undef) u) : wpList Tryz.prog ops Q (o :: rest) a w :=
  store_item hgd p v ho b j N _ _ _ _ hp hv hr hj (oneItem ..) (h _ (hidden rfl))

/-- How the row stands behind k rounds. -/
structure LentR (w wr : World) (a : Its) (n k : Nat) : Prop where
  hb : Below w.heap.size w wr
  hr : RowB wr w.heap.size (n + 2)
  hl : (a.take k).Ln wr w.heap.size 0 (w.heap.size + 1) wr.heap.size

set_option maxRecDepth 100000 in
theorem LentR.put {w wr u : World} {a : Its} {n k j : Nat} {x0 x1 x2 x3 : Value} (h : LentR w wr a n k) (hk : k ≤ a.len) (hj : 4 * k ≤ j) (e : u = wr.setCells w.heap.size j [x0, x1, x2, x3]) : LentR w u a n k := by
  subst e
  refine ⟨h.hb.trans sets_below, RowB.sets _ _ _ h.hr, ?_⟩
  have hs : (wr.setCells w.heap.size j [x0, x1, x2, x3]).heap.size = wr.heap.size := by simp [World.setCells]
  rw [hs]
  refine Its.Ln.keep _ _ _ _ _ h.hl (fun i _ h2 => sets_out fun _ => ?_) (fun i h1 h2 => World.heap_setCells_other _ _ _ _ h2 (by omega))
  rw [Its.take_len _ _ hk] at h2
  left
  simpa using (by omega : i < j)

set_option maxRecDepth 100000 in
theorem lent_step {w u w2 v : World} {a : Its} {n k : Nat} {ka na : Int} {ta : ByteArray} {sa ra : Its} {o : Obj} {sl : Value} (h : LentR w u a n k) (hk : k < n) (hla : a.len = n) (e1 : a.drop k = .cons ka na ta sa ra)
    (hS : LentS w2 sa (u.heap.size + 1) w2.heap.size) (hB : Below (u.heap.size + 1) (u.alloc o) w2) (hlt : w.heap.size < u.heap.size)
    (e : v = (w2.setCell ⟨u.heap.size, 3, none⟩ sl).setCells w.heap.size (k * 4) [.int .i64 ka, .int .i64 na, .string ta, .slice (some ⟨u.heap.size + 1, 0, none⟩) sa.len (sa.len + 2)]) : LentR w v a n (k + 1) := by
  subst e
  generalize hvs : [Value.int .i64 ka, .int .i64 na, .string ta, .slice (some ⟨u.heap.size + 1, 0, none⟩) sa.len (sa.len + 2)] = vs
  have hs : ((w2.setCell ⟨u.heap.size, 3, none⟩ sl).setCells w.heap.size (k * 4) vs).heap.size = w2.heap.size := by rw [← hvs]; simp [World.setCells]
  have hz : u.heap.size + 1 ≤ w2.heap.size := by have := hB.size; simpa using this
  have hu : ∀ i, i < u.heap.size → (w2.setCell ⟨u.heap.size, 3, none⟩ sl).heap[i]? = u.heap[i]? := by
    intro i hi
    rw [Below.heap_setCell _ _ _ _ (by show i ≠ u.heap.size; omega), hB.block i (by omega)]
    exact Below.heap_alloc u o i hi
  have hr : RowB (w2.setCell ⟨u.heap.size, 3, none⟩ sl) w.heap.size (n + 2) := h.hr.same (hu _ hlt)
  have hb2 : Below w.heap.size w (w2.setCell ⟨u.heap.size, 3, none⟩ sl) :=
    ((h.hb.alloc (by omega) o).trans (hB.mono (by omega))).setCell (by show w.heap.size ≤ u.heap.size; omega) _
  obtain ⟨d0, d1, d2, d3⟩ := sets_in (x0 := .int .i64 ka) (x1 := .int .i64 na) (x2 := .string ta) (x3 := .slice (some ⟨u.heap.size + 1, 0, none⟩) sa.len (sa.len + 2)) hr (show k * 4 + 4 ≤ 4 * (n + 2) by omega)
  rw [hvs] at d0 d1 d2 d3
  have e4 : 0 + 4 * k = k * 4 := by omega
  refine ⟨hb2.trans (by rw [← hvs]; exact sets_below), RowB.sets _ _ _ hr, ?_⟩
  rw [hs]
  refine Its.Ln.snoc (mid := u.heap.size) (b' := u.heap.size + 1) k a 0 (w.heap.size + 1) e1 ?_ (by rw [e4]; exact d0) (by rw [e4]; exact d1) (by rw [e4]; exact d2) (by rw [e4]; exact d3) (by omega) ?_
  · refine Its.Ln.keep _ _ _ _ _ h.hl (fun i _ h2 => ?_) (fun i h1 h2 => ?_)
    · rw [Its.take_len _ _ (by omega)] at h2
      rw [← hvs, sets_out (fun _ => .inl (by show i < k * 4; omega))]
      exact cell_of_heap (hu _ hlt)
    · rw [World.heap_setCells_other _ _ _ _ (by simp; omega) (by omega), hu i h2]
  · refine hS.keep fun i h1 h2 => ?_
    rw [World.heap_setCells_other _ _ _ _ (by simp; omega) (by omega), Below.heap_setCell _ _ _ _ (by show i ≠ u.heap.size; omega)]

set_option maxHeartbeats 1000000 in
set_option maxRecDepth 100000 in
theorem lent_all : ∀ (N : Nat) (a : Its), a.sz < N → N ≤ 200000 → ∀ (ao : Option Addr) (n c : Nat) (w : World), SlI w Tp ao n c a → 
    Calls Tryz.prog 7 #[.slice ao n c] w fun e w' => e = .returned (.slice (some ⟨w.heap.size, 0, none⟩) n (n + 2)) ∧ LentS w' a w.heap.size w'.heap.size ∧ Below w.heap.size w w'
  | 0, a, h, _ => by omega
  | N + 1, a, h, hN => by
    intro ao n c w ha
    obtain ⟨i0, hi, hz0, hz1, hz2⟩ := info_parts infoItem
    have Hih := hidden (lent_all N)
    have hla := ha.hlen
    have hra := ha.hroom
    have hn : n ≤ 200000 := by have := Its.len_sz a; omega
    have Ha := hidden ha
    clear ha
    go_enter Tryz.func7, Tryz.ntmps7
    go_wp2_with (at_make; refine wpList_make_full _ rfl _ _ 22 rfl w.heap.size 40 i0 _ 4 Tryz.underlying22 hi hz0 hz1 .i64 .i64 (n + 2) (n + 2) (n + 2) rfl rfl rfl rfl (by rw [hz2]; omega) (by unfold maxLen; omega) (Nat.le_refl _) ?_)
    intro w1 hown1 hg1
    have hb1 : Below w.heap.size w w1 := (Below.refl _ _).grown hg1 (Nat.le_refl _) (fun k hk => by cases hk)
    have hR1 : RowB w1 w.heap.size (n + 2) := by
      rcases hown1.2 with ⟨h, _⟩ | ⟨g, c, cur, h, _, hh, _, _, hs, ht⟩
      · cases h
      · cases h
        exact ⟨cur, hh, by omega⟩
    have hL1 : Hid (LentR w w1 a n 0) := hidden ⟨hb1, hR1, (by have := hR1.lt; simp only [Its.take, Its.Ln]; omega)⟩
    clear hown1 hg1 hb1 hR1 hi hz0 hz1 hz2
    go_wp2_with fail
    go_loopw [5] (fun i wr => ∃ k : Nat, k ≤ n + 2 ∧ i = .int .i64 k ∧ Hid (LentR w wr a n (min k n)) ∧ Hid (∀ j, n ≤ j → j < k → wr.cell? ⟨w.heap.size, 4 * j, none⟩ = some (.int .i64 (-7 - (j : Int))))) (fun i _ => n + 2 - (intOf i).toNat)
    case atStart => exact ⟨0, by omega, rfl, by simpa using hL1, hidden fun j _ h => by omega⟩
    case round =>
      obtain ⟨k, hk, rfl, HL, HS⟩ := hrel
      by_cases hlt : k < n + 2
      · have hlt' : (k : Int) < (n : Int) + 2 := by omega
        have hRr := HL.out.hr
        have HR := hidden hRr
        clear hRr
        by_cases hkn : k < n
        · obtain ⟨ba, oa, ka, na, ta, sa, ra, xa, ma, ca, rfl, hba, e1, e2, a0, a1, a2, a3, hsa, p1, p2, p3⟩ := Ha.out.item k hkn
          have hne : ba ≠ w.heap.size := by omega
          have hne' : ¬ w.heap.size = ba := by omega
          have hm : min k n = k := by omega
          rw [hm] at HL
          have HA0 := hidden a0
          have HA1 := hidden a1
          have HA2 := hidden a2
          have HA3 := hidden a3
          have HSa := hidden hsa
          have hsz := Its.sub_sz e1
          clear a0 a1 a2 a3 hsa hm
          go_wp2_with (show wpList _ _ _ (Oper.mk _ (Op.store _ _ _) _ _ _ _ :: _) _ _; refine put_item (by rfl) _ _ (by rfl) w.heap.size (k * 4) (n + 2) (-7 - (k : Int)) 0 ⟨#[]⟩ none 0 0 HR.out (by rfl) (by rfl) (by omega) ?_; intro u HU; refine Hid.out ?_)
          apply hidden
          have HLu := hidden (HL.out.put (by omega) (by omega) HU.out)
          have hbu := HLu.out.hb
          have b0 := (hbu.cell (p := ⟨ba, oa + k * 4, none⟩) hba).trans HA0.out
          have b1 := (hbu.cell (p := ⟨ba, oa + k * 4 + 1, none⟩) hba).trans HA1.out
          have b2 := (hbu.cell (p := ⟨ba, oa + k * 4 + 2, none⟩) hba).trans HA2.out
          have b3 := (hbu.cell (p := ⟨ba, oa + k * 4 + 3, none⟩) hba).trans HA3.out
          have HBu := hidden hbu
          have hltu : w.heap.size < u.heap.size := HLu.out.hr.lt
          have hbau : ba < u.heap.size := by omega
          clear hbu HL HU HR HA0 HA1 HA2 HA3
          go_wp2_with (go_at_call 7; refine (Hih.out sa (by omega) (by omega) xa ma ca _ (HSa.out.on (Nat.le_refl _) (HBu.out.alloc HBu.out.size _))).mono ?_; rintro e w2 ⟨rfl, hS2, hB2⟩; refine Hid.out ?_)
          apply hidden
          simp only [World.size_alloc] at hS2 hB2
          have hx2 : w2.heap[u.heap.size]? = some (.cells #[.int .i64 ka, .int .i64 na, .string ta, .slice xa ma ca] 40 (0, 0)) := by
            rw [hB2.block _ (by omega)]
            exact heap_alloc_new _ _
          have d0 : w2.cell? ⟨u.heap.size, 0, none⟩ = some (.int .i64 ka) := by simp [World.cell?, hx2]
          have d1 : w2.cell? ⟨u.heap.size, 1, none⟩ = some (.int .i64 na) := by simp [World.cell?, hx2]
          have d2 : w2.cell? ⟨u.heap.size, 2, none⟩ = some (.string ta) := by simp [World.cell?, hx2]
          have d3 : w2.cell? ⟨u.heap.size, 3, none⟩ = some (.slice xa ma ca) := by simp [World.cell?, hx2]
          have fz : w2.frozen? ⟨u.heap.size, 3, none⟩ = false := by simp [World.frozen?, hx2]
          have HS2 := hidden hS2
          have HB2 := hidden hB2
          have hm := HSa.out.hlen
          have HR2 : Hid (RowB (w2.setCell ⟨u.heap.size, 3, none⟩ (.slice (some ⟨u.heap.size + 1, 0, none⟩) ma (ma + 2))) w.heap.size (n + 2)) := by
            refine hidden (HLu.out.hr.same ?_)
            rw [Below.heap_setCell _ _ _ _ (by show w.heap.size ≠ u.heap.size; omega), hB2.block _ (by omega)]
            exact Below.heap_alloc _ _ _ hltu
          have HM := hidden hm
          clear hx2 hS2 hB2 b0 b1 b2 b3 hm Hih hne hne' p1 p2 p3 hbau
          go_wp2_with (refine put_item (by rfl) _ _ (by rfl) w.heap.size (k * 4) (n + 2) ka na ta (some ⟨u.heap.size + 1, 0, none⟩) ma (ma + 2) HR2.out (by rfl) (by rfl) (by omega) ?_; intro v HV; refine Hid.out ?_)
          apply hidden
          have hv := HV.out
          rw [← HM.out] at hv
          have HN := hidden (lent_step HLu.out hkn hla e1 HS2.out HB2.out hltu hv)
          clear HV hv HS2 HB2 HR2 d0 d1 d2 d3 fz
          go_wp2
          go_roundw
          case rel => exact ⟨k + 1, by omega, by go_num, by rw [show min (k + 1) n = k + 1 by omega]; exact HN, hidden fun j h1 h2 => by omega⟩
          case measure => simp [intOf]; omega
        · have hm : min k n = n := by omega
          rw [hm] at HL
          clear hm
          go_wp2_with (refine put_item (by rfl) _ _ (by rfl) w.heap.size (k * 4) (n + 2) (-7 - (k : Int)) 0 ⟨#[]⟩ none 0 0 HR.out (by rfl) (by rfl) (by omega) ?_; intro u HU; refine Hid.out ?_)
          apply hidden
          have HLu := hidden (HL.out.put (by omega) (by omega) HU.out)
          have HSu : Hid (∀ j, n ≤ j → j < k + 1 → u.cell? ⟨w.heap.size, 4 * j, none⟩ = some (.int .i64 (-7 - (j : Int)))) := by
            refine hidden fun j h1 h2 => ?_
            rw [HU.out]
            by_cases hj : j = k
            · subst hj
              rw [Nat.mul_comm 4 j]
              exact (sets_in HR.out (by omega)).1
            · rw [sets_out (fun _ => .inl (by show 4 * j < k * 4; omega))]
              exact HS.out j h1 (by omega)
          clear HL HU HR HS
          go_wp2
          go_roundw
          case rel => exact ⟨k + 1, by omega, by go_num, by rw [show min (k + 1) n = n by omega]; exact HLu, HSu⟩
          case measure => simp [intOf]; omega
      · obtain rfl : k = n + 2 := by omega
        have HE : Hid (LentS wr a w.heap.size wr.heap.size) := by
          have hl := HL.out.hl
          have hr := HL.out.hr
          rw [show min (n + 2) n = a.len by omega, Its.take_all] at hl
          subst hla
          exact hidden ⟨hr.lt, hr, hl, HS.out _ (by omega) (by omega), HS.out _ (by omega) (by omega)⟩
        have HB := hidden HL.out.hb
        clear HL HS
        go_wp2_with fail
        go_ret
        exact ⟨rfl, HE.out, HB.out⟩

set_option maxRecDepth 100000 in
/-- lent, of items that are not too many. -/
theorem lent_any (a : Its) (ao : Option Addr) (n c : Nat) (w : World) (ha : SlI w Tp ao n c a) (hs : a.sz ≤ 100000) :
    Calls Tryz.prog 7 #[.slice ao n c] w fun e w' => e = .returned (.slice (some ⟨w.heap.size, 0, none⟩) n (n + 2)) ∧ LentS w' a w.heap.size w'.heap.size ∧ Below w.heap.size w w' :=
  lent_all (a.sz + 1) a (by omega) (by omega) ao n c w ha
end Go.Proofs.YtfdiflfjefhjfaaGreatDoor
