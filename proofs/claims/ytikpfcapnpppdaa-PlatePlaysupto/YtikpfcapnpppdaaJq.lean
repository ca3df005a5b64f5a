/- The pair's play: Arm and Crash. -/
import Derived.Test.YtikpfcapnpppdaaSx
import Derived.Test.YtikpfcapnpppdaaJl
import Derived.Test.YtikpfcapnpppdaaJh
import Derived.Test.YtikpfcapnpppdaaJp
import Derived.Test.YtikpfcapnpppdaaJy
namespace Go.Proofs.Ytikpfcapnpppdaa
open Go.RowKit

set_option maxRecDepth 100000 in
set_option maxHeartbeats 4000000 in
theorem play_fall (w : World) (B x t pa ra : Nat) (P F G M : Nat → Prop) (its : List (Option Nat × List Int)) (d : D) (r : R) (vC vW : Value) (h : Ps w B P x t its d r pa ra F G M vC vW) (kind on n by_ : Int) (hkd : kind = 4 ∨ kind = 5) (hn : n ≤ 9223372036854775807) (da ka : Option Addr) (dn dc kn kc : Nat) (tn ta : Int) (ks : List Int) (hk : Pl_ w P ka kn kc ks) (hPl : ∀ k, P k → k < w.heap.size) :
    Calls Try.prog 8 #[.pointer (some ⟨x, 0, none⟩), opV kind on n by_ da dn dc ka kn kc tn ta] w fun e w' => e = .returned (.bool true) ∧ Pp w' B (Pg P w w') x (t + 1) ∧ Ch P w w' := by
  have HS : Hid (∀ o, Calls Try.prog 31 #[.pointer (some ⟨x, 0, none⟩), opV kind on n by_ da dn dc ka kn kc tn ta] (w.alloc o) fun e u => e = .returned (.bool true) ∧ Hid (Pp u B (Pg P w u) x (t + 1) ∧ Ch P w u)) := by
    refine hidden fun o => ?_
    have hc : Ch P w (w.alloc o) := Ch.alloc P w o
    have hb : Below w.heap.size w (w.alloc o) := (Below.refl _ _).alloc (Nat.le_refl _) o
    refine (pfall (w.alloc o) B x t pa ra P F G M its d r vC vW (h.box o) kind on n by_ hn da ka dn dc kn kc tn ta ks ⟨hk.ks.on hb, hk.le, hk.nil, hk.out⟩ (fun k hq => Nat.lt_of_lt_of_le (hPl k hq) hc.size)).mono ?_
    rintro e u ⟨rfl, ⟨its', d', r', pa', ra', F', G', M', vC', vW', hp⟩, hc2⟩
    refine ⟨rfl, hidden ⟨⟨_, _, _, _, _, _, _, _, _, _, hp.weak (fun k hq => ?_) (Nat.le_succ _)⟩, hc.trans hc2 fun _ _ h => h⟩⟩
    rcases hq with e | e
    · exact .inl e
    · exact .inr ⟨Nat.le_trans hc.size e.1, e.2⟩
  clear h hk hPl
  unfold opV at HS ⊢
  rcases hkd with rfl | rfl
  all_goals
    go_enter Try.func8, Try.ntmps8
    go_wp2_with (go_at_call 31; refine (HS.out _).mono ?_; rintro e u ⟨rfl, HQ⟩)
    go_wp2
    go_ret
    exact ⟨rfl, HQ.out⟩
end Go.Proofs.Ytikpfcapnpppdaa

/- The pair's play, whatever the kind. -/

namespace Go.Proofs.Ytikpfcapnpppdaa
open Go.RowKit

set_option maxRecDepth 100000 in
theorem play_any (w : World) (B x t : Nat) (P : Nat → Prop) (h : Pp w B P x t) (ht : t < 1000000000) (kind on n by_ : Int) (hn : -9223372036854775808 ≤ n ∧ n ≤ 9223372036854775807) (hby : 0 ≤ by_ ∧ by_ ≤ 255) (da ka : Option Addr) (dn dc kn kc : Nat) (tn ta : Int)
    (data ks : List Int) (hs : Sl w da dn dc data) (hdP : 0 < dn → ∀ g, da = some g → ¬ P g.block) (hk : Pl_ w P ka kn kc ks) (hPl : ∀ k, P k → k < w.heap.size) :
    Calls Try.prog 8 #[.pointer (some ⟨x, 0, none⟩), opV kind on n by_ da dn dc ka kn kc tn ta] w fun e w' => e = .returned (.bool true) ∧ Pp w' B (Pg P w w') x (t + 1) ∧ Ch P w w' := by
  obtain ⟨its, d, r, pa, ra, F, G, M, vC, vW, hp⟩ := h
  by_cases h1 : kind = 1
  · subst h1; exact play_read w B x t pa ra P F G M its d r vC vW hp (by omega) on n by_ da ka dn dc kn kc tn ta
  by_cases h2 : kind = 2
  · subst h2; exact play_write w B x t pa ra P F G M its d r vC vW hp (by omega) on n by_ hby da ka dn dc kn kc tn ta data hs hdP hPl
  by_cases h3 : kind = 3
  · subst h3; exact play_sync w B x t pa ra P F G M its d r vC vW hp (by omega) on n by_ da ka dn dc kn kc tn ta
  by_cases h4 : kind = 4 ∨ kind = 5
  · exact play_fall w B x t pa ra P F G M its d r vC vW hp kind on n by_ h4 hn.2 da ka dn dc kn kc tn ta ks hk hPl
  by_cases h6 : kind = 6
  · subst h6
    refine (play_start w B x t pa ra P F G M its d r vC vW hp on n by_ da ka dn dc kn kc tn ta).mono ?_
    rintro e w' ⟨rfl, hq, hc⟩
    exact ⟨rfl, ⟨_, _, _, _, _, _, _, _, _, _, hq.weak (fun _ h => h) (Nat.le_succ _)⟩, hc⟩
  by_cases h7 : kind = 7
  · subst h7; exact play_image w B x t pa ra P F G M its d r vC vW hp (by omega) on n by_ da ka dn dc kn kc tn ta
  by_cases h8 : kind = 8
  · subst h8; exact play_load w B x t pa ra P F G M its d r vC vW hp on n by_ hn da ka dn dc kn kc tn ta hPl
  by_cases h9 : kind = 9
  · subst h9; exact play_ask w B x t pa ra P F G M its d r vC vW hp on n by_ da ka dn dc kn kc tn ta
  refine (play_none w B x t pa ra P F G M its d r vC vW hp kind on n by_ (by omega) da ka dn dc kn kc tn ta).mono ?_
  rintro e w' ⟨rfl, hq, hc⟩
  exact ⟨rfl, ⟨_, _, _, _, _, _, _, _, _, _, hq.weak (fun _ h => .inl h) (Nat.le_succ _)⟩, hc⟩
end Go.Proofs.Ytikpfcapnpppdaa

/- pair.owned. -/

namespace Go.Proofs.Ytikpfcapnpppdaa
open Go.RowKit

set_option maxRecDepth 100000 in
theorem bl_drw {B : Nat} {w w' : World} (h : Below B w w') (q : Nat) : Below B w (w'.drewN q) := ⟨h.os, h.tape, h.output, h.size, h.block⟩
set_option maxRecDepth 100000 in
theorem rowsC {w : World} {B : Nat} {ty : TypeId} {v : Value} {n : Nat} {xs : List Value} (h : w.ownsRow B ty 1 v n xs) : ∃ ao cap, v = .slice ao n cap ∧ (n = 0 ∨ ∃ g, ao = some ⟨g, 0, none⟩ ∧ n ≤ cap ∧ ∀ (t : Nat) (u : Value), xs[t]? = some u → w.cell? ⟨g, t, none⟩ = some u) := by
  have hl := h.1
  rcases h.2 with ⟨rfl, h0⟩ | ⟨g, cap, cur, rfl, hg, hh, hnc, hm, hs, ht⟩
  · exact ⟨none, 0, by rw [h0], .inl h0⟩
  · refine ⟨_, cap, rfl, .inr ⟨g, rfl, hnc, fun t u hu => ?_⟩⟩
    have hlt := (List.getElem?_eq_some_iff.1 hu).1
    have := World.ownsRow.cellAt h t (by omega)
    rw [this]
    exact hu
set_option maxRecDepth 100000 in
theorem rowsLow {w : World} {B : Nat} {ty : TypeId} {v : Value} {n : Nat} {xs : List Value} (h : w.ownsRow B ty 1 v n xs) : w.ownsRow 0 ty 1 v n xs := by
  rcases h.2 with h2 | ⟨g, cap, cur, e, hg, rest⟩
  · exact ⟨h.1, .inl h2⟩
  · exact ⟨h.1, .inr ⟨g, cap, cur, e, Nat.zero_le _, rest⟩⟩
set_option maxRecDepth 100000 in
theorem cv_own {w : World} {M : Nat → Prop} {x : Option Nat × List Int} (h : (x.1 = none ∧ x.2 = []) ∨ ∃ g, x.1 = some g ∧ M g ∧ w.heap[g]? = some (.cells (By x.2).toArray 5 (0, 0)) ∧ Wf x.2 ∧ x.2.length ≤ 67108864) : OwnB w 0 (cv x) x.2 ∧ Wf x.2 ∧ x.2.length ≤ 67108864 ∧ (cv x).ownBlock = x.1 := by
  obtain ⟨y, l⟩ := x
  rcases h with ⟨h1, h2⟩ | ⟨g, h1, _, hr, hw, hl⟩
  · simp only at h1 h2
    subst h1 h2
    exact ⟨OwnB.nil _ _, Wf.nil, by simp, rfl⟩
  · simp only at h1 hr hw hl
    subst h1
    refine ⟨?_, hw, hl, rfl⟩
    unfold OwnB
    refine ⟨by simp [By], .inr ⟨g, l.length, _, rfl, Nat.zero_le _, hr, Nat.le_refl _, by unfold maxLen; omega, by simp [By], ?_⟩⟩
    simp only [Nat.mul_one]
    rw [show l.length = (By l).length by simp [By]]
    exact List.take_length
set_option maxRecDepth 100000 in
theorem nodup_apart {its : List (Option Nat × List Int)} (h : (its.filterMap (·.1)).Nodup) : ∀ (t t' : Nat) (x x' : Option Nat × List Int), its[t]? = some x → its[t']? = some x' → t ≠ t' → x.1 = none ∨ x.1 ≠ x'.1 := by
  induction its with
  | nil => intro t t' x x' ht; simp at ht
  | cons y l ih =>
    have hl : (l.filterMap (·.1)).Nodup := by
      rcases e : y.1 with _ | g
      · rw [List.filterMap_cons_none e] at h; exact h
      · rw [List.filterMap_cons_some e] at h; exact (List.nodup_cons.1 h).2
    have first : ∀ (t : Nat) (x : Option Nat × List Int), l[t]? = some x → y.1 = none ∨ y.1 ≠ x.1 := by
      intro t x hx
      rcases e : y.1 with _ | g
      · exact .inl rfl
      · right
        intro e2
        rw [List.filterMap_cons_some e] at h
        exact (List.nodup_cons.1 h).1 (List.mem_filterMap.2 ⟨x, List.mem_of_getElem? hx, e2.symm⟩)
    intro t t' x x' ht ht' hne
    cases t with
    | zero =>
      cases t' with
      | zero => omega
      | succ t' =>
        simp only [List.getElem?_cons_zero, Option.some.injEq] at ht
        subst ht
        exact first t' x' (by simpa using ht')
    | succ t =>
      cases t' with
      | zero =>
        simp only [List.getElem?_cons_zero, Option.some.injEq] at ht'
        subst ht'
        rcases first t x (by simpa using ht) with e | e
        · rw [e]
          cases e2 : x.1 with
          | none => exact .inl rfl
          | some _ => exact .inr (by simp)
        · exact .inr fun e2 => e e2.symm
      | succ t' => exact ih hl t t' x x' (by simpa using ht) (by simpa using ht') (by omega)
set_option maxRecDepth 100000 in
/-- The book that was filled with all that came. -/
theorem book_all {w : World} {B b : Nat} {M : Nat → Prop} {its : List (Option Nat × List Int)} {v : Value} (hb : Bk w B b its.length (its.map cv) v) (hm : Cm w M its) : Bo9 w 0 b v (its.map cv) (fun t => (its.getD t (none, [])).2) ∧ ∀ (t : Nat) (u : Value), (its.map cv)[t]? = some u → Fo M w u := by
  have hit : ∀ (t : Nat) (u : Value), (its.map cv)[t]? = some u → ∃ x, its[t]? = some x ∧ cv x = u := by
    intro t u ht
    rw [List.getElem?_map] at ht
    cases e : its[t]? with
    | none => rw [e] at ht; cases ht
    | some x => rw [e] at ht; cases ht; exact ⟨x, rfl, rfl⟩
  refine ⟨⟨hb.1, ?_, fun t u ht => ?_, fun t t' u u' ht ht' hne => ?_⟩, fun t u ht z hz => ?_⟩
  · have := rowsLow hb.2.1
    unfold OwnX
    rw [List.length_map]
    exact this
  · obtain ⟨x, hx, rfl⟩ := hit t u ht
    obtain ⟨a1, a2, a3, _⟩ := cv_own (hm.ok x (List.mem_of_getElem? hx))
    have e : its.getD t (none, []) = x := by simp [List.getD, hx]
    simp only [e]
    exact ⟨a1, a2, a3⟩
  · obtain ⟨x, hx, rfl⟩ := hit t u ht
    obtain ⟨x', hx', rfl⟩ := hit t' u' ht'
    rw [(cv_own (hm.ok x (List.mem_of_getElem? hx))).2.2.2, (cv_own (hm.ok x' (List.mem_of_getElem? hx'))).2.2.2]
    exact nodup_apart hm.nd t t' x x' hx hx' hne
  · obtain ⟨x, hx, rfl⟩ := hit t u ht
    rw [(cv_own (hm.ok x (List.mem_of_getElem? hx))).2.2.2] at hz
    rcases hm.ok x (List.mem_of_getElem? hx) with ⟨e, _⟩ | ⟨g, e, hg, _⟩
    · rw [e] at hz; cases hz
    · rw [e] at hz
      cases hz
      exact .inl hg

set_option maxRecDepth 100000 in
set_option maxHeartbeats 4000000 in
theorem owned_any (w : World) (B x t pa ra : Nat) (P F G M : Nat → Prop) (its : List (Option Nat × List Int)) (d : D) (r : R) (vC vW : Value) (h : Ps w B P x t its d r pa ra F G M vC vW) (hN : its.length ≤ 1000000) :
    Calls Try.prog 15 #[.pointer (some ⟨x, 0, none⟩)] w fun e u => e = .returned (.bool true) ∧ Hid (Ch M w u) := by
  have hxl := lt_of_some h.pc.row
  obtain ⟨N, hNN⟩ : ∃ N, its.length = N := ⟨_, rfl⟩
  obtain ⟨oC, cC, eC, hC⟩ := rowsC h.pc.oC
  obtain ⟨oW, cW, eW, hW⟩ := rowsC h.pc.oW
  rw [hNN] at eC eW hC hW
  have HX : Hid (∀ wr, Below w.heap.size w wr → wr.cell? ⟨x, 2, none⟩ = some (.slice oC N cC) ∧ wr.cell? ⟨x, 3, none⟩ = some (.slice oW N cW)) := hidden (by
    intro wr hb
    have e := (hb.block x hxl).trans h.pc.row
    rw [eC, eW] at e
    exact ⟨cell_of_row e, cell_of_row e⟩)
  have HI : Hid (∀ i, i < N → ∃ ao n c S gC gW, oC = some ⟨gC, 0, none⟩ ∧ oW = some ⟨gW, 0, none⟩ ∧ N ≤ cC ∧ N ≤ cW ∧ (its.map cv)[i]? = some (.slice ao n c) ∧ ∀ wr, Below w.heap.size w wr → wr.cell? ⟨gC, i, none⟩ = some (.slice ao n c) ∧ wr.cell? ⟨gW, i, none⟩ = some (.string S) ∧ ∀ q, (convert 35 9 (.slice ao n c)).run Try.prog (wr.drewN q) = .ok (.string S) (wr.drewN q)) := hidden (by
    intro i hi
    obtain ⟨y, hy⟩ : ∃ y, its[i]? = some y := ⟨_, List.getElem?_eq_getElem (by omega)⟩
    have hok := h.cm.ok y (List.mem_of_getElem? hy)
    obtain ⟨ao, c, e, hs, hbk⟩ := cv_sl (w := w) (y := y) (hok.imp (fun h => h) fun ⟨g, a1, _, a3⟩ => ⟨g, a1, a3⟩)
    rcases hC with h0 | ⟨gC, rfl, hc1, hC⟩
    · omega
    rcases hW with h0 | ⟨gW, rfl, hw1, hW⟩
    · omega
    have m1 : (its.map cv)[i]? = some (.slice ao y.2.length c) := by rw [List.getElem?_map, hy, ← e]; rfl
    have m2 : (its.map ct)[i]? = some (.string (strOfNums y.2)) := by rw [List.getElem?_map, hy]; rfl
    have lC : gC < w.heap.size := (h.pc.oC.lt gC (by rw [eC]; rfl)).2
    have lW : gW < w.heap.size := (h.pc.oW.lt gW (by rw [eW]; rfl)).2
    refine ⟨ao, y.2.length, c, strOfNums y.2, gC, gW, rfl, rfl, hc1, hw1, m1, fun wr hb => ⟨(hb.cell (p := ⟨gC, i, none⟩) lC).trans (hC i _ m1), (hb.cell (p := ⟨gW, i, none⟩) lW).trans (hW i _ m2), fun q => conv_sl (hs.on (Nat.le_refl _) (bl_drw hb q))⟩⟩)
  have HH := hidden h
  have HNN := hidden hNN
  have HNI : (N : Int) ≤ 1000000 := by omega
  clear h eC eW hC hW hNN
  obtain ⟨o1, ho1⟩ : ∃ o1 : Obj, Obj.cells #[.slice none 0 0] 67 (0, 0) = o1 := ⟨_, rfl⟩
  have HB0 : Hid (Bk (w.alloc o1) w.heap.size w.heap.size 0 [] (.slice none 0 0)) := hidden ⟨by rw [← ho1]; show (w.heap.push _)[w.heap.size]? = _; simp, World.ownsRow_nil _ _ _ _, by simp [Value.ownBlock], Nat.le_refl _⟩
  have HBe : Hid (Below w.heap.size w (w.alloc o1)) := hidden ((Below.refl _ _).alloc (Nat.le_refl _) _)
  go_enter Try.func15, Try.ntmps15
  go_wp2_with fail
  go_loopw [4] (fun y wr => ∃ (i : Nat) (v : Value), i ≤ N ∧ y = .int .i64 (i : Int) ∧ Hid (Bk wr w.heap.size w.heap.size i ((its.map cv).take i) v) ∧ Hid (Below w.heap.size w wr)) (fun y _ => N - (RowKit.intOf y).toNat)
  case atStart => exact ⟨0, _, by omega, rfl, by simpa using HB0, HBe⟩
  case round =>
    obtain ⟨i, v, hi, rfl, HB, HW⟩ := hrel
    obtain ⟨x2, x3⟩ := HX.out wr HW.out
    by_cases hlt : i < N
    · have hltI : (i : Int) < (N : Int) := by omega
      obtain ⟨ao, n, c, S, gC, gW, rfl, rfl, hcC, hcW, m1, hwr⟩ := HI.out i hlt
      obtain ⟨c1, c2, c3⟩ := hwr wr HW.out
      have c30 := c3 0
      have M1 := hidden m1
      have HT : Hid (∀ q, Calls Try.prog 41 #[.pointer (some ⟨w.heap.size, 0, none⟩), .slice ao n c] (wr.drewN q) fun e u => e = .returned (.tuple #[]) ∧ Hid (∃ v', Bk u w.heap.size w.heap.size (i + 1) ((its.map cv).take (i + 1)) v' ∧ Below w.heap.size w u)) := hidden (by
        intro q
        have hbq : Bk (wr.drewN q) w.heap.size w.heap.size i ((its.map cv).take i) v := HB.out
        refine (Take_any (wr.drewN q) w.heap.size w.heap.size i _ v ao n c hbq (by omega)).mono ?_
        rintro e u ⟨rfl, v', h1, h2, _⟩
        refine ⟨rfl, hidden ⟨v', ?_, ?_⟩⟩
        · rw [show (its.map cv).take (i + 1) = (its.map cv).take i ++ [.slice ao n c] from by rw [List.take_add_one, M1.out]; rfl]
          exact h1
        · have hq : Below w.heap.size w (wr.drewN q) := bl_drw HW.out q
          refine hq.trans ⟨h2.os, h2.tape, h2.output, h2.size, fun k hk => h2.block k (Nat.lt_of_lt_of_le hk hq.size) ?_⟩
          rintro (rfl | e)
          · omega
          · have := (hbq.2.1.lt k e).1
            omega)
      have eS : (S.toList == S.toList) = true := by simp
      clear hwr m1
      go_wp2_with fail
      go_quiet (fail)
      go_wp2_with (first | (go_at_call 41; refine (HT.out _).mono ?_; rintro e u ⟨rfl, HU⟩))
      obtain ⟨v', hB', hW'⟩ := HU.out
      have HB' := hidden hB'
      have HW' := hidden hW'
      clear hB' hW' HU HT c3
      go_roundw
      case rel => exact ⟨i + 1, v', by omega, by go_num, HB', HW'⟩
      case measure => simp [RowKit.intOf]; omega
    · obtain rfl : i = N := by omega
      have hge : ¬ (i : Int) < (i : Int) := by omega
      have HO : Hid (Calls Try.prog 42 #[.pointer (some ⟨w.heap.size, 0, none⟩)] wr fun e u => e = .returned (.bool true) ∧ Hid (Ch M w u)) := hidden (by
        have hb := HB.out
        rw [List.take_of_length_le (by rw [List.length_map, HNN.out]; omega), ← HNN.out] at hb
        have hcm := HH.out.cm.ch (Ch.of_below (F := fun _ => False) HW.out) (fun _ _ e => e)
        obtain ⟨hbo, hfo⟩ := book_all hb hcm
        refine (owned9F M wr 0 w.heap.size its.length v (its.map cv) _ hbo hfo (by rw [List.length_map]) (by rw [HNN.out]; omega) (Nat.zero_le _)).mono ?_
        rintro e u ⟨rfl, hc⟩
        refine ⟨rfl, hidden ?_⟩
        have hc := hc.out
        exact ⟨hc.os.trans HW.out.os, hc.tape.trans HW.out.tape, hc.output.trans HW.out.output, Nat.le_trans HW.out.size hc.size, fun k hk hm => (hc.block k (Nat.lt_of_lt_of_le hk HW.out.size) hm).trans (HW.out.block k hk)⟩)
      go_wp2_with (first | (go_at_call 42; refine HO.out.mono ?_; rintro e u ⟨rfl, HU⟩))
      go_ret
      exact ⟨rfl, HU⟩
end Go.Proofs.Ytikpfcapnpppdaa

/- Two pairs beside each other. -/

namespace Go.Proofs.Ytikpfcapnpppdaa
open Go.RowKit

/-- A pair whose numbers are no device's. -/
def Np (w : World) (x : Nat) : Prop := w.heap[x]? = some (.cells [.pointer none, .pointer none, .slice none 0 0, .slice none 0 0].toArray 33 (0, 0))
/-- A pair's place: 0 a pair, 1 none, else: done with. -/
def Stp : Nat → World → Nat → (Nat → Prop) → Nat → Nat → Prop
  | 0, w, B, P, x, t => Pp w B P x t
  | 1, w, _, P, x, _ => Np w x ∧ P x
  | _, _, _, _, _, _ => True
set_option maxRecDepth 100000 in
theorem Stp.ch {w w' : World} {B x t : Nat} {P Q : Nat → Prop} : ∀ {b : Nat}, Stp b w B P x t → Ch Q w w' → (∀ k, P k → ¬ Q k) → Stp b w' B P x t
  | 0, h, hc, hd => Pp.ch h hc hd
  | 1, h, hc, hd => ⟨(hc.block x (lt_of_some h.1) (hd x h.2)).trans h.1, h.2⟩
  | _ + 2, _, _, _ => trivial
set_option maxRecDepth 100000 in
theorem Pp.more {w : World} {B x t t' : Nat} {P P' : Nat → Prop} (h : Pp w B P x t) (hp : ∀ k, P k → P' k) (ht : t ≤ t') : Pp w B P' x t' := by
  obtain ⟨its, d, r, pa, ra, F, G, M, vC, vW, hs⟩ := h
  exact ⟨its, d, r, pa, ra, F, G, M, vC, vW, hs.weak hp ht⟩
set_option maxRecDepth 100000 in
theorem Stp.more {w : World} {B x t t' : Nat} {P : Nat → Prop} : ∀ {b : Nat}, Stp b w B P x t → t ≤ t' → Stp b w B P x t'
  | 0, h, ht => Pp.more h (fun _ h => h) ht
  | 1, h, _ => h
  | _ + 2, _, _ => trivial
/-- Two places, and the list of the two. -/
structure Two (W w : World) (la : Nat) (LA : Obj) (xa xb t ba bb : Nat) : Prop where
  ex : ∃ Pa Pb, Stp ba w W.heap.size Pa xa t ∧ Stp bb w W.heap.size Pb xb t ∧ (∀ k, Pa k → W.heap.size ≤ k ∧ k < w.heap.size ∧ k ≠ la ∧ ¬ Pb k) ∧ (∀ k, Pb k → W.heap.size ≤ k ∧ k < w.heap.size ∧ k ≠ la)
  be : Below W.heap.size W w
  row : w.heap[la]? = some LA
set_option maxRecDepth 100000 in
theorem Two.symm {W w : World} {la : Nat} {LA : Obj} {xa xb t ba bb : Nat} (h : Two W w la LA xa xb t ba bb) : Two W w la LA xb xa t bb ba := by
  obtain ⟨Pa, Pb, h1, h2, h3, h4⟩ := h.ex
  exact ⟨⟨Pb, Pa, h2, h1, fun k hk => ⟨(h4 k hk).1, (h4 k hk).2.1, (h4 k hk).2.2, fun ha => (h3 k ha).2.2.2 hk⟩, fun k hk => ⟨(h3 k hk).1, (h3 k hk).2.1, (h3 k hk).2.2.1⟩⟩, h.be, h.row⟩
set_option maxRecDepth 100000 in
theorem Two.off {W w : World} {la : Nat} {LA : Obj} {xa xb t ba bb : Nat} (h : Two W w la LA xa xb t ba bb) : Two W w la LA xb xa t bb 2 := by
  obtain ⟨Pa, Pb, h1, h2, h3, h4⟩ := h.ex
  exact ⟨⟨Pb, fun _ => False, h2, trivial, fun k hk => ⟨(h4 k hk).1, (h4 k hk).2.1, (h4 k hk).2.2, fun e => e⟩, fun k hk => hk.elim⟩, h.be, h.row⟩
set_option maxRecDepth 100000 in
theorem Two.dr {W w : World} {la : Nat} {LA : Obj} {xa xb t ba bb : Nat} (h : Two W w la LA xa xb t ba bb) (q : Nat) : Two W (w.drewN q) la LA xa xb t ba bb := by
  obtain ⟨Pa, Pb, h1, h2, h3, h4⟩ := h.ex
  have hc : Ch (fun _ => False) w (w.drewN q) := ⟨rfl, rfl, rfl, Nat.le_refl _, fun _ _ _ => rfl⟩
  exact ⟨⟨Pa, Pb, h1.ch hc (fun _ _ e => e), h2.ch hc (fun _ _ e => e), h3, h4⟩, bl_drw h.be q, h.row⟩
set_option maxRecDepth 100000 in
theorem Two.nils {W w : World} {la : Nat} {LA : Obj} {xa xb t bb : Nat} (h : Two W w la LA xa xb t 1 bb) : w.cell? ⟨xa, 0, none⟩ = some (.pointer none) ∧ w.cell? ⟨xa, 1, none⟩ = some (.pointer none) := by
  obtain ⟨Pa, Pb, h1, _⟩ := h.ex
  exact ⟨cell_of_row h1.1, cell_of_row h1.1⟩
set_option maxRecDepth 100000 in
/-- What a change of the one place's blocks leaves. -/
theorem Two.step {W w w' : World} {la : Nat} {LA : Obj} {xb t bb : Nat} {Pa Pb : Nat → Prop} (h2 : Stp bb w W.heap.size Pb xb t) (h3 : ∀ k, Pa k → W.heap.size ≤ k ∧ k < w.heap.size ∧ k ≠ la ∧ ¬ Pb k) (h4 : ∀ k, Pb k → W.heap.size ≤ k ∧ k < w.heap.size ∧ k ≠ la) (be : Below W.heap.size W w) (row : w.heap[la]? = some LA) (hc : Ch Pa w w') :
    Stp bb w' W.heap.size Pb xb t ∧ (∀ k, Pg Pa w w' k → W.heap.size ≤ k ∧ k < w'.heap.size ∧ k ≠ la ∧ ¬ Pb k) ∧ (∀ k, Pb k → W.heap.size ≤ k ∧ k < w'.heap.size ∧ k ≠ la) ∧ Below W.heap.size W w' ∧ w'.heap[la]? = some LA := by
  have s := hc.size
  have hla := lt_of_some row
  have s0 := be.size
  refine ⟨h2.ch hc (fun k hk ha => (h3 k ha).2.2.2 hk), fun k hk => ?_, fun k hk => ⟨(h4 k hk).1, by have := (h4 k hk).2.1; omega, (h4 k hk).2.2⟩, be.trans ⟨hc.os, hc.tape, hc.output, hc.size, fun k hk => hc.block k (by omega) (fun ha => by have := (h3 k ha).1; omega)⟩, (hc.block la hla (fun ha => (h3 la ha).2.2.1 rfl)).trans row⟩
  rcases hk with e | e
  · obtain ⟨a1, a2, a3, a4⟩ := h3 k e
    exact ⟨a1, by omega, a3, a4⟩
  · exact ⟨by omega, e.2, by omega, fun hb => by have := (h4 k hb).2.1; omega⟩
set_option maxRecDepth 100000 in
theorem Two.play {W w : World} {la : Nat} {LA : Obj} {xa xb t bb : Nat} (h : Two W w la LA xa xb t 0 bb) (ht : t < 1000000000) (kind on n by_ : Int) (hn : -9223372036854775808 ≤ n ∧ n ≤ 9223372036854775807) (hby : 0 ≤ by_ ∧ by_ ≤ 255) (da ka : Option Addr) (dn dc kn kc : Nat) (tn ta : Int)
    (data ks : List Int) (hs : Sl W da dn dc data) (hk : Ks W ka kn ks) (hk1 : kn ≤ 17592186044416) (hk2 : ka = none → kn = 0 ∧ kc = 0) :
    Calls Try.prog 8 #[.pointer (some ⟨xa, 0, none⟩), opV kind on n by_ da dn dc ka kn kc tn ta] w fun e w' => e = .returned (.bool true) ∧ Hid (Two W w' la LA xa xb (t + 1) 0 bb) := by
  obtain ⟨Pa, Pb, h1, h2, h3, h4⟩ := h.ex
  refine (play_any w W.heap.size xa t Pa h1 ht kind on n by_ hn hby da ka dn dc kn kc tn ta data ks (hs.on (Nat.le_refl _) h.be) (fun h0 g hg hp => ?_) ⟨hk.on h.be, hk1, hk2, ?_⟩ (fun k hk => (h3 k hk).2.1)).mono ?_
  · rcases hs.hat with e | ⟨b, off, e, hlt, _⟩
    · omega
    · rw [e] at hg
      cases hg
      have := (h3 _ hp).1
      simp only at this
      omega
  · rcases hk.hat with e | ⟨b, off, e, hlt, _⟩
    · exact .inl e
    · right
      intro g hg hp
      rw [e] at hg
      cases hg
      have := (h3 _ hp).1
      simp only at this
      omega
  · rintro e w' ⟨rfl, hp, hc⟩
    obtain ⟨q1, q2, q3, q4, q5⟩ := Two.step h2 h3 h4 h.be h.row hc
    exact ⟨rfl, hidden ⟨⟨_, Pb, hp, q1.more (Nat.le_succ _), q2, q3⟩, q4, q5⟩⟩
set_option maxRecDepth 100000 in
/-- What a pair answers when asked. -/
theorem Two.asks {W w : World} {la : Nat} {LA : Obj} {xa xb t bb : Nat} (h : Two W w la LA xa xb t 0 bb) : ∃ (pa ra : Nat) (up : Bool) (pg pgs : Nat), w.cell? ⟨xa, 0, none⟩ = some (.pointer (some ⟨pa, 0, none⟩)) ∧ w.cell? ⟨xa, 1, none⟩ = some (.pointer (some ⟨ra, 0, none⟩)) ∧
    (∀ q, Calls Try.prog 9 #[.pointer (some ⟨pa, 0, none⟩)] (w.drewN q) fun e u => e = .returned (.bool up) ∧ u = w.drewN q) ∧ (∀ q, Calls Try.prog 10 #[.pointer (some ⟨ra, 0, none⟩)] (w.drewN q) fun e u => e = .returned (.bool up) ∧ u = w.drewN q) ∧
    (∀ q, Calls Try.prog 11 #[.pointer (some ⟨pa, 0, none⟩)] (w.drewN q) fun e u => e = .returned (.int .i64 (pg : Int)) ∧ u = w.drewN q) ∧ (∀ q, Calls Try.prog 12 #[.pointer (some ⟨ra, 0, none⟩)] (w.drewN q) fun e u => e = .returned (.int .i64 (pg : Int)) ∧ u = w.drewN q) ∧
    (∀ q, Calls Try.prog 13 #[.pointer (some ⟨pa, 0, none⟩)] (w.drewN q) fun e u => e = .returned (.int .i64 (pgs : Int)) ∧ u = w.drewN q) ∧ (∀ q, Calls Try.prog 14 #[.pointer (some ⟨ra, 0, none⟩)] (w.drewN q) fun e u => e = .returned (.int .i64 (pgs : Int)) ∧ u = w.drewN q) := by
  obtain ⟨Pa, Pb, h1, h2, h3, h4⟩ := h.ex
  obtain ⟨its, d, r, pa, ra, F, G, M, vC, vW, hs⟩ := h1
  have hc : ∀ q, Ch (fun _ => False) w (w.drewN q) := fun q => ⟨rfl, rfl, rfl, Nat.le_refl _, fun _ _ _ => rfl⟩
  have hd := fun q => (hs.ch (hc q) (fun _ _ e => e)).dv
  have hr := fun q => (hs.ch (hc q) (fun _ _ e => e)).rv
  refine ⟨pa, ra, !d.down, d.page, d.pages, cell_of_row hs.pc.row, cell_of_row hs.pc.row, fun q => up_any _ F pa d (hd q), fun q => ?_, fun q => pg_any _ F pa d (hd q), fun q => ?_, fun q => pgs_any _ F pa d (hd q), fun q => ?_⟩
  · have := rUp_any _ G ra r (hr q)
    rw [hs.tw.down] at this
    exact this
  · have := rPage_any _ G ra r (hr q)
    rw [hs.tw.page] at this
    exact this
  · have := rPgs_any _ G ra r (hr q)
    rw [hs.tw.pages] at this
    exact this
/-- Behind owned: the pair's own devices stand. -/
def Half (W w : World) (la : Nat) (LA : Obj) (xa xb t bb : Nat) : Prop :=
  ∃ Pa Pb N cs ts d r pa ra F G vC vW, N ≤ 1000000 ∧ Pz w W.heap.size Pa xa N cs ts d r pa ra F G vC vW ∧ Stp bb w W.heap.size Pb xb t ∧ (∀ k, Pa k → W.heap.size ≤ k ∧ k < w.heap.size ∧ k ≠ la ∧ ¬ Pb k) ∧ (∀ k, Pb k → W.heap.size ≤ k ∧ k < w.heap.size ∧ k ≠ la) ∧ Below W.heap.size W w ∧ w.heap[la]? = some LA
set_option maxRecDepth 100000 in
theorem Two.owned {W w : World} {la : Nat} {LA : Obj} {xa xb t bb : Nat} (h : Two W w la LA xa xb t 0 bb) (ht : t ≤ 500000) :
    Calls Try.prog 15 #[.pointer (some ⟨xa, 0, none⟩)] w fun e w' => e = .returned (.bool true) ∧ Hid (Half W w' la LA xa xb t bb) := by
  obtain ⟨Pa, Pb, h1, h2, h3, h4⟩ := h.ex
  obtain ⟨its, d, r, pa, ra, F, G, M, vC, vW, hs⟩ := h1
  have hn := hs.n1
  refine (owned_any w W.heap.size xa t pa ra Pa F G M its d r vC vW hs (by omega)).mono ?_
  rintro e w' ⟨rfl, HC⟩
  have hc : Ch Pa w w' := (Ch.refl Pa w).trans HC.out fun k _ e => (hs.hM k e).1
  obtain ⟨q1, q2, q3, q4, q5⟩ := Two.step h2 h3 h4 h.be h.row hc
  have hz := hs.pz.ch HC.out (fun k hk hm => by
    obtain ⟨_, _, m3, m4⟩ := hs.hM k hm
    rcases hk with e | e | e
    · exact m3 e
    · exact m4 e
    · exact (hs.hP k e).2.2.2.2 hm)
  have hz2 : Pz w' W.heap.size (Pg Pa w w') xa its.length (its.map cv) (its.map ct) d r pa ra F G vC vW := ⟨hz.pc, hz.dv, hz.rv, hz.tw, fun k hk => ⟨.inl (hz.hF k hk).1, (hz.hF k hk).2⟩, fun k hk => ⟨.inl (hz.hG k hk).1, (hz.hG k hk).2⟩, fun k hk => ⟨.inl (hz.hP k hk).1, (hz.hP k hk).2⟩⟩
  exact ⟨rfl, hidden ⟨Pg Pa w w', Pb, its.length, its.map cv, its.map ct, d, r, pa, ra, F, G, vC, vW, by omega, hz2, q1, q2, q3, q4, q5⟩⟩
set_option maxRecDepth 100000 in
theorem Half.again {W w : World} {la : Nat} {LA : Obj} {xa xb t bb : Nat} (h : Half W w la LA xa xb t bb) (on n by_ : Int) (da ka : Option Addr) (dn dc kn kc : Nat) (tn ta : Int) :
    Calls Try.prog 8 #[.pointer (some ⟨xa, 0, none⟩), opV 7 on n by_ da dn dc ka kn kc tn ta] w fun e w' => e = .returned (.bool true) ∧ Hid (Two W w' la LA xb xa t bb 2) := by
  obtain ⟨Pa, Pb, N, cs, ts, d, r, pa, ra, F, G, vC, vW, hN, hz, h2, h3, h4, be, row⟩ := h
  refine (again_image w W.heap.size xa N pa ra Pa F G cs ts d r vC vW hz (by omega) on n by_ da ka dn dc kn kc tn ta).mono ?_
  rintro e w' ⟨rfl, hc⟩
  obtain ⟨q1, q2, q3, q4, q5⟩ := Two.step h2 h3 h4 be row hc
  exact ⟨rfl, hidden ⟨⟨Pb, fun _ => False, q1, trivial, fun k hk => ⟨(q3 k hk).1, (q3 k hk).2.1, (q3 k hk).2.2, fun e => e⟩, fun k hk => hk.elim⟩, q4, q5⟩⟩
end Go.Proofs.Ytikpfcapnpppdaa
