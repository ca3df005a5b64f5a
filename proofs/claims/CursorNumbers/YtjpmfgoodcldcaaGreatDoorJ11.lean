import Derived.Test.YtjpmfgoodcldcaaGreatDoorJ10
import Derived.Laws.AppendOwnNone
import Derived.Maps.AppendAt
namespace Go.Proofs.YtjpmfgoodcldcaaGreatDoor
set_option maxRecDepth 100000
open Go.RowKit
structure Gr (w : World) (v : Value) (w' : World) (v' : Value) : Prop where
 grow : w.grownBy w' v.ownBlock
 own : v'.ownBlock = v.ownBlock ∨ ∃ k, v'.ownBlock = some k ∧ w.heap.size ≤ k
theorem Gr.ofBelow {w w' : World} (v : Value) (h : Below w.heap.size w w') : Gr w v w' v := ⟨⟨h.os, h.tape, h.output, h.size, fun k hk _ => h.block k hk⟩, .inl rfl⟩
theorem Gr.refl (w : World) (v : Value) : Gr w v w v := Gr.ofBelow v (Below.refl _ _)
theorem Gr.below {w w' : World} {v v' : Value} {B : Nat} {l : List Int} (h : Gr w v w' v') (hown : OwnB w B v l) (hB : B ≤ w.heap.size) : Below B w w' := own_below hown hB h.grow
def Far (ao : Option Addr) (n : Nat) (v : Value) : Prop := n = 0 ∨ ∀ p, ao = some p → v.ownBlock ≠ some p.block
theorem OwnB.low {w : World} {B C : Nat} {v : Value} {l : List Int} (h : OwnB w C v l) (hB : B ≤ C) : OwnB w B v l := by
 unfold OwnB at *
 rcases h.2 with h2 | ⟨g, cap, cur, e, hg, rest⟩
 ·exact ⟨h.1, .inl h2⟩
 ·exact ⟨h.1, .inr ⟨g, cap, cur, e, Nat.le_trans hB hg, rest⟩⟩
theorem app_sl {ops : Array Oper} {rest : List Oper} {o : Oper} {a : Act} {Q : Exit → Act → World → Prop} (w : World) (hgd : o.guard = none) (s x : Operand)
  (ho : o.op = .call { callee := .builtin .append, args := #[s, x], argTypes := #[30, 30] }) (B : Nat) (l news : List Int) (v : Value) (ao : Option Addr) (n c : Nat) (hs : a.eval s = v) (hx : a.eval x = .slice ao n c)
  (hown : OwnB w B v l) (hsl : Sl w ao n c news) (hb : l.length + n ≤ 140737488355328) (hbase : B ≤ w.heap.size)
  (h : ∀ v' w', OwnB w' B v' (l ++ news) → Gr w v w' v' → wpList Tryz.prog ops Q rest (a.put o.dst v') w') : wpList Tryz.prog ops Q (o :: rest) a w := by
 obtain ⟨i0, hi, hz0, hz1, hz2⟩ := info_parts info5
 have hlen := hsl.hlen
 cases ao with
 | none =>
  have : n = 0 := by have := hsl.hnil rfl; have := hsl.hcap; omega
  subst this
  have hc0 := hsl.hnil rfl
  subst hc0
  obtain rfl : news = [] := List.eq_nil_of_length_eq_zero hlen
  exact wpList_append_own_none hgd s x 30 ho B 5 i0 1 Tryz.underlying30 hi v l.length (By l) hs hown hx (h v w (by simpa using hown) (Gr.refl _ _))
 | some ad =>
  refine wpList_append_own_at w hgd s x 30 ho B 5 i0 (.int .u8 0) 1 1 Tryz.underlying30 hi hz0 hz1 hz2 rfl (by decide) v l.length (By l) hs hown ad n c (By news) hx (by simp [By, hlen])
   (fun j u hu => by
    obtain ⟨h1, h2⟩ := getElem?_By news j u hu
    rw [h2]
    rcases hsl.hat with h0 | ⟨b, off, e, _, hc⟩
    ·omega
    ·injection e with e
     subst e
     rw [Addr.add_lit]
     exact hc j (by omega)) (By_one news) (by unfold maxLen; omega) (by omega) hbase ?_
  intro v' w' h1 h2 _ h4
  refine h v' w' ?_ ⟨h2, h4.imp id fun e => ⟨_, e, Nat.le_refl _⟩⟩
  unfold OwnB
  rw [By_append, List.length_append, hlen]
  exact h1
set_option maxHeartbeats 400000 in
theorem copiedBytes_any (ao : Option Addr) (n cap : Nat) (l : List Int) (w : World) (hs : Sl w ao n cap l) :
  Calls Tryz.prog 109 #[.slice ao n cap] w fun e w' => e = .returned (.slice (some ⟨w.heap.size, 0, none⟩) n n) ∧ Hid (Bk w' w.heap.size l) ∧ Hid (Below w.heap.size w w') := by
 obtain ⟨i0, hi, hz0, hz1, hz2⟩ := info_parts info5
 obtain ⟨hlen, hcap, hroom, hwf, hnil, hat⟩ := hs
 have hsz : (Tryz.prog.info? 5).map (·.size) = some 1 := by rw [hi]; simp [hz1]
 go_enter Tryz.func109, Tryz.ntmps109
 go_wp2_with (at_make; refine wpList_make_full _ rfl _ _ 30 rfl w.heap.size 5 i0 (.int .u8 0) 1 Tryz.underlying30 hi hz0 hz1 .i64 .i64 n n n rfl rfl rfl rfl (by rw [hz2]; omega) (by unfold maxLen; omega) (Nat.le_refl _) ?_)
 intro w1 hown1 hg1
 have hb1 : Below w.heap.size w w1 := (Below.refl _ _).grown hg1 (Nat.le_refl _) (fun k hk => by cases hk)
 clear hg1
 obtain ⟨cur, hcur, hcs⟩ : ∃ cur : List Value, w1.heap[w.heap.size]? = some (.cells cur.toArray 5 (0, 0)) ∧ cur.length = n := by
  rcases hown1.2 with ⟨h, _⟩ | ⟨g, c, cur, h, _, hh, _, _, hs, _⟩
  ·cases h
  ·cases h
   exact ⟨cur.toList, by simpa using hh, by simpa using hs⟩
 clear hown1
 have HC := hidden hcur
 clear hcur
 have hpos : 0 < (By l).length → some (⟨w.heap.size, 0, none⟩ : Addr) = some ⟨w.heap.size, 0, none⟩ ∧ ∃ ad, ao = some ad ∧ ∀ j v, (By l)[j]? = some v → w1.cell? (ad.add j) = some v := by
  intro h
  rw [By_length] at h
  rcases hat with h0 | ⟨b, off, rfl, hbb, hc⟩
  ·omega
  ·refine ⟨rfl, _, rfl, fun j v hv => ?_⟩
   obtain ⟨h1, rfl⟩ := getElem?_By l j v hv
   rw [Addr.add_lit]
   exact (hb1.cell (p := ⟨b, off + j, none⟩) hbb).trans (hc j (by omega))
 have HP := hidden hpos
 clear hpos
 go_wp2_with (refine wpList_copy_splice rfl _ _ 30 30 rfl 5 Tryz.underlying30 hsz _ _ n n n cap rfl rfl w.heap.size 0 cur 5 HC.out (By l) (by rw [By_length, hlen]; exact (Nat.min_self n).symm) HP.out (by rw [By_length]; omega) (By_one l) w.heap.size w hb1 (Nat.le_refl _) ?_)
 intro w2 hh hb2
 have ho : Hid (Bk w2 w.heap.size l) := by
  have h' := hh.out
  rw [show splice cur 0 (By l) = By l from by simp [splice, By_length, hlen, hcs]] at h'
  exact hidden h'
 have HB2 := hidden hb2
 clear hh hb2
 go_wp2
 go_ret
 exact ⟨rfl, ho, HB2⟩
theorem sl_one (w : World) (x : Int) (hx : 0 ≤ x ∧ x ≤ 255) : Sl (w.alloc (.cells #[.int .u8 x] 5)) (some ⟨w.heap.size, 0, none⟩) 1 1 [x] := by
 refine ⟨rfl, Nat.le_refl _, by omega, Wf.cons hx Wf.nil, (by intro h; cases h), .inr ⟨w.heap.size, 0, rfl, by simp, ?_⟩⟩
 intro i hi
 obtain rfl : i = 0 := by omega
 simp
theorem C5.box (w : World) (x0 x1 x2 x3 x4 : Value) : C5 (w.alloc (.cells #[x0, x1, x2, x3, x4] 32)) w.heap.size x0 x1 x2 x3 x4 := heap_alloc_last w _
end Go.Proofs.YtjpmfgoodcldcaaGreatDoor
