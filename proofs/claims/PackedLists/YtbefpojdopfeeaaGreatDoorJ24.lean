/- packed.shortAt, bytes.Clone. -/
import Derived.Test.YtbefpojdopfeeaaGreatDoorJ23
import Derived.Lib.LazyBuf
import Derived.Test.YtbefpojdopfeeaaGreatDoorJ22
namespace Go.Proofs.YtbefpojdopfeeaaGreatDoor
open Go.RowKit

set_option maxRecDepth 100000 in
theorem or_short (a b : Int) (ha : 0 ≤ a ∧ a ≤ 255) (hb : 0 ≤ b ∧ b ≤ 255) : bits .or .i64 (a * 256) b = a * 256 + b := by
  obtain ⟨x, rfl⟩ := Int.eq_ofNat_of_zero_le ha.1
  obtain ⟨y, rfl⟩ := Int.eq_ofNat_of_zero_le hb.1
  show IntKind.i64.wrap ((BitVec.ofInt 64 ((x : Int) * 256) ||| BitVec.ofInt 64 (y : Int)).toNat : Nat) = _
  have h1 : (BitVec.ofInt 64 ((x : Int) * 256)).toNat = 2 ^ 8 * x := by rw [BitVec.toNat_ofInt]; omega
  have h2 : (BitVec.ofInt 64 (y : Int)).toNat = y := by rw [BitVec.toNat_ofInt]; omega
  rw [BitVec.toNat_or, h1, h2, ← Nat.two_pow_add_eq_or_of_lt (show y < 2 ^ 8 by omega), IntKind.wrap_i64]
  omega
set_option maxRecDepth 100000 in
theorem rdN2 (l : List Int) (p : Nat) (h : p + 2 ≤ l.length) : rdN l p 2 = l.getD p 0 * 256 + l.getD (p + 1) 0 := by
  unfold rdN
  rw [drop_cons l p (by omega), drop_cons l (p + 1) (by omega)]
  simp [rdB]
set_option maxRecDepth 100000 in
theorem shortAtq_any (w : World) (ao : Option Addr) (n cap p : Nat) (l : List Int) (hs : Sl w ao n cap l) (hp : p + 2 ≤ n) :
    Calls Tryz.prog 99 #[.slice ao n cap, .int .i64 (p : Int)] w fun e w' => e = .returned (.int .i64 (rdN l p 2)) ∧ ∃ q, w' = w.drewN q := by
  have hlen := hs.hlen
  have hr := hs.hroom
  rw [rdN2 l p (by omega)]
  rcases hs.hat with h | ⟨b, off, rfl, hb, hc⟩
  · omega
  obtain ⟨p', hp'⟩ : ∃ p', p + 1 = p' := ⟨_, rfl⟩
  have hpI : (p : Int) + 1 = (p' : Int) := by omega
  have c0 := hc p (by omega)
  have c1 := hc p' (by omega)
  have y0 := hs.wf.getD p
  have y1 := hs.wf.getD p'
  have p0 : (p : Int) < (n : Int) := by omega
  have p1 : (p' : Int) < (n : Int) := by omega
  have p2 : p < n := by omega
  have p3 : p' < n := by omega
  clear hc hs
  rw [hp']
  clear hp'
  generalize l.getD p 0 = a at *
  generalize l.getD p' 0 = c at *
  have ho := or_short a c y0 y1
  have hw0 : IntKind.i64.wrap a = a := by rw [IntKind.wrap_i64]; omega
  have hw1 : IntKind.i64.wrap c = c := by rw [IntKind.wrap_i64]; omega
  have hw : IntKind.i64.wrap (a * 256) = a * 256 := by rw [IntKind.wrap_i64]; omega
  go_enter Tryz.func99, Tryz.ntmps99
  go_wp2_with fail
  go_quiet (fail)
  go_wp2
  go_ret
  exact ⟨rfl, _, rfl⟩
set_option maxRecDepth 100000 in
set_option maxHeartbeats 1000000 in
theorem clone_any (a : Addr) (n cap : Nat) (l : List Int) (w : World) (hs : Sl w (some a) n cap l) :
    Calls Tryz.prog 100 #[.slice (some a) n cap] w fun e w' => ∃ g c, e = .returned (.slice (some ⟨g, 0, none⟩) n c) ∧ Hid (OwnB w' w.heap.size (.slice (some ⟨g, 0, none⟩) n c) l ∧ w.heap.size ≤ g ∧ g < w'.heap.size) ∧ Hid (Below w.heap.size w w') := by
  obtain ⟨x, hx⟩ : ∃ x, w.alloc (.cells #[] 5) = x := ⟨_, rfl⟩
  have hbx : Below w.heap.size w x := by rw [← hx]; exact bl_al (Below.refl _ _) (Nat.le_refl _) _
  have HS := hidden (hs.on (Nat.le_refl _) hbx)
  have hroom := hs.hroom
  have HLN := hidden hs.hlen
  have HO : Hid (OwnB x w.heap.size (.slice (some ⟨w.heap.size, 0, none⟩) 0 0) []) := hidden (by
    refine ⟨rfl, .inr ⟨w.heap.size, 0, #[], rfl, Nat.le_refl _, ?_, Nat.le_refl _, Nat.zero_le _, rfl, rfl⟩⟩
    rw [← hx]
    exact heap_alloc_last w _)
  have HBX := hidden hbx
  have hxs : w.heap.size ≤ x.heap.size := hbx.size
  have he : (binOp .eql 37 (.slice (some a) n cap) (.slice none 0 0)).run Tryz.prog w = .ok (.bool false) w := run_eql_slice_nil (P := Tryz.prog) w 37 5 (some a) n cap Tryz.underlying37
  clear hs hbx
  go_enter Tryz.func100, Tryz.ntmps100
  go_wp2_with (at_builtin; refine app_sl _ rfl _ _ rfl w.heap.size [] l _ (some a) n cap rfl rfl HO.out HS.out (by simp; omega) hxs ?_; refine Hid.out ?_)
  apply hidden
  intro v1 w1 ho1 g1
  replace ho1 : OwnB w1 w.heap.size v1 l := by simpa using ho1
  have HB : Hid (Below w.heap.size w w1) := hidden (HBX.out.trans (g1.below HO.out hxs))
  obtain ⟨g, c, rfl, hg, hgl⟩ : ∃ g c, v1 = .slice (some ⟨g, 0, none⟩) n c ∧ w.heap.size ≤ g ∧ g < w1.heap.size := by
    have hb := ho1
    unfold OwnB at hb
    rcases hb.2 with ⟨e, _⟩ | ⟨g, c, cur, e, hg, hh, _⟩
    · have := g1.own
      rw [e] at this
      simp [Value.ownBlock] at this
    · exact ⟨g, c, by rw [e, HLN.out], hg, lt_some hh⟩
  have HO1 := hidden ho1
  clear ho1 g1
  go_wp2
  go_ret
  exact ⟨g, c, rfl, hidden ⟨HO1.out, hg, hgl⟩, HB⟩
set_option maxRecDepth 100000 in
theorem riseQ_any (ao bo : Option Addr) (n m c d : Nat) (la lb : List Int) (w : World) (ha : Sl w ao n c la) (hb : Sl w bo m d lb) :
    Calls Tryz.prog 64 #[.slice ao n c, .slice bo m d] w fun e w' => e = .returned (.bool (decide (kl la lb))) ∧ w' = w := by
  have hr := compare_any ao bo n m c d la lb w ha hb
  have hq : decide (kl la lb) = decide (ordL la lb < 0) := by
    have := ordL_three la lb
    refine decide_eq_decide.2 ?_
    unfold kl
    omega
  rw [hq]
  clear ha hb hq
  generalize ordL la lb = x at *
  go_enter Tryz.func64, Tryz.ntmps64
  go_wp2_with (go_at_call 106; refine same_call hr ?_)
  go_ret
  exact ⟨rfl, rfl⟩
end Go.Proofs.YtbefpojdopfeeaaGreatDoor

/- packed.Page.parted: plain mathematics. -/

namespace Go.Proofs.YtbefpojdopfeeaaGreatDoor
open Go.RowKit

/-- The key of the cell ahead. -/
def prv (cs : List Cl) : Option (List Int) := cs.getLast?.map Cl.key
/-- What stands once for all and belongs to the key of the cell j. -/
def hdP (k : Int) (P : List Int) (j : Nat) : List Int := if k = 3 ∧ j = 0 then [] else P
set_option maxRecDepth 100000 in
theorem hdP_len (k : Int) (P : List Int) (j : Nat) : (hdP k P j).length = if k = 3 ∧ j = 0 then 0 else P.length := by
  unfold hdP
  split <;> rfl
set_option maxRecDepth 100000 in
theorem hdP_le (k : Int) (P : List Int) (j : Nat) : (hdP k P j).length ≤ P.length := by
  rw [hdP_len]
  split <;> omega
set_option maxRecDepth 100000 in
theorem hdP_wf {k : Int} {P : List Int} (h : Wf P) (j : Nat) : Wf (hdP k P j) := by
  unfold hdP
  split
  · exact Wf.nil
  · exact h
/-- Where the walk through the body stands. -/
structure PwQ (k : Int) (n m : Nat) (P body : List Int) (cs : List Cl) (j p : Nat) : Prop where
  len : cs.length = j
  at_ : p = (qbd P.length (whl k) cs).length
  eq : partQ k n P m (whl k) none body = (partQ k n P (m - j) (whl k && decide (j = 0)) (prv cs) (body.drop p)).map fun x => (cs ++ x.1, x.2)
set_option maxRecDepth 100000 in
theorem PwQ.start (k : Int) (n m : Nat) (P body : List Int) : PwQ k n m P body [] 0 0 := ⟨rfl, rfl, by simp [prv]⟩
set_option maxRecDepth 100000 in
theorem whl_hd (k : Int) (P : List Int) (j : Nat) : (if (whl k && decide (j = 0)) = true then [] else P) = hdP k P j := by
  unfold hdP whl
  simp
set_option maxRecDepth 100000 in
theorem PwQ.fail {k : Int} {n m : Nat} {P body : List Int} {cs : List Cl} {j p : Nat} (h : PwQ k n m P body cs j p) (hj : j < m) (hp : pC (body.drop p) = none) : partQ k n P m (whl k) none body = none := by
  rw [h.eq, show m - j = (m - j - 1) + 1 by omega, partQ, hp]
  rfl
set_option maxRecDepth 100000 in
theorem PwQ.bad {k : Int} {n m : Nat} {P body : List Int} {cs : List Cl} {j p q : Nat} {d : Cl} (h : PwQ k n m P body cs j p) (hj : j < m) (hp : pC (body.drop p) = some (d, body.drop q)) (hc : ¬ (mayP k n (d.pre (hdP k P j)) ∧ ahead (prv cs) (d.pre (hdP k P j)).key)) : partQ k n P m (whl k) none body = none := by
  rw [h.eq, show m - j = (m - j - 1) + 1 by omega, partQ, hp]
  simp only [whl_hd]
  rw [if_neg hc]
  rfl
set_option maxRecDepth 100000 in
theorem PwQ.next {k : Int} {n m : Nat} {P body : List Int} {cs : List Cl} {j p q : Nat} {d : Cl} (h : PwQ k n m P body cs j p) (hw : Wf body) (hj : j < m) (hq : q ≤ body.length) (hpl : p ≤ body.length) (hp : pC (body.drop p) = some (d, body.drop q)) (hc : mayP k n (d.pre (hdP k P j)) ∧ ahead (prv cs) (d.pre (hdP k P j)).key) :
    PwQ k n m P body (cs ++ [d.pre (hdP k P j)]) (j + 1) q ∧ qst P.length (whl k) 0 (cs ++ [d.pre (hdP k P j)]) = qst P.length (whl k) 0 cs ++ [p] := by
  have hi := (pC_inv (hw.drop p) hp).1
  have hl := congrArg List.length hi
  rw [List.length_append, List.length_drop, List.length_drop] at hl
  have ha := h.at_
  have hb : qB (cutn P.length (whl k) cs) (d.pre (hdP k P j)) = qB 0 d := by
    have hn : cs = [] ↔ j = 0 := by rw [← h.len]; exact List.length_eq_zero_iff.symm
    unfold cutn hdP whl
    by_cases e : k = 3 ∧ j = 0
    · rw [if_pos (by simp [hn, e]), if_pos e]
      obtain ⟨key, kd, val, pg, ct⟩ := d
      simp [Cl.pre]
    · rw [if_neg (by simpa [hn] using e), if_neg e]
      exact qB_pre P d
  refine ⟨⟨by simp [h.len], ?_, ?_⟩, ?_⟩
  · rw [qbd_snoc, List.length_append, ← ha, hb]
    omega
  · rw [h.eq, show m - j = (m - (j + 1)) + 1 by omega, partQ, hp]
    simp only [whl_hd]
    rw [if_pos hc, show prv (cs ++ [d.pre (hdP k P j)]) = some (d.pre (hdP k P j)).key from by simp [prv]]
    simp only [Nat.add_one_ne_zero, decide_false, Bool.and_false]
    cases partQ k (n : Int) P (m - (j + 1)) false (some (d.pre (hdP k P j)).key) (body.drop q) <;> simp
  · rw [qst_snoc, Nat.zero_add, ← ha]
set_option maxRecDepth 100000 in
theorem PwQ.done {k : Int} {n m : Nat} {P body : List Int} {cs : List Cl} {p : Nat} (h : PwQ k n m P body cs m p) : partQ k n P m (whl k) none body = some (cs, body.drop p) := by
  have he := h.eq
  rw [Nat.sub_self, partQ] at he
  simpa using he
set_option maxRecDepth 100000 in
/-- A part of what is one's own. -/
theorem OwnB.take {w : World} {B : Nat} {ao : Option Addr} {n cap : Nat} {l : List Int} (h : OwnB w B (.slice ao n cap) l) (k : Nat) (hk : k ≤ n) : OwnB w B (.slice ao k cap) (l.take k) := by
  unfold OwnB at *
  obtain ⟨h1, h2⟩ := h
  refine ⟨by simp [By], ?_⟩
  rcases h2 with ⟨e, hl⟩ | ⟨g, c, cur, e, hg, hh, hnc, hm, hs, ht⟩
  · injection e with e1 e2 e3
    subst e1 e2 e3
    obtain rfl : k = 0 := by omega
    exact .inl ⟨rfl, by simp⟩
  · injection e with e1 e2 e3
    subst e1 e2 e3
    have hkl : (l.take k).length = k := by rw [List.length_take]; omega
    refine .inr ⟨g, cap, cur, by rw [hkl], hg, hh, by rw [hkl]; omega, hm, hs, ?_⟩
    have := congrArg (List.take k) ht
    rw [hkl]
    simpa [By, List.take_take, List.map_take, Nat.min_eq_left hk] using this
end Go.Proofs.YtbefpojdopfeeaaGreatDoor
