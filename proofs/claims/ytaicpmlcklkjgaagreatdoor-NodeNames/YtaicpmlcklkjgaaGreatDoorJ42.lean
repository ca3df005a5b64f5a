/- Layer 8: what awake holds of its two pages. -/
import Derived.Test.YtaicpmlcklkjgaaGreatDoorJ32
import Derived.Test.YtaicpmlcklkjgaaGreatDoorJ41
import Derived.Test.YtaicpmlcklkjgaaGreatDoorJ38
import Derived.Test.YtaicpmlcklkjgaaGreatDoorJ31
import Derived.Deep.DeepCutAuto
import Derived.Deep.CutRange
import Derived.Deep.RegionHeld
import Derived.Test.YtaicpmlcklkjgaaGreatDoorJ14
import Derived.Test.YtaicpmlcklkjgaaGreatDoorJ17
import Derived.Test.YtaicpmlcklkjgaaGreatDoorJ19
namespace Go.Proofs.YtaicpmlcklkjgaaGreatDoor
open Go.RowKit

/-- The cells b = x and a = y. -/
def cB8 : Cl := ⟨[98], 1, [120], 0, 0⟩
def cA8 : Cl := ⟨[97], 1, [121], 0, 0⟩
set_option maxRecDepth 100000 in
theorem cB8_may : mayP 2 512 cB8 := by decide
set_option maxRecDepth 100000 in
theorem cA8_may : mayP 2 512 cA8 := by decide
set_option maxRecDepth 100000 in
theorem c8_wf : ∀ c ∈ [cA8, cB8], c.Wf := by
  intro c hc
  simp only [List.mem_cons, List.not_mem_nil, or_false] at hc
  rcases hc with rfl | rfl
  · exact ⟨Wf.cons (by omega) Wf.nil, Wf.cons (by omega) Wf.nil⟩
  · exact ⟨Wf.cons (by omega) Wf.nil, Wf.cons (by omega) Wf.nil⟩
set_option maxRecDepth 100000 in
theorem c8_fit : ∀ c ∈ [cA8, cB8], c.fit := by
  intro c hc
  simp only [List.mem_cons, List.not_mem_nil, or_false] at hc
  rcases hc with rfl | rfl
  · exact cA8_may.fit (by omega)
  · exact cB8_may.fit (by omega)
set_option maxRecDepth 100000 in
theorem c8_sz : szN [cA8, cB8] = 26 := by decide
set_option maxRecDepth 100000 in
theorem c8_chk : chk 2 512 none [cA8, cB8] = 0 := by decide
set_option maxRecDepth 100000 in
theorem c8_ins1 : insE 2 512 [] 0 cB8 = 0 := by decide
set_option maxRecDepth 100000 in
theorem c8_ins2 : insE 2 512 [cB8] 0 cA8 = 0 := by decide
set_option maxRecDepth 100000 in
theorem c8_fnd (r : Nat) (h : Fnd [cA8, cB8] [98] r) : r = 1 := by
  have h1 := h.le
  simp at h1
  rcases Nat.lt_or_ge r 1 with h0 | h0
  · exact absurd (by decide) (h.hi 0 cA8 (by omega) rfl)
  · rcases Nat.lt_or_ge 1 r with h2 | h2
    · exact absurd (h.lo 1 cB8 h2 rfl) (by decide)
    · omega
/-- Its page. -/
def p8 : List Int := pgB 2 512 [cA8, cB8]
set_option maxRecDepth 100000 in
theorem p8_is : Is 2 512 [cA8, cB8] p8 := ⟨isKd2, pw512, c8_chk, by rw [c8_sz]; decide, rfl⟩
set_option maxRecDepth 100000 in
theorem p8_len : p8.length = 512 := pgB_length 2 512 _ (by rw [c8_sz]; decide)
set_option maxRecDepth 100000 in
theorem p8_wf : Wf p8 := pgB_wf (by omega) c8_wf
set_option maxRecDepth 100000 in
theorem p8_kd : p8.getD 0 0 = 2 := (readM_of p8_is).2.2
set_option maxRecDepth 100000 in
theorem p8_one (cs : List Cl) (h : Is (p8.getD 0 0) p8.length cs p8) : cs = [cA8, cB8] := (h.one p8_is).2.2
set_option maxRecDepth 100000 in
theorem p8_eg : egO p8 = 1 := by
  unfold egO
  rw [p8_len, if_neg (by omega)]
  obtain ⟨U, _, h⟩ := pgB_split 2 512 [cA8, cB8]
  rw [show p8 = pgB 2 512 [cA8, cB8] from rfl, h]
  rfl
/-- What awake holds of both. -/
structure S8 (w u : World) (a b : Nat) (cs : List Cl) : Prop where
  be : Below w.heap.size w u
  po : ∃ vb vs, Po u w.heap.size a 2 512 vb vs cs ∧ vb.ownBlock ≠ some b ∧ vs.ownBlock ≠ some b
  qr : QR u b 2 512 (.slice none 0 0) (.slice none 0 0) (.slice none 0 0) 0
  hab : a ≠ b
  ha : w.heap.size ≤ a
  hb : w.heap.size ≤ b
set_option maxRecDepth 100000 in
theorem S8.on {w u u' : World} {a b : Nat} {cs : List Cl} (h : S8 w u a b cs) (hb : Below u.heap.size u u') : S8 w u' a b cs := by
  obtain ⟨vb, vs, h1, h2, h3⟩ := h.po
  exact ⟨bl_go h.be (Nat.le_refl _) hb, ⟨vb, vs, h1.on hb, h2, h3⟩, box_on h.qr hb, h.hab, h.ha, h.hb⟩
set_option maxRecDepth 100000 in
theorem Po.zone {w : World} {B a : Nat} {k : Int} {n : Nat} {vb vs : Value} {cs : List Cl} (h : Po w B a k n vb vs cs) (ha : B ≤ a) {i : Nat} (hi : PZ a vb vs i) : B ≤ i := by
  rcases hi with rfl | e | e
  · exact ha
  · have := h.body
    unfold OwnB at this
    exact (this.lt i e).1
  · have := h.starts
    unfold OwnN at this
    exact (this.lt i e).1
set_option maxRecDepth 100000 in
theorem S8.ins {w u : World} {a b : Nat} {cs : List Cl} (h : S8 w u a b cs) (c : Cl) (ka va : Option Addr) (kc vc : Nat) (hk : Sl u ka c.key.length kc c.key) (hv : Sl u va c.val.length vc c.val) (hw : ∀ c ∈ cs, c.Wf) (hft : ∀ c ∈ cs, c.fit) (hz : szN cs ≤ 512) (h0 : insE 2 512 cs 0 c = 0) :
    Calls Tryz.prog 260 #[.pointer (some ⟨a, 0, none⟩), .int .i64 0, .agg #[.slice ka c.key.length kc, .int .i64 c.kd, .slice va c.val.length vc, .int .i64 c.pg, .int .i64 c.ct]] u fun e w' => e = .returned (.int .i64 0) ∧ Hid (S8 w w' a b (c :: cs)) := by
  obtain ⟨vb, vs, h1, h2, h3⟩ := h.po
  refine (insert_any u w.heap.size a 2 512 vb vs cs 0 ka _ kc c.kd va _ vc c.pg c.ct c.key c.val h1 (by omega) hw hft hz hk hv h.be.size).mono ?_
  rintro e w' ⟨rfl, HP, HC⟩
  have e0 : insE 2 512 cs 0 ⟨c.key, c.kd, c.val, c.pg, c.ct⟩ = 0 := h0
  rw [e0] at HP ⊢
  obtain ⟨vb', vs', q1, q2, q3⟩ := HP.out
  have hc := HC.out
  have hbl := lt_some h.qr
  refine ⟨rfl, hidden ⟨h.be.trans (hc.below h.be.size (fun i hi e => ?_)), ⟨vb', vs', ?_, ?_, ?_⟩, ?_, h.hab, h.ha, h.hb⟩⟩
  · have := h1.zone h.ha e
    omega
  · simpa using q1
  · rcases q2 with q | ⟨g, q, hg⟩
    · rw [q]; exact h2
    · rw [q]; intro e; injection e with e; omega
  · rcases q3 with q | ⟨g, q, hg⟩
    · rw [q]; exact h3
    · rw [q]; intro e; injection e with e; omega
  · refine (hc.block b hbl ?_).trans h.qr
    rintro (e | e | e)
    · exact h.hab e.symm
    · exact h2 e
    · exact h3 e
end Go.Proofs.YtaicpmlcklkjgaaGreatDoor

/- packed.laid. -/

namespace Go.Proofs.YtaicpmlcklkjgaaGreatDoor
open Go.RowKit

set_option maxRecDepth 100000 in
theorem OwnB.shape {w : World} {B : Nat} {v : Value} {l : List Int} (h : OwnB w B v l) : ∃ ao c, v = .slice ao l.length c := by
  unfold OwnB at h
  rcases h.2 with ⟨rfl, hn⟩ | ⟨g, cap, cur, rfl, _⟩
  · exact ⟨none, 0, by rw [hn]⟩
  · exact ⟨_, cap, rfl⟩
set_option maxRecDepth 100000 in
theorem OwnB.len {w : World} {B : Nat} {ao : Option Addr} {n c : Nat} {l : List Int} (h : OwnB w B (.slice ao n c) l) : n = l.length := by
  obtain ⟨a, c', e⟩ := h.shape
  injection e
set_option maxRecDepth 100000 in
theorem OwnN.len {w : World} {B : Nat} {ao : Option Addr} {n c : Nat} {l : List Nat} (h : OwnN w B (.slice ao n c) l) : n = l.length := by
  obtain ⟨a, c', e⟩ := h.shape
  injection e
set_option maxRecDepth 100000 in
theorem Lo.far {w : World} {B G : Nat} {v : Value} {l : List Int} {ao : Option Addr} {n : Nat} (h : Lo G ao n) (ho : OwnB w B v l) (hG : G ≤ B) : Far ao n v := by
  rcases h with h | h
  · exact .inl h
  · exact ho.far fun p hp => Nat.lt_of_lt_of_le (h p hp) hG
set_option maxRecDepth 100000 in
/-- head, of a page's row. -/
theorem head_row (k : Int) (j : Nat) (po : Option Addr) (pn pc : Nat) : ∃ (qo : Option Addr) (qn qc : Nat), ((qo = none ∧ qn = 0 ∧ qc = 0 ∧ (k = 3 ∧ j = 0)) ∨ (qo = po ∧ qn = pn ∧ qc = pc ∧ ¬ (k = 3 ∧ j = 0))) ∧
    ∀ (w : World) (a : Nat) (n : Int) (vb vs : Value) (ws : Int), QR w a k n (.slice po pn pc) vb vs ws → Calls Tryz.prog 200 #[.pointer (some ⟨a, 0, none⟩), .int .i64 (j : Int)] w fun e w' => e = .returned (.slice qo qn qc) ∧ w' = w := by
  by_cases hc : k = 3 ∧ j = 0
  · refine ⟨none, 0, 0, .inl ⟨rfl, rfl, rfl, hc⟩, fun w a n vb vs ws h => ?_⟩
    obtain ⟨c0, c1, c2, c3, c4, c5⟩ := h.cells
    have HSW : Hid (Calls Tryz.prog 154 #[.int .i64 k, .int .i64 (j : Int)] w fun e w' => e = .returned (.bool true) ∧ w' = w) := hidden (by
      have := standsWhole_any k (j : Int) w
      rwa [decide_eq_true (show k = 3 ∧ (j : Int) = 0 by omega)] at this)
    clear h hc
    go_enter Tryz.func200, Tryz.ntmps200
    go_wp2_with (first | (go_at_call 154; refine same_call HSW.out ?_))
    go_ret
    exact ⟨rfl, rfl⟩
  · refine ⟨po, pn, pc, .inr ⟨rfl, rfl, rfl, hc⟩, fun w a n vb vs ws h => ?_⟩
    obtain ⟨c0, c1, c2, c3, c4, c5⟩ := h.cells
    have HSW : Hid (Calls Tryz.prog 154 #[.int .i64 k, .int .i64 (j : Int)] w fun e w' => e = .returned (.bool false) ∧ w' = w) := hidden (by
      have := standsWhole_any k (j : Int) w
      rwa [decide_eq_false (show ¬ (k = 3 ∧ (j : Int) = 0) by omega)] at this)
    clear h hc
    go_enter Tryz.func200, Tryz.ntmps200
    go_wp2_with (first | (go_at_call 154; refine same_call HSW.out ?_))
    go_ret
    exact ⟨rfl, rfl⟩
/-- What laid comes to. -/
def LaidTo (k : Int) (n : Nat) (cs : List Cl) (w : World) (e : Ending) (w' : World) : Prop :=
  ∃ (w1 : World) (a : Nat) (po : Option Addr) (pn pc : Nat) (vb vs : Value), e = .returned (.pointer (some ⟨a, 0, none⟩)) ∧ Hid (Lq w1 w' w1.heap.size a k n (.slice po pn pc) vb vs 0 (qbd (shP k cs).length (whl k) cs) (qst (shP k cs).length (whl k) 0 cs)) ∧ Hid (Sl w1 po pn pc (shP k cs)) ∧ Hid (Below w.heap.size w w1)
end Go.Proofs.YtaicpmlcklkjgaaGreatDoor

/- packed.entry.copied: a cell in memory of its own. -/

namespace Go.Proofs.YtaicpmlcklkjgaaGreatDoor
open Go.RowKit

set_option maxRecDepth 100000 in
theorem OwnB.same {w w' : World} {B : Nat} {v : Value} {l : List Int} (h : OwnB w B v l) (hb : ∀ k, v.ownBlock = some k → w'.heap[k]? = w.heap[k]?) : OwnB w' B v l := by
  unfold OwnB at *
  refine ⟨h.1, ?_⟩
  rcases h.2 with h2 | ⟨g, cap, cur, e, hg, hh, r⟩
  · exact .inl h2
  · exact .inr ⟨g, cap, cur, e, hg, (hb g (by rw [e]; rfl)).trans hh, r⟩
end Go.Proofs.YtaicpmlcklkjgaaGreatDoor

/- packed.Page.parted: plain mathematics. -/

namespace Go.Proofs.YtaicpmlcklkjgaaGreatDoor
open Go.RowKit

/-- What stands once for all and belongs to the key of the cell j. -/
def hdP (k : Int) (P : List Int) (j : Nat) : List Int := if k = 3 ∧ j = 0 then [] else P
/-- Where the walk through the body stands. -/
structure PwQ (k : Int) (n m : Nat) (P body : List Int) (cs : List Cl) (j p : Nat) : Prop where
  len : cs.length = j
  at_ : p = (qbd P.length (whl k) cs).length
  eq : partQ k n P m (whl k) none body = (partQ k n P (m - j) (whl k && decide (j = 0)) (prv cs) (body.drop p)).map fun x => (cs ++ x.1, x.2)
set_option maxRecDepth 100000 in
theorem PwQ.start (k : Int) (n m : Nat) (P body : List Int) : PwQ k n m P body [] 0 0 := ⟨rfl, rfl, by simp [prv]⟩
set_option maxRecDepth 100000 in
theorem whl_hd (k : Int) (P : List Int) (j : Nat) : (if (whl k && decide (j = 0)) = true then [] else P) = hdP k P j := by
  unfold hdP whl
  simp
set_option maxRecDepth 100000 in
theorem PwQ.fail {k : Int} {n m : Nat} {P body : List Int} {cs : List Cl} {j p : Nat} (h : PwQ k n m P body cs j p) (hj : j < m) (hp : pC (body.drop p) = none) : partQ k n P m (whl k) none body = none := by
  rw [h.eq, show m - j = (m - j - 1) + 1 by omega, partQ, hp]
  rfl
set_option maxRecDepth 100000 in
theorem PwQ.bad {k : Int} {n m : Nat} {P body : List Int} {cs : List Cl} {j p q : Nat} {d : Cl} (h : PwQ k n m P body cs j p) (hj : j < m) (hp : pC (body.drop p) = some (d, body.drop q)) (hc : ¬ (mayP k n (d.pre (hdP k P j)) ∧ ahead (prv cs) (d.pre (hdP k P j)).key)) : partQ k n P m (whl k) none body = none := by
  rw [h.eq, show m - j = (m - j - 1) + 1 by omega, partQ, hp]
  simp only [whl_hd]
  rw [if_neg hc]
  rfl
set_option maxRecDepth 100000 in
theorem PwQ.next {k : Int} {n m : Nat} {P body : List Int} {cs : List Cl} {j p q : Nat} {d : Cl} (h : PwQ k n m P body cs j p) (hw : Wf body) (hj : j < m) (hq : q ≤ body.length) (hpl : p ≤ body.length) (hp : pC (body.drop p) = some (d, body.drop q)) (hc : mayP k n (d.pre (hdP k P j)) ∧ ahead (prv cs) (d.pre (hdP k P j)).key) :
    PwQ k n m P body (cs ++ [d.pre (hdP k P j)]) (j + 1) q ∧ qst P.length (whl k) 0 (cs ++ [d.pre (hdP k P j)]) = qst P.length (whl k) 0 cs ++ [p] := by
  have hi := (pC_inv (hw.drop p) hp).1
  have hl := congrArg List.length hi
  rw [List.length_append, List.length_drop, List.length_drop] at hl
  have ha := h.at_
  have hb : qB (cutn P.length (whl k) cs) (d.pre (hdP k P j)) = qB 0 d := by
    have hn : cs = [] ↔ j = 0 := by rw [← h.len]; exact List.length_eq_zero_iff.symm
    unfold cutn hdP whl
    by_cases e : k = 3 ∧ j = 0
    · rw [if_pos (by simp [hn, e]), if_pos e]
      obtain ⟨key, kd, val, pg, ct⟩ := d
      simp [Cl.pre]
    · rw [if_neg (by simpa [hn] using e), if_neg e]
      exact qB_pre P d
  refine ⟨⟨by simp [h.len], ?_, ?_⟩, ?_⟩
  · rw [qbd_snoc, List.length_append, ← ha, hb]
    omega
  · rw [h.eq, show m - j = (m - (j + 1)) + 1 by omega, partQ, hp]
    simp only [whl_hd]
    rw [if_pos hc, show prv (cs ++ [d.pre (hdP k P j)]) = some (d.pre (hdP k P j)).key from by simp [prv]]
    simp only [Nat.add_one_ne_zero, decide_false, Bool.and_false]
    cases partQ k (n : Int) P (m - (j + 1)) false (some (d.pre (hdP k P j)).key) (body.drop q) <;> simp
  · rw [qst_snoc, Nat.zero_add, ← ha]
set_option maxRecDepth 100000 in
theorem PwQ.done {k : Int} {n m : Nat} {P body : List Int} {cs : List Cl} {p : Nat} (h : PwQ k n m P body cs m p) : partQ k n P m (whl k) none body = some (cs, body.drop p) := by
  have he := h.eq
  rw [Nat.sub_self, partQ] at he
  simpa using he
set_option maxRecDepth 100000 in
/-- A part of what is one's own. -/
theorem OwnB.take {w : World} {B : Nat} {ao : Option Addr} {n cap : Nat} {l : List Int} (h : OwnB w B (.slice ao n cap) l) (k : Nat) (hk : k ≤ n) : OwnB w B (.slice ao k cap) (l.take k) := by
  unfold OwnB at *
  obtain ⟨h1, h2⟩ := h
  refine ⟨by simp [By], ?_⟩
  rcases h2 with ⟨e, hl⟩ | ⟨g, c, cur, e, hg, hh, hnc, hm, hs, ht⟩
  · injection e with e1 e2 e3
    subst e1 e2 e3
    obtain rfl : k = 0 := by omega
    exact .inl ⟨rfl, by simp⟩
  · injection e with e1 e2 e3
    subst e1 e2 e3
    have hkl : (l.take k).length = k := by rw [List.length_take]; omega
    refine .inr ⟨g, cap, cur, by rw [hkl], hg, hh, by rw [hkl]; omega, hm, hs, ?_⟩
    have := congrArg (List.take k) ht
    rw [hkl]
    simpa [By, List.take_take, List.map_take, Nat.min_eq_left hk] using this
end Go.Proofs.YtaicpmlcklkjgaaGreatDoor
