/- Layer 6: the law's play: Insert, Set, Bytes. -/
import Derived.Test.YtphjnahmbdinmaaGreatDoorJ44
namespace Go.Proofs.YtphjnahmbdinmaaGreatDoor
open Go.RowKit

/-- A step of a script as a value. -/
def opV6 (q x : Int) (ka : Option Addr) (kn kc : Nat) (kd : Int) (va : Option Addr) (vn vc : Nat) (pg ct : Int) : Value := .agg #[.int .i64 q, .int .i64 x, .slice ka kn kc, .int .i64 kd, .slice va vn vc, .int .i64 pg, .int .i64 ct]
/-- A step in its box. -/
def O7 (w : World) (s : Nat) (q x : Int) (ka : Option Addr) (kn kc : Nat) (kd : Int) (va : Option Addr) (vn vc : Nat) (pg ct : Int) : Prop := w.heap[s]? = some (.cells #[.int .i64 q, .int .i64 x, .slice ka kn kc, .int .i64 kd, .slice va vn vc, .int .i64 pg, .int .i64 ct] 42 (0, 0))
set_option maxRecDepth 100000 in
theorem O7.cells {w : World} {s : Nat} {q x : Int} {ka : Option Addr} {kn kc : Nat} {kd : Int} {va : Option Addr} {vn vc : Nat} {pg ct : Int} (h : O7 w s q x ka kn kc kd va vn vc pg ct) : w.cell? ⟨s, 0, none⟩ = some (.int .i64 q) ∧ w.cell? ⟨s, 1, none⟩ = some (.int .i64 x) ∧ w.cell? ⟨s, 2, none⟩ = some (.slice ka kn kc) ∧ w.cell? ⟨s, 3, none⟩ = some (.int .i64 kd) ∧ w.cell? ⟨s, 4, none⟩ = some (.slice va vn vc) ∧ w.cell? ⟨s, 5, none⟩ = some (.int .i64 pg) ∧ w.cell? ⟨s, 6, none⟩ = some (.int .i64 ct) := by
  unfold O7 at h
  refine ⟨?_, ?_, ?_, ?_, ?_, ?_, ?_⟩
  · rw [cell_of_row _ _ 0 _ _ _ h]; rfl
  · rw [cell_of_row _ _ 1 _ _ _ h]; rfl
  · rw [cell_of_row _ _ 2 _ _ _ h]; rfl
  · rw [cell_of_row _ _ 3 _ _ _ h]; rfl
  · rw [cell_of_row _ _ 4 _ _ _ h]; rfl
  · rw [cell_of_row _ _ 5 _ _ _ h]; rfl
  · rw [cell_of_row _ _ 6 _ _ _ h]; rfl
/-- What came is what should have, and is not more than t. -/
def Lok (L : Ls6) (t : Nat) : Prop := L.wes = L.ces ∧ L.hcs = L.pcs ∧ L.ces.length ≤ t ∧ L.pcs.length ≤ t
set_option maxRecDepth 100000 in
theorem Lok.up {L : Ls6} {t : Nat} (h : Lok L t) : Lok L (t + 1) := ⟨h.1, h.2.1, by have := h.2.2.1; omega, by have := h.2.2.2; omega⟩
set_option maxRecDepth 100000 in
theorem Lok.pic {L : Ls6} {t : Nat} (h : Lok L t) (l : List Int) : Lok ⟨L.ces, L.wes, L.pcs ++ [l], L.hcs ++ [l]⟩ (t + 1) := ⟨h.1, by simp only; rw [h.2.1], by have := h.2.2.1; simp only; omega, by have := h.2.2.2; simp; omega⟩
set_option maxRecDepth 100000 in
theorem Lok.cell {L : Ls6} {t : Nat} (h : Lok L t) (c : Cl) : Lok ⟨L.ces ++ [c], L.wes ++ [c], L.pcs, L.hcs⟩ (t + 1) := ⟨by simp only; rw [h.1], h.2.1, by have := h.2.2.1; simp; omega, by have := h.2.2.2; simp only; omega⟩
/-- The pair behind t steps. -/
def PaE (w : World) (B X r : Nat) (k : Int) (n t : Nat) : Prop := ∃ L, Lok L t ∧ StE w B X r k n L
set_option maxRecDepth 100000 in
theorem PaE.on {w w' : World} {B X r : Nat} {k : Int} {n t : Nat} (h : PaE w B X r k n t) (hb : Below w.heap.size w w') : PaE w' B X r k n t := by
  obtain ⟨L, h1, h2⟩ := h
  exact ⟨L, h1, h2.on hb⟩
/-- What a step comes to. -/
def PlTo (w : World) (B X r : Nat) (k : Int) (n t : Nat) (e : Ending) (w' : World) : Prop := e = .returned (.bool true) ∧ Hid (PaE w' B X r k n (t + 1)) ∧ Hid (Below B w w')
set_option maxRecDepth 100000 in
set_option maxHeartbeats 4000000 in
theorem play6_lent (w w0 : World) (B X r : Nat) (k : Int) (n t : Nat) (h : PaE w B X r k n t) (hw0 : Below B w0 w) (hB0 : w0.heap.size ≤ B) (q x : Int) (ka : Option Addr) (kn kc : Nat) (kd : Int) (va : Option Addr) (vn vc : Nat) (pg ct : Int) (key val : List Int) (hk : Sl w0 ka kn kc key) (hv : Sl w0 va vn vc val) (hq : q = 1 ∨ q = 2) :
    Calls Tryz.prog 7 #[.pointer (some ⟨X, 0, none⟩), opV6 q x ka kn kc kd va vn vc pg ct] w (PlTo w B X r k n t) := by
  obtain ⟨L, hL, hs⟩ := h
  unfold opV6
  obtain ⟨s, hsz⟩ : ∃ s, w.heap.size = s := ⟨_, rfl⟩
  obtain ⟨y, hy⟩ : ∃ y, w.alloc (.cells #[.int .i64 q, .int .i64 x, .slice ka kn kc, .int .i64 kd, .slice va vn vc, .int .i64 pg, .int .i64 ct] 42) = y := ⟨_, rfl⟩
  have hby : Below w.heap.size w y := by rw [← hy]; exact bl_al (Below.refl _ _) (Nat.le_refl _) _
  have hbox : O7 y s q x ka kn kc kd va vn vc pg ct := by rw [← hy, ← hsz]; exact heap_alloc_last w _
  have hlo := bl_low hby hs.size
  have HC := hidden (lent6_go y w0 B X r k n L (hs.on hby) (hw0.trans hlo) hB0 q x ka kn kc kd va vn vc pg ct key val hk hv)
  have HLO := hidden hlo
  have HL := hidden hL
  obtain ⟨c0, c1, c2, c3, c4, c5, c6⟩ := hbox.cells
  clear hs hk hv hw0 hB0 hby hbox hlo hL
  rcases hq with rfl | rfl
  all_goals
    go_enter Tryz.func7, Tryz.ntmps7
    go_wp2_with (first | (go_at_call 24; refine HC.out.mono ?_; rintro e u ⟨rfl, H1, H2⟩))
    go_ret
    exact ⟨rfl, hidden ⟨L, HL.out.up, H1.out⟩, hidden (HLO.out.trans H2.out)⟩
set_option maxRecDepth 100000 in
set_option maxHeartbeats 4000000 in
theorem play6_bytes (w : World) (B X r : Nat) (k : Int) (n t : Nat) (h : PaE w B X r k n t) (ht : Tab w) (h0 : 1 < w.heap.size) (htt : t ≤ 4000000) (q x : Int) (ka : Option Addr) (kn kc : Nat) (kd : Int) (va : Option Addr) (vn vc : Nat) (pg ct : Int) (hq : ¬ q = 1 ∧ ¬ q = 2 ∧ ¬ q = 3 ∧ ¬ q = 4 ∧ ¬ q = 5 ∧ ¬ q = 6 ∧ ¬ q = 7) :
    Calls Tryz.prog 7 #[.pointer (some ⟨X, 0, none⟩), opV6 q x ka kn kc kd va vn vc pg ct] w (PlTo w B X r k n t) := by
  obtain ⟨L, hL, hs⟩ := h
  unfold opV6
  obtain ⟨s, hsz⟩ : ∃ s, w.heap.size = s := ⟨_, rfl⟩
  obtain ⟨y, hy⟩ : ∃ y, w.alloc (.cells #[.int .i64 q, .int .i64 x, .slice ka kn kc, .int .i64 kd, .slice va vn vc, .int .i64 pg, .int .i64 ct] 42) = y := ⟨_, rfl⟩
  have hby : Below w.heap.size w y := by rw [← hy]; exact bl_al (Below.refl _ _) (Nat.le_refl _) _
  have hbox : O7 y s q x ka kn kc kd va vn vc pg ct := by rw [← hy, ← hsz]; exact heap_alloc_last w _
  have hlo := bl_low hby hs.size
  have HC := hidden (bytes6_go y B X r k n L (hs.on hby) (ht.on hby h0) (by have := hby.size; omega) (by have := hL.2.2.2; omega) (by rw [hL.2.1]; have := hL.2.2.2; omega))
  have HLO := hidden hlo
  have HL := hidden hL
  obtain ⟨c0, c1, c2, c3, c4, c5, c6⟩ := hbox.cells
  obtain ⟨q1, q2, q3, q4, q5, q6, q7⟩ := hq
  have e1 : (q == 1) = false := by simpa using q1
  have e2 : (q == 2) = false := by simpa using q2
  have e3 : (q == 3) = false := by simpa using q3
  have e4 : (q == 4) = false := by simpa using q4
  have e5 : (q == 5) = false := by simpa using q5
  have e6 : (q == 6) = false := by simpa using q6
  have e7 : (q == 7) = false := by simpa using q7
  clear hs ht h0 hby hbox hlo hL q1 q2 q3 q4 q5 q6 q7
  go_enter Tryz.func7, Tryz.ntmps7
  go_wp2_with (first | (go_at_call 13; refine HC.out.mono ?_; rintro e u ⟨rfl, H1, H2⟩))
  go_ret
  obtain ⟨l, h1⟩ := H1.out
  exact ⟨rfl, hidden ⟨_, HL.out.pic l, h1⟩, hidden (HLO.out.trans H2.out)⟩
end Go.Proofs.YtphjnahmbdinmaaGreatDoor

/- Layer 6: the law's play: Remove. -/

namespace Go.Proofs.YtphjnahmbdinmaaGreatDoor
open Go.RowKit

/-- The pair in the midst of a step. -/
def Mn6 (w u : World) (B X a r : Nat) (k : Int) (n : Nat) (cp cd : List Cl) (L : Ls6) : Prop :=
  (∃ K M vb vs vl v1 v2 v3 v4 us ps, St6 u B X a r k n K M cp cd L vb vs vl v1 v2 v3 v4 us ps) ∧ Below B w u
set_option maxRecDepth 100000 in
theorem Mn6.on {w u u' : World} {B X a r : Nat} {k : Int} {n : Nat} {cp cd : List Cl} {L : Ls6} (h : Mn6 w u B X a r k n cp cd L) (hb : Below u.heap.size u u') : Mn6 w u' B X a r k n cp cd L := by
  obtain ⟨⟨K, M, vb, vs, vl, v1, v2, v3, v4, us, ps, hs⟩, hw⟩ := h
  exact ⟨⟨K, M, vb, vs, vl, v1, v2, v3, v4, us, ps, hs.on hb⟩, hw.trans (bl_low hb hs.size)⟩
set_option maxRecDepth 100000 in
theorem Mn6.cells {w u : World} {B X a r : Nat} {k : Int} {n : Nat} {cp cd : List Cl} {L : Ls6} (h : Mn6 w u B X a r k n cp cd L) : u.cell? ⟨X, 0, none⟩ = some (.pointer (some ⟨a, 0, none⟩)) ∧ u.cell? ⟨X, 1, none⟩ = some (.pointer (some ⟨r, 0, none⟩)) := by
  obtain ⟨⟨K, M, vb, vs, vl, v1, v2, v3, v4, us, ps, hs⟩, hw⟩ := h
  exact ⟨hs.px.cells.1, hs.px.cells.2.1⟩
/-- A step's box stays. -/
def Ko7 (u u' : World) : Prop := ∀ (s : Nat) (cur : Array Value) (fz : Nat × Nat), u.heap[s]? = some (.cells cur 42 fz) → u'.heap[s]? = some (.cells cur 42 fz)
set_option maxRecDepth 100000 in
theorem Ko7.trans {u v w : World} (h : Ko7 u v) (k : Ko7 v w) : Ko7 u w := fun s cur fz e => k s cur fz (h s cur fz e)
set_option maxRecDepth 100000 in
theorem Ko7.on {u v : World} (h : Below u.heap.size u v) : Ko7 u v := fun s _ _ e => (h.block s (lt_some e)).trans e
set_option maxRecDepth 100000 in
theorem Ko7.our {w w' : World} {B a : Nat} {k : Int} {n : Nat} {vb vs : Value} {cs : List Cl} (h : Po w B a k n vb vs cs) (hc : Cf (PZ a vb vs) w w') : Ko7 w w' := fun s _ _ e => (hc.block s (lt_some e) (h.no e (by decide) (by decide) (by decide))).trans e
set_option maxRecDepth 100000 in
theorem Ko7.doc {w w' : World} {q m : Nat} {j : Int} {vl : Value} (hd : DR w q j m vl) (hc : Cf (· = q) w w') : Ko7 w w' := fun s _ _ e => (hc.block s (lt_some e) (fun e2 => by
  subst e2
  unfold DR at hd
  rw [hd] at e
  simp at e)).trans e
set_option maxRecDepth 100000 in
theorem O7.ko {u v : World} {s : Nat} {q x : Int} {ka : Option Addr} {kn kc : Nat} {kd : Int} {va : Option Addr} {vn vc : Nat} {pg ct : Int} (h : O7 u s q x ka kn kc kd va vn vc pg ct) (k : Ko7 u v) : O7 v s q x ka kn kc kd va vn vc pg ct := k _ _ _ h
set_option maxRecDepth 100000 in
theorem PgOk.remc {k : Int} {n : Nat} {cs : List Cl} {x : Int} (g : PgOk k n cs) : PgOk k n (if remE cs x = 0 then cs.take x.toNat ++ cs.drop (x.toNat + 1) else cs) := by
  by_cases h0 : remE cs x = 0
  · rw [if_pos h0]
    unfold remE at h0
    by_cases hx : 0 ≤ x ∧ x < (cs.length : Int)
    · exact g.rem (by omega)
    · rw [if_neg hx] at h0
      exact absurd h0 (by decide)
  · rw [if_neg h0]
    exact g
set_option maxRecDepth 100000 in
theorem Mn6.rem {w u : World} {B X a r : Nat} {k : Int} {n : Nat} {cs cd : List Cl} {L : Ls6} (hm : Mn6 w u B X a r k n cs cd L) (g : PgOk k n cs) (x : Int) :
    Calls Tryz.prog 25 #[.pointer (some ⟨a, 0, none⟩), .int .i64 x] u fun e u' => e = .returned (.int .i64 (remE cs x)) ∧ Hid (Mn6 w u' B X a r k n (if remE cs x = 0 then cs.take x.toNat ++ cs.drop (x.toNat + 1) else cs) cd L) ∧ Hid (Ko7 u u') := by
  obtain ⟨⟨K, M, vb, vs, vl, v1, v2, v3, v4, us, ps, hs⟩, hw⟩ := hm
  refine (remove_any u B a k n vb vs cs x hs.po (pw_nat g.sz).2 g.size hs.size).mono ?_
  rintro e u' ⟨rfl, hp, hc⟩
  obtain ⟨vb', vs', hp, hv1, hv2⟩ := hp.out
  have hc := hc.out
  obtain ⟨st, fr, hbl⟩ := hs.our hc hp hv1
  exact ⟨rfl, hidden ⟨⟨K, M, vb', vs', vl, v1, v2, v3, v4, us, ps, st⟩, hw.trans hbl⟩, hidden (Ko7.our hs.po hc)⟩
set_option maxRecDepth 100000 in
theorem Mn6.rrem {w u : World} {B X a r : Nat} {k : Int} {n : Nat} {cp cs : List Cl} {L : Ls6} (hm : Mn6 w u B X a r k n cp cs L) (g : PgOk k n cs) (x : Int) :
    Calls Tryz.prog 26 #[.pointer (some ⟨r, 0, none⟩), .int .i64 x] u fun e u' => e = .returned (.int .i64 (remE cs x)) ∧ Hid (Mn6 w u' B X a r k n cp (if remE cs x = 0 then cs.take x.toNat ++ cs.drop (x.toNat + 1) else cs) L) ∧ Hid (Ko7 u u') := by
  obtain ⟨⟨K, M, vb, vs, vl, v1, v2, v3, v4, us, ps, hs⟩, hw⟩ := hm
  refine (rremove_any u B (fun z => K z ∨ u.heap.size ≤ z) r k n vl cs x (hs.dp.wide fun z hz => .inl hz) (by have := g.len; omega) hs.size).mono ?_
  rintro e u' ⟨rfl, hp, hc⟩
  obtain ⟨vl', hp, hv1⟩ := hp.out
  have hc := hc.out
  obtain ⟨K', st, fr, hbl⟩ := hs.doc hc hp hv1
  exact ⟨rfl, hidden ⟨⟨K', M, vb, vs, vl', v1, v2, v3, v4, us, ps, st⟩, hw.trans hbl⟩, hidden (Ko7.doc hs.dp.row hc)⟩
set_option maxRecDepth 100000 in
set_option maxHeartbeats 4000000 in
theorem play6_remove (w : World) (B X r : Nat) (k : Int) (n t : Nat) (h : PaE w B X r k n t) (x : Int) (ka : Option Addr) (kn kc : Nat) (kd : Int) (va : Option Addr) (vn vc : Nat) (pg ct : Int) :
    Calls Tryz.prog 7 #[.pointer (some ⟨X, 0, none⟩), opV6 3 x ka kn kc kd va vn vc pg ct] w (PlTo w B X r k n t) := by
  obtain ⟨L, hL, cs, a, K, M, vb, vs, vl, v1, v2, v3, v4, us, ps, g, hs⟩ := h
  unfold opV6
  obtain ⟨s, hsz⟩ : ∃ s, w.heap.size = s := ⟨_, rfl⟩
  obtain ⟨y, hy⟩ : ∃ y, w.alloc (.cells #[.int .i64 3, .int .i64 x, .slice ka kn kc, .int .i64 kd, .slice va vn vc, .int .i64 pg, .int .i64 ct] 42) = y := ⟨_, rfl⟩
  have hby : Below w.heap.size w y := by rw [← hy]; exact bl_al (Below.refl _ _) (Nat.le_refl _) _
  have hbox : O7 y s 3 x ka kn kc kd va vn vc pg ct := by rw [← hy, ← hsz]; exact heap_alloc_last w _
  have HM : Hid (Mn6 w y B X a r k n cs cs L) := hidden ⟨⟨K, M, vb, vs, vl, v1, v2, v3, v4, us, ps, hs.on hby⟩, bl_low hby hs.size⟩
  have HO : Hid (∀ u, Below y.heap.size y u → Calls Tryz.prog 25 #[.pointer (some ⟨a, 0, none⟩), .int .i64 x] u fun e u' => e = .returned (.int .i64 (remE cs x)) ∧ Hid (Mn6 w u' B X a r k n (if remE cs x = 0 then cs.take x.toNat ++ cs.drop (x.toNat + 1) else cs) cs L) ∧ Hid (Ko7 y u')) := hidden (by
    intro u hu
    refine ((HM.out.on hu).rem g x).mono ?_
    rintro e u' ⟨rfl, h1, h2⟩
    exact ⟨rfl, h1, hidden ((Ko7.on hu).trans h2.out)⟩)
  have HR : Hid (∀ cp u, Mn6 w u B X a r k n cp cs L → Calls Tryz.prog 26 #[.pointer (some ⟨r, 0, none⟩), .int .i64 x] u fun e u' => e = .returned (.int .i64 (remE cs x)) ∧ Hid (Mn6 w u' B X a r k n cp (if remE cs x = 0 then cs.take x.toNat ++ cs.drop (x.toNat + 1) else cs) L) ∧ Hid (Ko7 u u')) := hidden fun cp u hu => hu.rrem g x
  have HOK := hidden (g.remc (x := x))
  obtain ⟨E, hE⟩ : ∃ E, remE cs x = E := ⟨_, rfl⟩
  obtain ⟨nw, hnw⟩ : ∃ nw, (if E = 0 then cs.take x.toNat ++ cs.drop (x.toNat + 1) else cs) = nw := ⟨_, rfl⟩
  rw [hE, hnw] at HO HR HOK
  have HL := hidden hL
  have HBOX := hidden hbox
  obtain ⟨c0, c1, c2, c3, c4, c5, c6⟩ := hbox.cells
  obtain ⟨p0, p1⟩ := HM.out.cells
  clear hs hby hbox hL g hE hnw
  go_enter Tryz.func7, Tryz.ntmps7
  go_upto_region 6 with fail
  go_cut [5] (fun v u => v = .int .i64 E ∧ Hid (Mn6 w u B X a r k n nw cs L) ∧ Hid (Ko7 y u))
  case first =>
    go_wp2_with fail
    go_region_law (first
      | (go_simp; go_at_call 25; refine (HO.out _ (by first | exact Below.refl _ _ | exact (Below.refl _ _).drew | exact bl_dr (Below.refl _ _) _)).mono ?_; rintro e u1 ⟨rfl, HU1, HU2⟩))
    all_goals (try go_wp2_with fail)
    all_goals go_meet
    all_goals exact ⟨rfl, HU1, HU2⟩
  obtain ⟨rfl, HU1, HU2⟩ := hcut
  obtain ⟨u1, hu1⟩ : ∃ u1, u1 = wc := ⟨_, rfl⟩
  subst hu1
  clear c0 c1 c2 c3 c4 c5 c6 p0 p1 HO
  obtain ⟨c0, c1, c2, c3, c4, c5, c6⟩ := (HBOX.out.ko HU2.out).cells
  obtain ⟨p0, p1⟩ := HU1.out.cells
  go_upto_region 7 with fail
  go_cut [4] (fun v u => v = .bool true ∧ Hid (Mn6 w u B X a r k n nw nw L))
  case first =>
    go_wp2_with fail
    go_region_law (first
      | (go_simp; go_at_call 26; refine (HR.out nw _ (by first | exact HU1.out | exact HU1.out.on ((Below.refl _ _).drew) | exact HU1.out.on (bl_dr (Below.refl _ _) _))).mono ?_; rintro e u2 ⟨rfl, HU3, HU4⟩))
    all_goals (try go_wp2_with fail)
    all_goals go_meet
    all_goals exact ⟨by first | rfl | simp, HU3⟩
  obtain ⟨rfl, HU3⟩ := hcut
  obtain ⟨u2, hu2⟩ : ∃ u2, u2 = wc := ⟨_, rfl⟩
  subst hu2
  clear c0 c1 c2 c3 c4 c5 c6 p0 p1 HR
  go_wp2
  go_ret
  obtain ⟨⟨K, M, vb, vs, vl, v1, v2, v3, v4, us, ps, st⟩, hw⟩ := HU3.out
  exact ⟨rfl, hidden ⟨L, HL.out.up, nw, a, K, M, vb, vs, vl, v1, v2, v3, v4, us, ps, HOK.out, st⟩, hidden hw⟩
end Go.Proofs.YtphjnahmbdinmaaGreatDoor
