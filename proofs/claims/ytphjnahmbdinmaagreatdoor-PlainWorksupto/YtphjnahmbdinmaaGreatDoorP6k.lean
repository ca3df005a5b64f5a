/- Layer 6: the book that the law's owned fills. -/
import Derived.Test.YtphjnahmbdinmaaGreatDoorJ45
namespace Go.Proofs.YtphjnahmbdinmaaGreatDoor
open Go.RowKit

/-- The keys and values among the values of cells. -/
def kvs : List Value → List Value
  | a :: _ :: b :: _ :: _ :: t => a :: b :: kvs t
  | _ => []
set_option maxRecDepth 100000 in
theorem R5B.kvs_len {w : World} {B : Nat} : ∀ {vs : List Value} {cs : List Cl}, R5B w B vs cs → (kvs vs).length = 2 * cs.length
  | vs, [], h => by
    unfold R5B at h
    subst h
    rfl
  | vs, c :: r, h => by
    obtain ⟨ka, kc, va, vc, t, rfl, h1, h2, h3⟩ := h
    have := R5B.kvs_len h3
    simp only [kvs, List.length_cons]
    omega
set_option maxRecDepth 100000 in
theorem R5B.kvs_sub {w : World} {B : Nat} : ∀ {vs : List Value} {cs : List Cl}, R5B w B vs cs → (kvs vs).Sublist vs
  | vs, [], h => by
    unfold R5B at h
    subst h
    exact List.Sublist.refl _
  | vs, c :: r, h => by
    obtain ⟨ka, kc, va, vc, t, rfl, h1, h2, h3⟩ := h
    have := R5B.kvs_sub h3
    simp only [kvs]
    exact List.Sublist.cons_cons _ (List.Sublist.cons _ (List.Sublist.cons_cons _ (List.Sublist.cons _ (List.Sublist.cons _ this))))
set_option maxRecDepth 100000 in
theorem R5B.kvs_own {w : World} {B : Nat} : ∀ {vs : List Value} {cs : List Cl}, R5B w B vs cs → (∀ c ∈ cs, c.Wf ∧ c.key.length ≤ 65536 ∧ c.val.length ≤ 65536) → ∀ u ∈ kvs vs, ∃ l, OwnB w B u l ∧ Wf l ∧ l.length ≤ 65536
  | vs, [], h, _ => by
    unfold R5B at h
    subst h
    intro u hu
    simp [kvs] at hu
  | vs, c :: r, h, hw => by
    obtain ⟨ka, kc, va, vc, t, rfl, h1, h2, h3⟩ := h
    have ih := R5B.kvs_own h3 (fun d hd => hw d (by simp [hd]))
    have hc := hw c (by simp)
    intro u hu
    simp only [kvs, List.mem_cons] at hu
    rcases hu with rfl | rfl | hu
    · exact ⟨_, h1, hc.1.1, hc.2.1⟩
    · exact ⟨_, h2, hc.1.2, hc.2.2⟩
    · exact ih u hu
set_option maxRecDepth 100000 in
theorem R5B.at {w : World} {B : Nat} : ∀ {vs : List Value} {cs : List Cl} (i : Nat) (c : Cl), R5B w B vs cs → cs[i]? = some c → ∃ ka kc va vc, vs[i * 5]? = some (.slice ka c.key.length kc) ∧ vs[i * 5 + 1]? = some (.int .i64 c.kd) ∧ vs[i * 5 + 2]? = some (.slice va c.val.length vc) ∧ vs[i * 5 + 3]? = some (.int .i64 c.pg) ∧ vs[i * 5 + 4]? = some (.int .i64 c.ct) ∧ OwnB w B (.slice ka c.key.length kc) c.key ∧ OwnB w B (.slice va c.val.length vc) c.val ∧ (kvs vs)[2 * i]? = some (.slice ka c.key.length kc) ∧ (kvs vs)[2 * i + 1]? = some (.slice va c.val.length vc)
  | vs, [], i, c, _, hc => by simp at hc
  | vs, d :: r, 0, c, h, hc => by
    obtain ⟨ka, kc, va, vc, t, rfl, h1, h2, h3⟩ := h
    simp at hc
    subst hc
    exact ⟨ka, kc, va, vc, rfl, rfl, rfl, rfl, rfl, h1, h2, rfl, rfl⟩
  | vs, d :: r, i + 1, c, h, hc => by
    obtain ⟨ka, kc, va, vc, t, rfl, h1, h2, h3⟩ := h
    obtain ⟨ka', kc', va', vc', g0, g1, g2, g3, g4, g5, g6, g7, g8⟩ := R5B.at i c h3 (by simpa using hc)
    refine ⟨ka', kc', va', vc', ?_, ?_, ?_, ?_, ?_, g5, g6, ?_, ?_⟩
    · rw [show (i + 1) * 5 = i * 5 + 5 by omega]; simpa using g0
    · rw [show (i + 1) * 5 + 1 = (i * 5 + 1) + 5 by omega]; simpa using g1
    · rw [show (i + 1) * 5 + 2 = (i * 5 + 2) + 5 by omega]; simpa using g2
    · rw [show (i + 1) * 5 + 3 = (i * 5 + 3) + 5 by omega]; simpa using g3
    · rw [show (i + 1) * 5 + 4 = (i * 5 + 4) + 5 by omega]; simpa using g4
    · rw [show 2 * (i + 1) = 2 * i + 2 by omega]; simpa [kvs] using g7
    · rw [show 2 * (i + 1) + 1 = (2 * i + 1) + 2 by omega]; simpa [kvs] using g8
set_option maxRecDepth 100000 in
theorem take_two {L : List Value} {i : Nat} {a b : Value} (h1 : L[2 * i]? = some a) (h2 : L[2 * i + 1]? = some b) : L.take (2 * (i + 1)) = L.take (2 * i) ++ [a] ++ [b] := by
  rw [show 2 * (i + 1) = 2 * i + 1 + 1 by omega, List.take_add_one, List.take_add_one, h1, h2]
  rfl
/-- Blocks of other types than the book's own stay. -/
def KT6 (w w' : World) : Prop := w.heap.size ≤ w'.heap.size ∧ ∀ (k : Nat) (cs : Array Value) (t : TypeId) (fz : Nat × Nat), w.heap[k]? = some (.cells cs t fz) → t ≠ 73 → t ≠ 38 → w'.heap[k]? = w.heap[k]?
set_option maxRecDepth 100000 in
theorem KT6.trans {a b c : World} (h : KT6 a b) (k : KT6 b c) : KT6 a c := ⟨Nat.le_trans h.1 k.1, fun z cs t fz h1 h2 h3 => by
  have e := h.2 z cs t fz h1 h2 h3
  exact (k.2 z cs t fz (e.trans h1) h2 h3).trans e⟩
set_option maxRecDepth 100000 in
theorem KT6.of_below {a b : World} (h : Below a.heap.size a b) : KT6 a b := ⟨h.size, fun z _ _ _ h1 _ _ => h.block z (lt_some h1)⟩
/-- A book that is filled. -/
structure Bj (w : World) (C bk : Nat) (v : Value) (V : List Value) : Prop where
  box : w.heap[bk]? = some (.cells #[v, .slice none 0 0] 73 (0, 0))
  row : w.ownsRow C 38 1 v V.length V
  lo : C ≤ bk
set_option maxRecDepth 100000 in
theorem Bj.on {w w' : World} {C bk : Nat} {v : Value} {V : List Value} (h : Bj w C bk v V) (hb : Below w.heap.size w w') : Bj w' C bk v V :=
  ⟨(hb.block _ (lt_some h.box)).trans h.box, row_cf h.row (Cf.ff hb) (fun _ _ e => e), h.lo⟩
set_option maxRecDepth 100000 in
set_option maxHeartbeats 4000000 in
theorem take3j (w : World) (C bk : Nat) (v : Value) (V : List Value) (ao : Option Addr) (n c : Nat) (h : Bj w C bk v V) (hn : V.length ≤ 4000000) :
    Calls Tryz.prog 38 #[.pointer (some ⟨bk, 0, none⟩), .slice ao n c] w fun e w' => e = .returned (.tuple #[]) ∧ Hid (∃ v', Bj w' C bk v' (V ++ [.slice ao n c])) ∧ Hid (Below C w w') ∧ Hid (KT6 w w') := by
  have hC : C ≤ w.heap.size := by have := h.lo; have := lt_some h.box; omega
  obtain ⟨s, hs⟩ : ∃ s, w.heap.size = s := ⟨_, rfl⟩
  obtain ⟨x, hx⟩ : ∃ x, w.alloc (.cells #[.slice ao n c] 38) = x := ⟨_, rfl⟩
  have hbx : Below w.heap.size w x := by rw [← hx]; exact bl_al (Below.refl _ _) (Nat.le_refl _) _
  have hcx : x.cell? ⟨s, 0, none⟩ = some (.slice ao n c) := by rw [← hx, ← hs]; simp
  have hj := h.on hbx
  obtain ⟨g, c', w1, hr, hrow, hgr⟩ := run_b1 x 33 C v V.length V (.slice ao n c) s hj.row rfl hcx hn (Nat.le_trans hC hbx.size)
  have hnb : ¬ v.ownBlock = some bk := fun e => by
    obtain ⟨cur, fz, hh⟩ := row_ty hj.row e
    rw [hj.box] at hh
    injection hh with hh
    injection hh with _ e2 _
    exact absurd e2 (by decide)
  have hbox1 : w1.heap[bk]? = some (.cells #[v, .slice none 0 0] 73 (0, 0)) := (hgr.cf.block bk (lt_some hj.box) hnb).trans hj.box
  have hnb1 : ¬ (Value.slice (some ⟨g, 0, none⟩) (V.length + 1) c').ownBlock = some bk := fun e => by
    obtain ⟨cur, fz, hh⟩ := row_ty hrow e
    rw [hbox1] at hh
    injection hh with hh
    injection hh with _ e2 _
    exact absurd e2 (by decide)
  have HF : Hid (Bj (w1.setCell ⟨bk, 0, none⟩ (.slice (some ⟨g, 0, none⟩) (V.length + 1) c')) C bk (.slice (some ⟨g, 0, none⟩) (V.length + 1) c') (V ++ [.slice ao n c]) ∧ Below C w (w1.setCell ⟨bk, 0, none⟩ (.slice (some ⟨g, 0, none⟩) (V.length + 1) c')) ∧ KT6 w (w1.setCell ⟨bk, 0, none⟩ (.slice (some ⟨g, 0, none⟩) (V.length + 1) c'))) := hidden (by
    have hc2 := Cf.set w1 bk 0 (.slice (some ⟨g, 0, none⟩) (V.length + 1) c')
    refine ⟨⟨?_, ?_, h.lo⟩, ?_, ?_⟩
    · simpa using set_row (w := w1) (a := bk) (i := 0) (cs := [v, .slice none 0 0]) (u := .slice (some ⟨g, 0, none⟩) (V.length + 1) c') hbox1
    · rw [List.length_append]
      exact row_cf hrow hc2 fun z hz e => hnb1 (e ▸ hz)
    · refine (bl_low hbx hC).trans (Below.trans (b := w1) ?_ ?_)
      · refine ⟨hgr.cf.os, hgr.cf.tape, hgr.cf.output, hgr.cf.size, fun q hq => hgr.cf.block q (by have := hbx.size; omega) fun e => ?_⟩
        have := (World.ownsRow.lt hj.row q e).1
        omega
      · exact hc2.below (by have := hgr.cf.size; have := hbx.size; omega) (fun q hq e => by have := h.lo; omega)
    · refine ⟨by have := hgr.cf.size; have := hbx.size; have := hc2.size; omega, fun q cs t fz h1 h2 h3 => ?_⟩
      have e1 : x.heap[q]? = some (.cells cs t fz) := (hbx.block q (lt_some h1)).trans h1
      have e2 : w1.heap[q]? = some (.cells cs t fz) := (hgr.cf.block q (lt_some e1) fun e => by
        obtain ⟨cur, fz', hh⟩ := row_ty hj.row e
        rw [e1] at hh
        injection hh with hh
        injection hh with _ e3 _
        exact h3 e3).trans e1
      refine ((hc2.block q (lt_some e2) fun e => ?_).trans e2).trans h1.symm
      have e4 : q = bk := e
      subst e4
      rw [hbox1] at e2
      injection e2 with e2
      injection e2 with _ e3 _
      exact h2 e3.symm)
  have c0 : w.cell? ⟨bk, 0, none⟩ = some v := by rw [cell_of_row _ _ 0 _ _ _ h.box]; rfl
  have c0x : x.cell? ⟨bk, 0, none⟩ = some v := by rw [cell_of_row _ _ 0 _ _ _ hj.box]; rfl
  have c1 : w1.cell? ⟨bk, 0, none⟩ = some v := by rw [cell_of_row _ _ 0 _ _ _ hbox1]; rfl
  have f1 : w1.frozen? ⟨bk, 0, none⟩ = false := by simp [World.frozen?, hbox1]
  obtain ⟨N1, hN1⟩ : ∃ N1, V.length + 1 = N1 := ⟨_, rfl⟩
  rw [hN1] at hr HF
  clear h hn hC hbx hcx hj hrow hgr hnb hbox1 hnb1 hN1
  go_enter Tryz.func38, Tryz.ntmps38
  go_wp2_with (at_builtin; refine append_wp rfl _ _ _ _ rfl _ _ rfl rfl hr ?_; refine Hid.out ?_)
  apply hidden
  clear hr
  go_wp2
  go_end0
  exact ⟨rfl, hidden ⟨_, HF.out.1⟩, hidden HF.out.2.1, hidden HF.out.2.2⟩
set_option maxRecDepth 100000 in
set_option maxHeartbeats 4000000 in
theorem take6j (w : World) (C bk : Nat) (v : Value) (V : List Value) (ka va : Option Addr) (kn kc vn vc : Nat) (kd pg ct : Int) (h : Bj w C bk v V) (hn : V.length + 1 ≤ 4000000) :
    Calls Tryz.prog 37 #[.pointer (some ⟨bk, 0, none⟩), .agg #[.slice ka kn kc, .int .i64 kd, .slice va vn vc, .int .i64 pg, .int .i64 ct]] w fun e w' => e = .returned (.tuple #[]) ∧ Hid (∃ v', Bj w' C bk v' (V ++ [.slice ka kn kc] ++ [.slice va vn vc])) ∧ Hid (Below C w w') := by
  have hC : C ≤ w.heap.size := by have := h.lo; have := lt_some h.box; omega
  obtain ⟨s, hs⟩ : ∃ s, w.heap.size = s := ⟨_, rfl⟩
  obtain ⟨x, hx⟩ : ∃ x, w.alloc (.cells #[.slice ka kn kc, .int .i64 kd, .slice va vn vc, .int .i64 pg, .int .i64 ct] 40) = x := ⟨_, rfl⟩
  have hbx : Below w.heap.size w x := by rw [← hx]; exact bl_al (Below.refl _ _) (Nat.le_refl _) _
  have HBOX : Hid (C5 x s (.slice ka kn kc) (.int .i64 kd) (.slice va vn vc) (.int .i64 pg) (.int .i64 ct)) := by rw [← hx, ← hs]; exact hidden (C5.box _ _ _ _ _ _)
  have HJ := hidden (h.on hbx)
  have hsC : C ≤ s := by rw [← hs]; exact hC
  have HSC := hidden hsC
  have HBX : Hid (Below C w x) := hidden (bl_low hbx hC)
  have C1 : Hid (∀ u, Below x.heap.size x u → Calls Tryz.prog 38 #[.pointer (some ⟨bk, 0, none⟩), .slice ka kn kc] u fun e w' => e = .returned (.tuple #[]) ∧ Hid (∃ v', Bj w' C bk v' (V ++ [.slice ka kn kc])) ∧ Hid (Below C x w') ∧ Hid (KT6 x w')) := hidden (by
    intro u hu
    refine (take3j u C bk v V ka kn kc (HJ.out.on hu) (by omega)).mono ?_
    rintro e w' ⟨rfl, h1, h2, h3⟩
    exact ⟨rfl, h1, hidden ((bl_low hu (Nat.le_trans hC hbx.size)).trans h2.out), hidden ((KT6.of_below hu).trans h3.out)⟩)
  have HN := hidden hn
  obtain ⟨c0, c1, c2, c3, c4⟩ := HBOX.out.cells
  have HSX : Hid (C ≤ x.heap.size) := hidden (Nat.le_trans hC hbx.size)
  clear h hn hC hbx hsC
  go_enter Tryz.func37, Tryz.ntmps37
  go_wp2_with fail
  clear hx hs
  go_region_with (first | (go_at_call 38; refine (C1.out _ (by first | with_reducible exact Below.refl _ _ | with_reducible exact (Below.refl _ _).drew | with_reducible exact bl_dr (Below.refl _ _) _)).mono ?_; rintro e w1 ⟨rfl, HB1, HC1, HK1⟩))
  all_goals
    have HBOX1 : Hid (C5 w1 s (.slice ka kn kc) (.int .i64 kd) (.slice va vn vc) (.int .i64 pg) (.int .i64 ct)) := hidden ((HK1.out.2 s _ _ _ HBOX.out (by decide) (by decide)).trans HBOX.out)
    obtain ⟨v1, hb1⟩ := HB1.out
    have C2 : Hid (∀ u, Below w1.heap.size w1 u → Calls Tryz.prog 38 #[.pointer (some ⟨bk, 0, none⟩), .slice va vn vc] u fun e w' => e = .returned (.tuple #[]) ∧ Hid (∃ v', Bj w' C bk v' (V ++ [.slice ka kn kc] ++ [.slice va vn vc])) ∧ Hid (Below C w w')) := hidden (by
      intro u hu
      refine (take3j u C bk v1 (V ++ [.slice ka kn kc]) va vn vc (hb1.on hu) (by rw [List.length_append]; exact HN.out)).mono ?_
      rintro e w' ⟨rfl, h1, h2, _⟩
      exact ⟨rfl, h1, hidden ((HBX.out.trans HC1.out).trans ((bl_low hu (Nat.le_trans HSX.out HC1.out.size)).trans h2.out))⟩)
    clear c0 c1 c2 c3 c4 hb1
    obtain ⟨c0, c1, c2, c3, c4⟩ := HBOX1.out.cells
    go_wp2_with fail
    go_region_with (first | (go_at_call 38; refine (C2.out _ (by first | with_reducible exact Below.refl _ _ | with_reducible exact (Below.refl _ _).drew | with_reducible exact bl_dr (Below.refl _ _) _)).mono ?_; rintro e w2 ⟨rfl, HB2, HC2⟩))
    all_goals
      go_wp2
      go_end0
      exact ⟨rfl, HB2, HC2⟩
set_option maxRecDepth 100000 in
/-- Owned of a book without lists of cells. -/
theorem owned6N (F : Nat → Prop) (w : World) (bk : Nat) (v : Value) (V : List Value) (D : Nat → List Int) (h : Six.Bo9 w 0 bk (.slice none 0 0) v V D) (hF : ∀ (t : Nat) (u : Value), V[t]? = some u → Fo F w u) (hbk : ¬ F bk) (hV : V.length ≤ 4000000) :
    Calls Tryz.prog 39 #[.pointer (some ⟨bk, 0, none⟩)] w fun e u => e = .returned (.bool true) ∧ Hid (Cf F w u) := by
  have HOW := hidden (Six.owned9F F w 0 bk V.length (.slice none 0 0) v V D h hF rfl hV (Nat.zero_le _))
  have HBX := hidden h.box
  have HBK := hidden hbk
  have c0 : w.cell? ⟨bk, 1, none⟩ = some (.slice none 0 0) := by rw [cell_of_row _ _ 1 _ _ _ h.box]; rfl
  clear h hF hbk hV
  go_enter Tryz.func39, Tryz.ntmps39
  go_wp2_with (first | (go_at_call 65; refine HOW.out.mono ?_; rintro e u ⟨rfl, HCF⟩; refine Hid.out ?_))
  apply hidden
  have hbx : u.heap[bk]? = some (.cells #[v, .slice none 0 0] 73 (0, 0)) := (HCF.out.block bk (lt_some HBX.out) HBK.out).trans HBX.out
  have c1 : u.cell? ⟨bk, 1, none⟩ = some (.slice none 0 0) := by rw [cell_of_row _ _ 1 _ _ _ hbx]; rfl
  clear hbx c0 HOW
  go_wp2_with fail
  go_loopw [4] (fun x wr => x = .int .i64 0 ∧ wr = u) (fun _ _ => 0)
  case atStart => exact ⟨rfl, rfl⟩
  case round =>
    obtain ⟨rfl, rfl⟩ := hrel
    have hz : ¬ (0 : Int) < (0 : Int) := by omega
    go_wp2_with fail
    go_loopw [7, 8] (fun g x wr' => g = .slice none 0 0 ∧ x = .int .i64 0 ∧ wr' = wr) (fun _ _ _ => 0)
    case atStart => exact ⟨rfl, rfl, rfl⟩
    case round =>
      obtain ⟨rfl, rfl, rfl⟩ := hrel
      go_wp2_with fail
      go_loopw [11] (fun x wr' => x = .int .i64 0 ∧ wr' = wr) (fun _ _ => 0)
      case atStart => exact ⟨rfl, rfl⟩
      case round =>
        obtain ⟨rfl, rfl⟩ := hrel
        go_wp2
        go_ret
        exact ⟨rfl, HCF⟩
end Go.Proofs.YtphjnahmbdinmaaGreatDoor
