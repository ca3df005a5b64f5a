/- PlainDecodes: what its calls come to, said alike. -/
import Derived.Test.YtdmpbdppdcaabaaDoorJk
import Derived.Test.YtdmpbdppdcaabaaDoorJl
import Derived.Test.YtdmpbdppdcaabaaDoorJq
import Derived.Test.YtdmpbdppdcaabaaDoorJp
import Derived.Test.YtdmpbdppdcaabaaDoorJo
namespace Go.Proofs.YtdmpbdppdcaabaaDoor
open Go.RowKit
open Six

set_option maxRecDepth 100000 in
theorem bk_lent6 {w : World} {g n : Nat} {l : List Int} (h : Bk w g (l ++ mks 9)) (hl : l.length = n) (hw : Wf l) (hn : n ≤ 140737488355328) : Sl w (some ⟨g, 0, none⟩) n (n + 9) l := by
  refine ⟨hl, by omega, hn, hw, (by intro h; cases h), .inr ⟨g, 0, rfl, lt_some h, fun i hi => ?_⟩⟩
  rw [Nat.zero_add, h.cell i (by rw [List.length_append]; omega)]
  simp [List.getD, List.getElem?_append_left (show i < l.length by omega)]
set_option maxRecDepth 100000 in
theorem over_splice6 (d cs : List Int) (h : cs.length ≤ d.length) : splice (d ++ mks 9) 0 cs = (cs ++ d.drop cs.length) ++ mks 9 := by
  simp only [splice, List.take_zero, List.nil_append, Nat.zero_add]
  rw [List.drop_append_of_le_length h, List.append_assoc]
set_option maxRecDepth 100000 in
theorem src_take6 {w : World} {oo : Option Addr} {on oc : Nat} {o : List Int} (h : Sl w oo on oc o) (k : Nat) (hpos : 0 < (o.take k).length) :
    ∃ ad, oo = some ad ∧ ∀ j v, (By (o.take k))[j]? = some v → w.cell? (ad.add j) = some v := by
  have hl := h.hlen
  rw [List.length_take] at hpos
  rcases h.hat with h1 | ⟨b, off, rfl, _, hc⟩
  · omega
  · refine ⟨_, rfl, fun j v hv => ?_⟩
    have e : By (o.take k) = (By o).take k := by simp [By, List.map_take]
    rw [e, List.getElem?_take] at hv
    split at hv
    · obtain ⟨hj, rfl⟩ := getElem?_By o j v hv
      rw [Addr.add_lit]
      exact hc j (by omega)
    · cases hv
/-- What Decode says of the bytes l. -/
def Pu (l : List Int) (k : Int) (co : Option Addr) (cn cc : Nat) (c : Int) (cs : List Cl) : Prop :=
  (c = 60 ∧ k = 0 ∧ co = none ∧ cn = 0 ∧ cc = 0 ∧ cs = [] ∧ ¬ ∃ cs, Is (l.getD 0 0) l.length cs l) ∨ (c = 0 ∧ k = l.getD 0 0 ∧ Is (l.getD 0 0) l.length cs l ∧ ∀ d ∈ cs, d.Wf)
set_option maxRecDepth 100000 in
theorem Pu.len {l : List Int} {k : Int} {co : Option Addr} {cn cc : Nat} {c : Int} {cs : List Cl} (h : Pu l k co cn cc c cs) : cs.length ≤ 65536 ∧ (∀ d ∈ cs, d.Wf) ∧ ∀ d ∈ cs, d.key.length ≤ 65536 ∧ d.val.length ≤ 65536 := by
  rcases h with ⟨_, _, _, _, _, rfl, _⟩ | ⟨_, _, h1, h2⟩
  · exact ⟨by simp, fun d hd => by simp at hd, fun d hd => by simp at hd⟩
  · refine ⟨h1.few.1, h2, fun d hd => ?_⟩
    have h3 := (h1.fits d hd).key
    have h4 := (h1.fits d hd).val
    omega
set_option maxRecDepth 100000 in
theorem Pu.tld {w : World} {B : Nat} {l : List Int} {k : Int} {co : Option Addr} {cn cc : Nat} {c : Int} {cs : List Cl} {P : Nat → Nat} (h : Pu l k co cn cc c cs) (ho : Oc4 w B co cn cc cs P) : Tld l w k co cn cc c := by
  have hl := h.len
  rcases h with ⟨h1, h2, h3, h4, h5, h6, h7⟩ | ⟨h1, h2, h3, h4⟩
  · exact .inl ⟨h1, h2, h3, h4, h5, h7⟩
  · refine .inr ⟨cs, h1, h2, h3, ?_⟩
    obtain ⟨e, ho⟩ := ho
    rcases ho with ⟨rfl, rfl, rfl, _⟩ | ⟨g, rfl, rfl, ho⟩
    · have : cs = [] := List.eq_nil_of_length_eq_zero e.symm
      subst this
      exact ⟨rfl, Nat.le_refl _, by omega, fun _ => rfl, .inl rfl⟩
    · rw [e]
      exact ho.slc h4 (fun d hd => by have := hl.2.2 d hd; omega) (by omega)
set_option maxRecDepth 100000 in
theorem Six.Oc4.low {w : World} {B B' : Nat} {co : Option Addr} {cn cc : Nat} {cs : List Cl} {P : Nat → Nat} (h : Oc4 w B' co cn cc cs P) (hB : B ≤ B') : Oc4 w B co cn cc cs P :=
  ⟨h.1, h.2.imp (fun ⟨a, b, c, d⟩ => ⟨a, b, c, Nat.le_trans hB d⟩) fun ⟨g, e, c, o⟩ => ⟨g, e, c, ⟨o.row, Nat.le_trans hB o.hg, Nat.le_trans hB o.p0, o.up, o.top, o.at_⟩⟩⟩
set_option maxRecDepth 100000 in
theorem Six.Oc4.cf {w w' : World} {B : Nat} {co : Option Addr} {cn cc : Nat} {cs : List Cl} {P : Nat → Nat} {F : Nat → Prop} (h : Oc4 w B co cn cc cs P) (hc : Cf F w w') (hf : ∀ k, B ≤ k → ¬ F k) : Oc4 w' B co cn cc cs P := by
  refine ⟨h.1, h.2.imp id fun ⟨g, e, c, o⟩ => ⟨g, e, c, ?_⟩⟩
  obtain ⟨cur, hr, hs⟩ := o.row
  have e : w'.heap[g]? = w.heap[g]? := hc.block g (lt_some hr) (hf g o.hg)
  have hBP : ∀ j, j ≤ cs.length → B ≤ P j := by
    intro j
    induction j with
    | zero => intro _; exact o.p0
    | succ j ih => intro hj; exact Nat.le_trans (ih (by omega)) (o.up j (by omega))
  refine ⟨⟨cur, e.trans hr, hs⟩, o.hg, o.p0, o.up, Nat.le_trans o.top hc.size, fun i d hd => ?_⟩
  have hil := (List.getElem?_eq_some_iff.1 hd).1
  obtain ⟨g1, g2, h0, h1, h2, h3, h4, h5, h6, h7, h8, h9⟩ := o.at_ i d hd
  have hb := hBP i (by omega)
  exact ⟨g1, g2, (World.cell?_of_block (a := ⟨g, _, none⟩) e).trans h0, (World.cell?_of_block (a := ⟨g, _, none⟩) e).trans h1, (World.cell?_of_block (a := ⟨g, _, none⟩) e).trans h2, (World.cell?_of_block (a := ⟨g, _, none⟩) e).trans h3, (World.cell?_of_block (a := ⟨g, _, none⟩) e).trans h4, h5.cf hc (hf _ (by omega)), h6.cf hc (hf _ (by omega)), h7, h8, h9⟩
set_option maxRecDepth 100000 in
theorem Six.Oc4.ownP {w : World} {B t : Nat} {co : Option Addr} {cn cc : Nat} {cs : List Cl} {P : Nat → Nat} (h : Oc4 w B co cn cc cs P) (hl : cs.length ≤ 65536) : OwnP w B (.slice co cn cc) cn 0 t := by
  obtain ⟨e, h⟩ := h
  rcases h with ⟨rfl, rfl, rfl, _⟩ | ⟨g, rfl, rfl, o⟩
  · exact ⟨[], World.ownsRow_nil _ _ _ _, fun a ha => by omega⟩
  · obtain ⟨cur, hr, hs⟩ := o.row
    refine ⟨cur.toList, ⟨by rw [Array.length_toList, hs, e]; omega, .inr ⟨g, _, cur, rfl, o.hg, hr, Nat.le_refl _, ?_, by rw [hs, e]; omega, ?_⟩⟩, fun a ha => by omega⟩
    · unfold maxLen
      omega
    · rw [List.take_of_length_le]
      rw [Array.length_toList, hs, e]
      omega
/-- The blocks of a slice lie within. -/
def Rg (v : Value) (lo hi : Nat) : Prop := ∀ z, v.ownBlock = some z → lo ≤ z ∧ z < hi
/-- Whether bytes are a page: the error that is told of them. -/
noncomputable def edE (l : List Int) : Int := @ite _ (∃ cs, Is (l.getD 0 0) l.length cs l) (Classical.propDecidable _) 0 60
set_option maxRecDepth 100000 in
theorem Pu.ed {l : List Int} {k : Int} {co : Option Addr} {cn cc : Nat} {c : Int} {cs : List Cl} (h : Pu l k co cn cc c cs) : c = edE l := by
  unfold edE
  rcases h with ⟨h1, _, _, _, _, _, h7⟩ | ⟨h1, _, h3, _⟩
  · rw [if_neg h7, h1]
  · rw [if_pos ⟨cs, h3⟩, h1]
set_option maxRecDepth 100000 in
/-- Decode, in one shape. -/
theorem decU6 (ao : Option Addr) (n cap : Nat) (l : List Int) (w : World) (hs : Sl w ao n cap l) (ht : Tab w) (h0 : 0 < w.heap.size) :
    Calls Tryd.prog 6 #[.slice ao n cap] w fun e w' => ∃ k co cn cc, e = .returned (.tuple #[.int .i64 k, .slice co cn cc, .int .i64 (edE l)]) ∧ Hid (Below w.heap.size w w') ∧ Hid (∃ cs P, Pu l k co cn cc (edE l) cs ∧ Oc4 w' w.heap.size co cn cc cs P ∧ P cn ≤ w'.heap.size) ∧ Hid (Rg (.slice co cn cc) w.heap.size w'.heap.size) := by
  refine (decode_own ao n cap l w hs ht h0).mono ?_
  rintro e w' ⟨k, co, cn, cc, c, rfl, HB, HQ⟩
  rcases HQ.out with ⟨rfl, rfl, rfl, rfl, rfl, h6⟩ | ⟨cs, g, P, rfl, rfl, rfl, rfl, rfl, h6, h7, h8⟩
  · have hp : Pu l 0 none 0 0 60 [] := .inl ⟨rfl, rfl, rfl, rfl, rfl, rfl, h6⟩
    have e := hp.ed
    refine ⟨0, none, 0, 0, by rw [e], HB, hidden ⟨[], fun _ => w.heap.size, by rw [← e]; exact hp, ⟨rfl, .inl ⟨rfl, rfl, rfl, Nat.le_refl _⟩⟩, HB.out.size⟩, hidden (fun z hz => by cases hz)⟩
  · have hp : Pu l (l.getD 0 0) (some ⟨g, 0, none⟩) cs.length cs.length 0 cs := .inr ⟨rfl, rfl, h6, h7⟩
    have e := hp.ed
    refine ⟨_, _, _, _, by rw [e], HB, hidden ⟨cs, P, by rw [← e]; exact hp, ⟨rfl, .inr ⟨g, rfl, rfl, h8⟩⟩, h8.top⟩, hidden (fun z hz => ?_)⟩
    injection hz with hz
    rw [← hz]
    exact ⟨h8.hg, h8.row.lt⟩
set_option maxRecDepth 100000 in
/-- Open, in one shape. -/
theorem openU6 (ao : Option Addr) (n cap : Nat) (l : List Int) (w : World) (hs : Sl w ao n cap l) (ht : Tab w) (h0 : 0 < w.heap.size) :
    Calls Tryd.prog 7 #[.slice ao n cap] w fun e w' => ∃ po, e = .returned (.tuple #[.pointer po, .int .i64 (edE l)]) ∧ Hid (Below w.heap.size w w') ∧ Hid ((po = none ∧ edE l = 60) ∨ ∃ a bo bn bc so sn sc cs, po = some ⟨a, 0, none⟩ ∧ edE l = 0 ∧ w.heap.size ≤ a ∧ Is (l.getD 0 0) l.length cs l ∧ (∀ c ∈ cs, c.Wf) ∧ (∃ gb, bo = some ⟨gb, 0, none⟩ ∧ w.heap.size ≤ gb) ∧ PgAt w' a (l.getD 0 0) l.length bo bn bc so sn sc cs) := by
  refine (open_own ao n cap l w hs ht h0).mono ?_
  rintro e w' ⟨po, k, rfl, HB, HQ⟩
  rcases HQ.out with ⟨rfl, rfl, h3⟩ | ⟨a, bo, bn, bc, so, sn, sc, cs, rfl, rfl, h3, h4, h5⟩
  · have e : edE l = 60 := by unfold edE; rw [if_neg h3]
    exact ⟨none, by rw [e], HB, hidden (.inl ⟨rfl, e⟩)⟩
  · have e : edE l = 0 := by unfold edE; rw [if_pos ⟨cs, h4⟩]
    exact ⟨_, by rw [e], HB, hidden (.inr ⟨a, bo, bn, bc, so, sn, sc, cs, rfl, e, h3, h4, h5⟩)⟩
/-- What Decode told of l, as it stands: its pieces lie from lo up to hi. -/
def De (w : World) (l : List Int) (lo hi : Nat) (k : Int) (co : Option Addr) (cn cc : Nat) : Prop :=
  ∃ cs P, Pu l k co cn cc (edE l) cs ∧ Oc4 w lo co cn cc cs P ∧ P cn ≤ hi ∧ Rg (.slice co cn cc) lo hi
set_option maxRecDepth 100000 in
theorem De.on {w w' : World} {l : List Int} {lo hi : Nat} {k : Int} {co : Option Addr} {cn cc : Nat} (h : De w l lo hi k co cn cc) (hb : Below w.heap.size w w') : De w' l lo hi k co cn cc := by
  obtain ⟨cs, P, h1, h2, h3, h4⟩ := h
  exact ⟨cs, P, h1, h2.on hb, h3, h4⟩
set_option maxRecDepth 100000 in
theorem De.cf {w w' : World} {l : List Int} {lo hi g : Nat} {k : Int} {co : Option Addr} {cn cc : Nat} (h : De w l lo hi k co cn cc) (hc : Cf (· = g) w w') (hg : g < lo) : De w' l lo hi k co cn cc := by
  obtain ⟨cs, P, h1, h2, h3, h4⟩ := h
  exact ⟨cs, P, h1, h2.cf hc (fun k hk e => by omega), h3, h4⟩
set_option maxRecDepth 100000 in
theorem De.tld {w : World} {l : List Int} {lo hi : Nat} {k : Int} {co : Option Addr} {cn cc : Nat} (h : De w l lo hi k co cn cc) : Tld l w k co cn cc (edE l) := by
  obtain ⟨cs, P, h1, h2, h3, h4⟩ := h
  exact h1.tld h2
set_option maxRecDepth 100000 in
theorem decD6 (ao : Option Addr) (n cap : Nat) (l : List Int) (w : World) (hs : Sl w ao n cap l) (ht : Tab w) (h0 : 0 < w.heap.size) :
    Calls Tryd.prog 6 #[.slice ao n cap] w fun e w' => ∃ k co cn cc, e = .returned (.tuple #[.int .i64 k, .slice co cn cc, .int .i64 (edE l)]) ∧ Hid (Below w.heap.size w w') ∧ Hid (De w' l w.heap.size w'.heap.size k co cn cc) := by
  refine (decU6 ao n cap l w hs ht h0).mono ?_
  rintro e w' ⟨k, co, cn, cc, rfl, HB, HQ, HR⟩
  obtain ⟨cs, P, h1, h2, h3⟩ := HQ.out
  exact ⟨k, co, cn, cc, rfl, HB, hidden ⟨cs, P, h1, h2, h3, HR.out⟩⟩
/-- A page that was opened, as it stands. -/
def Pn (w : World) (l : List Int) (lo : Nat) (po : Option Addr) : Prop :=
  (po = none ∧ edE l = 60) ∨ ∃ a bo bn bc so sn sc cs, po = some ⟨a, 0, none⟩ ∧ edE l = 0 ∧ lo ≤ a ∧ Is (l.getD 0 0) l.length cs l ∧ (∀ c ∈ cs, c.Wf) ∧ (∃ gb, bo = some ⟨gb, 0, none⟩ ∧ lo ≤ gb) ∧ PgAt w a (l.getD 0 0) l.length bo bn bc so sn sc cs
set_option maxRecDepth 100000 in
theorem Pn.on {w w' : World} {l : List Int} {lo : Nat} {po : Option Addr} (h : Pn w l lo po) (hb : Below w.heap.size w w') : Pn w' l lo po := by
  rcases h with h | ⟨a, bo, bn, bc, so, sn, sc, cs, h1, h2, h3, h4, h5, h6, h7⟩
  · exact .inl h
  · exact .inr ⟨a, bo, bn, bc, so, sn, sc, cs, h1, h2, h3, h4, h5, h6, h7.on hb⟩
set_option maxRecDepth 100000 in
theorem Pn.cf {w w' : World} {l L : List Int} {lo g : Nat} {po : Option Addr} (h : Pn w l lo po) (hc : Cf (· = g) w w') (hg : g < lo) (hk : Bk w g L) : Pn w' l lo po := by
  rcases h with h | ⟨a, bo, bn, bc, so, sn, sc, cs, h1, h2, h3, h4, h5, ⟨gb, rfl, h6⟩, h7⟩
  · exact .inl h
  · refine .inr ⟨a, _, bn, bc, so, sn, sc, cs, h1, h2, h3, h4, h5, ⟨gb, rfl, h6⟩, ?_, ?_, ?_⟩
    · exact (hc.block a (lt_some h7.row) (by omega)).trans h7.row
    · refine h7.body.cf hc (.inr fun p hp e => ?_)
      cases hp
      simp only at e
      omega
    · have hst := h7.starts
      refine ⟨hst.hlen, hst.hcap, hst.hroom, hst.hnil, ?_⟩
      rcases hst.hat with h0 | ⟨b, off, e, hlt, hcs⟩
      · exact .inl h0
      · by_cases h0 : sn = 0
        · exact .inl h0
        · have hb : ¬ b = g := by
            rintro rfl
            have c0 := hcs 0 (by omega)
            unfold Bk at hk
            rw [cell_of_row _ _ _ _ _ _ hk] at c0
            simp only [By, List.getElem?_toArray, List.getElem?_map] at c0
            cases hx : L[off + 0]? with
            | none => rw [hx] at c0; cases c0
            | some x => rw [hx] at c0; simp at c0
          have hbl := hc.block b hlt hb
          exact .inr ⟨b, off, e, Nat.lt_of_lt_of_le hlt hc.size, fun i hi => (World.cell?_of_block (a := ⟨b, off + i, none⟩) hbl).trans (hcs i hi)⟩
end Go.Proofs.YtdmpbdppdcaabaaDoor

/- The walk of the law PlainDecodes. -/

namespace Go.Proofs.YtdmpbdppdcaabaaDoor
open Go.RowKit
open Six

set_option maxRecDepth 100000 in
theorem four_le (a b c d t : Nat) (h1 : a ≤ 65536) (h2 : b ≤ 65536) (h3 : c ≤ 65536) (h4 : d ≤ 65536) : (if t = 0 then a else if t = 1 then b else if t = 2 then c else if t = 3 then d else 0) ≤ 800000 := by
  split
  · omega
  · split
    · omega
    · split
      · omega
      · split <;> omega
set_option maxRecDepth 100000 in
theorem rg_ne {u v : Value} {a b c e : Nat} (h : Rg u a b) (k : Rg v c e) (ho : b ≤ c) : (u.ownBlock = none ∨ u.ownBlock ≠ v.ownBlock) ∧ (v.ownBlock = none ∨ v.ownBlock ≠ u.ownBlock) := by
  cases hu : u.ownBlock with
  | none =>
    refine ⟨.inl rfl, ?_⟩
    cases hv : v.ownBlock with
    | none => exact .inl rfl
    | some _ => exact .inr (by simp)
  | some x =>
    cases hv : v.ownBlock with
    | none => exact ⟨.inr (by simp), .inl rfl⟩
    | some y =>
      have h1 := h x hu
      have h2 := k y hv
      refine ⟨.inr ?_, .inr ?_⟩ <;> (intro e; injection e with e; omega)
set_option maxRecDepth 100000 in
theorem four_ne {u1 u2 u3 u4 : Value} {a1 a2 a3 a4 b1 b2 b3 b4 : Nat} (h1 : Rg u1 a1 b1) (h2 : Rg u2 a2 b2) (h3 : Rg u3 a3 b3) (h4 : Rg u4 a4 b4) (o12 : b1 ≤ a2) (o13 : b1 ≤ a3) (o14 : b1 ≤ a4) (o23 : b2 ≤ a3) (o24 : b2 ≤ a4) (o34 : b3 ≤ a4) :
    ∀ (t t' : Nat) (u u' : Value), [u1, u2, u3, u4][t]? = some u → [u1, u2, u3, u4][t']? = some u' → t ≠ t' → u.ownBlock = none ∨ u.ownBlock ≠ u'.ownBlock := by
  intro t t' u u' ht ht' hne
  have l1 : t < 4 := by have := (List.getElem?_eq_some_iff.1 ht).1; simpa using this
  have l2 : t' < 4 := by have := (List.getElem?_eq_some_iff.1 ht').1; simpa using this
  have e1 : t = 0 ∨ t = 1 ∨ t = 2 ∨ t = 3 := by omega
  have e2 : t' = 0 ∨ t' = 1 ∨ t' = 2 ∨ t' = 3 := by omega
  have p12 := rg_ne h1 h2 o12
  have p13 := rg_ne h1 h3 o13
  have p14 := rg_ne h1 h4 o14
  have p23 := rg_ne h2 h3 o23
  have p24 := rg_ne h2 h4 o24
  have p34 := rg_ne h3 h4 o34
  rcases e1 with rfl | rfl | rfl | rfl <;> rcases e2 with rfl | rfl | rfl | rfl <;> first | (exact absurd rfl hne) | (simp at ht ht'; subst ht; subst ht'; first | exact p12.1 | exact p12.2 | exact p13.1 | exact p13.2 | exact p14.1 | exact p14.2 | exact p23.1 | exact p23.2 | exact p24.1 | exact p24.2 | exact p34.1 | exact p34.2)
set_option maxRecDepth 100000 in
theorem Six.Oc4.p0 {w : World} {B : Nat} {co : Option Addr} {cn cc : Nat} {cs : List Cl} {P : Nat → Nat} (h : Oc4 w B co cn cc cs P) : B ≤ P 0 := by
  rcases h.2 with ⟨_, _, _, h⟩ | ⟨_, _, _, h⟩
  · exact h
  · exact h.p0
set_option maxRecDepth 100000 in
set_option maxHeartbeats 32000000 in
theorem walk_PlainDecodes (ao : Option Addr) (bn cap : Nat) (d : List Int) (oo : Option Addr) (on oc : Nat) (o : List Int) (w : World) (ht : Tab w) (h0 : 0 < w.heap.size) (hs : Sl w ao bn cap d) (hs2 : Sl w oo on oc o) :
    Calls Tryd.prog 3 #[.slice ao bn cap, .slice oo on oc] w fun e w' => e = .returned (.bool true) ∧ Below w.heap.size w w' := by
  obtain ⟨i0, hi, hz0, hz1, hz2⟩ := info_parts info5
  have hsz : (Tryd.prog.info? 5).map (·.size) = some 1 := by rw [hi]; simp [hz1]
  have HAW := hidden (awake_any w ht h0)
  have HT := hidden ht
  have HS := hidden hs
  have HO := hidden hs2
  have HL := hidden hs.hlen
  have HL2 := hidden hs2.hlen
  have hr := hs.hroom
  have hr2 := hs2.hroom
  have HWD := hidden hs.wf
  have HWO := hidden hs2.wf
  obtain ⟨cs, hcs⟩ : ∃ cs, o.take bn = cs := ⟨_, rfl⟩
  have HCL : Hid (cs.length = Nat.min on bn) := hidden (by rw [← hcs, List.length_take, hs2.hlen]; exact Nat.min_comm _ _)
  have HCD : Hid (cs.length ≤ d.length) := hidden (by rw [← hcs, List.length_take, hs.hlen]; exact Nat.min_le_left _ _)
  have HCE := hidden hcs
  obtain ⟨X, hX⟩ : ∃ X, cs ++ d.drop cs.length = X := ⟨_, rfl⟩
  have HXL : Hid (X.length = bn) := hidden (by rw [← hX, List.length_append, List.length_drop, ← HL.out]; have := HCD.out; omega)
  have HXW : Hid (Wf X) := hidden (by rw [← hX]; exact Wf.append (by rw [← hcs]; exact hs2.wf.take _) (hs.wf.drop _))
  have HXE := hidden hX
  clear ht hs hs2 hi hz0 hz1 hz2 hcs hX
  go_enter Tryd.func3, Tryd.ntmps3
  go_wp2_with (first | (go_at_call 4; refine HAW.out.mono ?_; rintro e w1 ⟨rfl, hb1⟩; have HB1 := hidden hb1; clear hb1; refine Hid.out ?_))
  apply hidden
  clear HAW
  have HLE := hidden (Lent_any ao bn cap d w1 (HS.out.on (Nat.le_refl _) HB1.out))
  obtain ⟨G, hG⟩ : ∃ g, w1.heap.size = g := ⟨_, rfl⟩
  rw [hG] at HLE
  go_wp2_with (first | (go_at_call 5; refine HLE.out.mono ?_; rintro e w2 ⟨rfl, hk5, hb5⟩; have HKG2 := hidden hk5; have HBx := hidden hb5; clear hk5 hb5; refine Hid.out ?_))
  apply hidden
  rw [← hG] at HBx
  have HGG : Hid (w.heap.size ≤ G) := hidden (by rw [← hG]; exact HB1.out.size)
  have HLTG : Hid (G < w2.heap.size) := hidden (lt_some HKG2.out)
  have HB2 : Hid (Below w.heap.size w w2) := hidden (bl_go HB1.out (Nat.le_refl _) HBx.out)
  clear HB1 HBx HLE hG
  have HLE := hidden (Lent_any oo on oc o w2 (HO.out.on (Nat.le_refl _) HB2.out))
  obtain ⟨H, hH⟩ : ∃ g, w2.heap.size = g := ⟨_, rfl⟩
  rw [hH] at HLE
  go_wp2_with (first | (go_at_call 5; refine HLE.out.mono ?_; rintro e w3 ⟨rfl, hk5, hb5⟩; have HKH3 := hidden hk5; have HBx := hidden hb5; clear hk5 hb5; refine Hid.out ?_))
  apply hidden
  rw [← hH] at HBx
  have HGH : Hid (w.heap.size ≤ H) := hidden (by rw [← hH]; exact HB2.out.size)
  have HGLH : Hid (G < H) := hidden (by rw [← hH]; exact HLTG.out)
  have HLTH : Hid (H < w3.heap.size) := hidden (lt_some HKH3.out)
  have HB3 : Hid (Below w.heap.size w w3) := hidden (bl_go HB2.out (Nat.le_refl _) HBx.out)
  have HKG3 : Hid (Bk w3 _ _) := hidden (Bk.on HKG2.out HBx.out)
  clear HB2 HBx HKG2 HLE hH
  have HNGHG : Hid (¬ H = G) := hidden (by have := HGLH.out; omega)
  have HNGHH : Hid (¬ G = H) := hidden (by have := HGLH.out; omega)
  obtain ⟨M, hM⟩ : ∃ M, w3.heap.size = M := ⟨_, rfl⟩
  have HMH : Hid (G < M ∧ H < M ∧ w.heap.size ≤ M) := hidden (by have h1 := HLTH.out; have h2 := HGLH.out; have h3 := HB3.out.size; omega)
  have HSMx3 : Hid (M ≤ w3.heap.size) := hidden (by omega)
  clear hM HLTG HLTH
  have HE1 := hidden (decD6 (some ⟨G, 0, none⟩) bn (bn + 9) d w3 (bk_lent6 HKG3.out HL.out HWD.out hr) (HT.out.on HB3.out h0) (Nat.lt_of_lt_of_le h0 HB3.out.size))
  obtain ⟨lo1, hlo1⟩ : ∃ z, w3.heap.size = z := ⟨_, rfl⟩
  go_wp2_with (first | (go_at_call 6; refine HE1.out.mono ?_; rintro e w4 ⟨k1, c1o, c1n, c1c, rfl, HBx, HDQ⟩; refine Hid.out ?_))
  apply hidden
  rw [hlo1] at HDQ
  obtain ⟨hi1, hhi1⟩ : ∃ z, w4.heap.size = z := ⟨_, rfl⟩
  rw [hhi1] at HDQ
  have HDE1x4 := HDQ
  have HML1 : Hid (M ≤ lo1) := hidden (by rw [← hlo1]; exact HSMx3.out)
  have HLOHDE1G : Hid (G < lo1) := hidden (by have h1 := HML1.out; have h2 := HMH.out; omega)
  have HLOHDE1H : Hid (H < lo1) := hidden (by have h1 := HML1.out; have h2 := HMH.out; omega)
  have HHI1x4 : Hid (hi1 ≤ w4.heap.size) := hidden (by omega)
  have HB4 : Hid (Below w.heap.size w w4) := hidden (bl_go HB3.out (Nat.le_refl _) HBx.out)
  have HKG4 : Hid (Bk w4 _ _) := hidden (Bk.on HKG3.out HBx.out)
  have HKH4 : Hid (Bk w4 _ _) := hidden (Bk.on HKH3.out HBx.out)
  have HSMx4 : Hid (_ ≤ w4.heap.size) := hidden (Nat.le_trans HSMx3.out HBx.out.size)
  clear HB3 HBx HKG3 HKH3 HSMx3 HE1 hlo1 hhi1 HDQ
  have HE2 := hidden (decD6 (some ⟨G, 0, none⟩) bn (bn + 9) d w4 (bk_lent6 HKG4.out HL.out HWD.out hr) (HT.out.on HB4.out h0) (Nat.lt_of_lt_of_le h0 HB4.out.size))
  obtain ⟨lo2, hlo2⟩ : ∃ z, w4.heap.size = z := ⟨_, rfl⟩
  go_wp2_with (first | (go_at_call 6; refine HE2.out.mono ?_; rintro e w5 ⟨k2, c2o, c2n, c2c, rfl, HBx, HDQ⟩; refine Hid.out ?_))
  apply hidden
  rw [hlo2] at HDQ
  obtain ⟨hi2, hhi2⟩ : ∃ z, w5.heap.size = z := ⟨_, rfl⟩
  rw [hhi2] at HDQ
  have HDE2x5 := HDQ
  have HML2 : Hid (M ≤ lo2) := hidden (by rw [← hlo2]; exact HSMx4.out)
  have HLOHDE2G : Hid (G < lo2) := hidden (by have h1 := HML2.out; have h2 := HMH.out; omega)
  have HLOHDE2H : Hid (H < lo2) := hidden (by have h1 := HML2.out; have h2 := HMH.out; omega)
  have HHI2x5 : Hid (hi2 ≤ w5.heap.size) := hidden (by omega)
  have HOR12 : Hid (hi1 ≤ lo2) := hidden (by rw [← hlo2]; exact HHI1x4.out)
  have HB5 : Hid (Below w.heap.size w w5) := hidden (bl_go HB4.out (Nat.le_refl _) HBx.out)
  have HKG5 : Hid (Bk w5 _ _) := hidden (Bk.on HKG4.out HBx.out)
  have HKH5 : Hid (Bk w5 _ _) := hidden (Bk.on HKH4.out HBx.out)
  have HSMx5 : Hid (_ ≤ w5.heap.size) := hidden (Nat.le_trans HSMx4.out HBx.out.size)
  have HDE1x5 := hidden (HDE1x4.out.on HBx.out)
  have HHI1x5 : Hid (_ ≤ w5.heap.size) := hidden (Nat.le_trans HHI1x4.out HBx.out.size)
  clear HB4 HBx HKG4 HKH4 HSMx4 HDE1x4 HHI1x4 HE2 hlo2 hhi2 HDQ
  have HE3 := hidden (decD6 (some ⟨H, 0, none⟩) on (on + 9) o w5 (bk_lent6 HKH5.out HL2.out HWO.out hr2) (HT.out.on HB5.out h0) (Nat.lt_of_lt_of_le h0 HB5.out.size))
  obtain ⟨lo3, hlo3⟩ : ∃ z, w5.heap.size = z := ⟨_, rfl⟩
  go_wp2_with (first | (go_at_call 6; refine HE3.out.mono ?_; rintro e w6 ⟨k3, c3o, c3n, c3c, rfl, HBx, HDQ⟩; refine Hid.out ?_))
  apply hidden
  rw [hlo3] at HDQ
  obtain ⟨hi3, hhi3⟩ : ∃ z, w6.heap.size = z := ⟨_, rfl⟩
  rw [hhi3] at HDQ
  have HDE3x6 := HDQ
  have HML3 : Hid (M ≤ lo3) := hidden (by rw [← hlo3]; exact HSMx5.out)
  have HLOHDE3G : Hid (G < lo3) := hidden (by have h1 := HML3.out; have h2 := HMH.out; omega)
  have HLOHDE3H : Hid (H < lo3) := hidden (by have h1 := HML3.out; have h2 := HMH.out; omega)
  have HHI3x6 : Hid (hi3 ≤ w6.heap.size) := hidden (by omega)
  have HOR13 : Hid (hi1 ≤ lo3) := hidden (by rw [← hlo3]; exact HHI1x5.out)
  have HOR23 : Hid (hi2 ≤ lo3) := hidden (by rw [← hlo3]; exact HHI2x5.out)
  have HB6 : Hid (Below w.heap.size w w6) := hidden (bl_go HB5.out (Nat.le_refl _) HBx.out)
  have HKG6 : Hid (Bk w6 _ _) := hidden (Bk.on HKG5.out HBx.out)
  have HKH6 : Hid (Bk w6 _ _) := hidden (Bk.on HKH5.out HBx.out)
  have HSMx6 : Hid (_ ≤ w6.heap.size) := hidden (Nat.le_trans HSMx5.out HBx.out.size)
  have HDE1x6 := hidden (HDE1x5.out.on HBx.out)
  have HHI1x6 : Hid (_ ≤ w6.heap.size) := hidden (Nat.le_trans HHI1x5.out HBx.out.size)
  have HDE2x6 := hidden (HDE2x5.out.on HBx.out)
  have HHI2x6 : Hid (_ ≤ w6.heap.size) := hidden (Nat.le_trans HHI2x5.out HBx.out.size)
  clear HB5 HBx HKG5 HKH5 HSMx5 HDE1x5 HHI1x5 HDE2x5 HHI2x5 HE3 hlo3 hhi3 HDQ
  have HOP := hidden (openU6 (some ⟨G, 0, none⟩) bn (bn + 9) d w6 (bk_lent6 HKG6.out HL.out HWD.out hr) (HT.out.on HB6.out h0) (Nat.lt_of_lt_of_le h0 HB6.out.size))
  obtain ⟨lo6, hlo6⟩ : ∃ z, w6.heap.size = z := ⟨_, rfl⟩
  go_wp2_with (first | (go_at_call 7; refine HOP.out.mono ?_; rintro e w7 ⟨po, rfl, HBx, HPQ⟩; refine Hid.out ?_))
  apply hidden
  rw [hlo6] at HPQ
  have HPNx7 : Hid (Pn w7 d lo6 po) := HPQ
  have HML6 : Hid (M ≤ lo6) := hidden (by rw [← hlo6]; exact HSMx6.out)
  have HLOHPNG : Hid (G < lo6) := hidden (by have h1 := HML6.out; have h2 := HMH.out; omega)
  have HLOHPNH : Hid (H < lo6) := hidden (by have h1 := HML6.out; have h2 := HMH.out; omega)
  have HB7 : Hid (Below w.heap.size w w7) := hidden (bl_go HB6.out (Nat.le_refl _) HBx.out)
  have HKG7 : Hid (Bk w7 _ _) := hidden (Bk.on HKG6.out HBx.out)
  have HKH7 : Hid (Bk w7 _ _) := hidden (Bk.on HKH6.out HBx.out)
  have HSMx7 : Hid (_ ≤ w7.heap.size) := hidden (Nat.le_trans HSMx6.out HBx.out.size)
  have HDE1x7 := hidden (HDE1x6.out.on HBx.out)
  have HHI1x7 : Hid (_ ≤ w7.heap.size) := hidden (Nat.le_trans HHI1x6.out HBx.out.size)
  have HDE2x7 := hidden (HDE2x6.out.on HBx.out)
  have HHI2x7 : Hid (_ ≤ w7.heap.size) := hidden (Nat.le_trans HHI2x6.out HBx.out.size)
  have HDE3x7 := hidden (HDE3x6.out.on HBx.out)
  have HHI3x7 : Hid (_ ≤ w7.heap.size) := hidden (Nat.le_trans HHI3x6.out HBx.out.size)
  clear HB6 HBx HKG6 HKH6 HSMx6 HDE1x6 HHI1x6 HDE2x6 HHI2x6 HDE3x6 HHI3x6 HOP hlo6 HPQ
  have HE4 := hidden (decD6 (some ⟨G, 0, none⟩) bn (bn + 9) d w7 (bk_lent6 HKG7.out HL.out HWD.out hr) (HT.out.on HB7.out h0) (Nat.lt_of_lt_of_le h0 HB7.out.size))
  obtain ⟨lo4, hlo4⟩ : ∃ z, w7.heap.size = z := ⟨_, rfl⟩
  go_wp2_with (first | (go_at_call 6; refine HE4.out.mono ?_; rintro e w8 ⟨k4, c4o, c4n, c4c, rfl, HBx, HDQ⟩; refine Hid.out ?_))
  apply hidden
  rw [hlo4] at HDQ
  obtain ⟨hi4, hhi4⟩ : ∃ z, w8.heap.size = z := ⟨_, rfl⟩
  rw [hhi4] at HDQ
  have HDE4x8 := HDQ
  have HML4 : Hid (M ≤ lo4) := hidden (by rw [← hlo4]; exact HSMx7.out)
  have HLOHDE4G : Hid (G < lo4) := hidden (by have h1 := HML4.out; have h2 := HMH.out; omega)
  have HLOHDE4H : Hid (H < lo4) := hidden (by have h1 := HML4.out; have h2 := HMH.out; omega)
  have HHI4x8 : Hid (hi4 ≤ w8.heap.size) := hidden (by omega)
  have HOR14 : Hid (hi1 ≤ lo4) := hidden (by rw [← hlo4]; exact HHI1x7.out)
  have HOR24 : Hid (hi2 ≤ lo4) := hidden (by rw [← hlo4]; exact HHI2x7.out)
  have HOR34 : Hid (hi3 ≤ lo4) := hidden (by rw [← hlo4]; exact HHI3x7.out)
  have HB8 : Hid (Below w.heap.size w w8) := hidden (bl_go HB7.out (Nat.le_refl _) HBx.out)
  have HKG8 : Hid (Bk w8 _ _) := hidden (Bk.on HKG7.out HBx.out)
  have HKH8 : Hid (Bk w8 _ _) := hidden (Bk.on HKH7.out HBx.out)
  have HSMx8 : Hid (_ ≤ w8.heap.size) := hidden (Nat.le_trans HSMx7.out HBx.out.size)
  have HDE1x8 := hidden (HDE1x7.out.on HBx.out)
  have HHI1x8 : Hid (_ ≤ w8.heap.size) := hidden (Nat.le_trans HHI1x7.out HBx.out.size)
  have HDE2x8 := hidden (HDE2x7.out.on HBx.out)
  have HHI2x8 : Hid (_ ≤ w8.heap.size) := hidden (Nat.le_trans HHI2x7.out HBx.out.size)
  have HDE3x8 := hidden (HDE3x7.out.on HBx.out)
  have HHI3x8 : Hid (_ ≤ w8.heap.size) := hidden (Nat.le_trans HHI3x7.out HBx.out.size)
  have HPNx8 := hidden (HPNx7.out.on HBx.out)
  clear HB7 HBx HKG7 HKH7 HSMx7 HDE1x7 HHI1x7 HDE2x7 HHI2x7 HDE3x7 HHI3x7 HPNx7 HE4 hlo4 hhi4 HDQ
  obtain ⟨sd, hsd⟩ : ∃ sd, strOfNums d = sd := ⟨_, rfl⟩
  have q1 := conv_sl (bk_lent6 HKG8.out HL.out HWD.out hr)
  have q2 := conv_sl (HS.out.on (Nat.le_refl _) HB8.out)
  rw [hsd] at q1 q2
  have eS : (sd.toList == sd.toList) = true := by simp
  have HPP : Hid (0 < (By cs).length → some (⟨G, 0, none⟩ : Addr) = some ⟨G, 0, none⟩ ∧ ∃ ad, oo = some ad ∧ ∀ j v, (By cs)[j]? = some v → w8.cell? (ad.add j) = some v) := hidden (by
    intro h
    rw [By_length, ← HCE.out] at h
    rw [← HCE.out]
    exact ⟨rfl, src_take6 (HO.out.on (Nat.le_refl _) HB8.out) bn h⟩)
  go_wp2_with (refine copy_cf rfl _ _ 22 22 rfl 5 Tryd.underlying22 hsz _ _ bn (bn + 9) on oc rfl rfl G 0 (By (d ++ mks 9)) 5 HKG8.out (By cs) (by rw [By_length]; exact HCL.out) HPP.out (by rw [By_length, By_length, List.length_append]; have := HCD.out; omega) (By_one cs) ?_; refine Hid.out ?_)
  apply hidden
  intro w9 HH HC9
  have HKG9 : Hid (Bk w9 G (X ++ mks 9)) := hidden (by
    have e := HH.out
    rw [By_splice5, over_splice6 d cs HCD.out, HXE.out] at e
    exact e)
  have HB9 : Hid (Below w.heap.size w w9) := hidden (HB8.out.trans (HC9.out.below HB8.out.size (fun k hk e => by have := HGG.out; omega)))
  have HKH9 : Hid (Bk w9 _ _) := hidden (Bk.cf HKH8.out HC9.out HNGHG.out)
  have HSMx9 : Hid (_ ≤ w9.heap.size) := hidden (Nat.le_trans HSMx8.out HC9.out.size)
  have HDE1x9 := hidden (HDE1x8.out.cf HC9.out (by have := HLOHDE1G.out; omega))
  have HHI1x9 : Hid (_ ≤ w9.heap.size) := hidden (Nat.le_trans HHI1x8.out HC9.out.size)
  have HDE2x9 := hidden (HDE2x8.out.cf HC9.out (by have := HLOHDE2G.out; omega))
  have HHI2x9 : Hid (_ ≤ w9.heap.size) := hidden (Nat.le_trans HHI2x8.out HC9.out.size)
  have HDE3x9 := hidden (HDE3x8.out.cf HC9.out (by have := HLOHDE3G.out; omega))
  have HHI3x9 : Hid (_ ≤ w9.heap.size) := hidden (Nat.le_trans HHI3x8.out HC9.out.size)
  have HPNx9 := hidden (HPNx8.out.cf HC9.out (by have := HLOHPNG.out; omega) HKG8.out)
  have HDE4x9 := hidden (HDE4x8.out.cf HC9.out (by have := HLOHDE4G.out; omega))
  have HHI4x9 : Hid (_ ≤ w9.heap.size) := hidden (Nat.le_trans HHI4x8.out HC9.out.size)
  clear HB8 HKG8 HKH8 HSMx8 HDE1x8 HHI1x8 HDE2x8 HHI2x8 HDE3x8 HHI3x8 HPNx8 HDE4x8 HHI4x8 HH HC9 HPP q1 q2 eS hsd
  have HE5 := hidden (decD6 (some ⟨G, 0, none⟩) bn (bn + 9) X w9 (bk_lent6 HKG9.out HXL.out HXW.out hr) (HT.out.on HB9.out h0) (Nat.lt_of_lt_of_le h0 HB9.out.size))
  obtain ⟨lo5, hlo5⟩ : ∃ z, w9.heap.size = z := ⟨_, rfl⟩
  go_wp2_with (first | (go_at_call 6; refine HE5.out.mono ?_; rintro e w10 ⟨k5, c5o, c5n, c5c, rfl, HBx, HDQ⟩; refine Hid.out ?_))
  apply hidden
  rw [hlo5] at HDQ
  obtain ⟨hi5, hhi5⟩ : ∃ z, w10.heap.size = z := ⟨_, rfl⟩
  rw [hhi5] at HDQ
  have HDE5x10 := HDQ
  have HML5 : Hid (M ≤ lo5) := hidden (by rw [← hlo5]; exact HSMx9.out)
  have HLOHDE5G : Hid (G < lo5) := hidden (by have h1 := HML5.out; have h2 := HMH.out; omega)
  have HLOHDE5H : Hid (H < lo5) := hidden (by have h1 := HML5.out; have h2 := HMH.out; omega)
  have HB10 : Hid (Below w.heap.size w w10) := hidden (bl_go HB9.out (Nat.le_refl _) HBx.out)
  have HKG10 : Hid (Bk w10 _ _) := hidden (Bk.on HKG9.out HBx.out)
  have HKH10 : Hid (Bk w10 _ _) := hidden (Bk.on HKH9.out HBx.out)
  have HSMx10 : Hid (_ ≤ w10.heap.size) := hidden (Nat.le_trans HSMx9.out HBx.out.size)
  have HDE1x10 := hidden (HDE1x9.out.on HBx.out)
  have HHI1x10 : Hid (_ ≤ w10.heap.size) := hidden (Nat.le_trans HHI1x9.out HBx.out.size)
  have HDE2x10 := hidden (HDE2x9.out.on HBx.out)
  have HHI2x10 : Hid (_ ≤ w10.heap.size) := hidden (Nat.le_trans HHI2x9.out HBx.out.size)
  have HDE3x10 := hidden (HDE3x9.out.on HBx.out)
  have HHI3x10 : Hid (_ ≤ w10.heap.size) := hidden (Nat.le_trans HHI3x9.out HBx.out.size)
  have HPNx10 := hidden (HPNx9.out.on HBx.out)
  have HDE4x10 := hidden (HDE4x9.out.on HBx.out)
  have HHI4x10 : Hid (_ ≤ w10.heap.size) := hidden (Nat.le_trans HHI4x9.out HBx.out.size)
  clear HB9 HBx HKG9 HKH9 HSMx9 HDE1x9 HHI1x9 HDE2x9 HHI2x9 HDE3x9 HHI3x9 HPNx9 HDE4x9 HHI4x9 HE5 hlo5 hhi5 HDQ
  have HSL : Hid (Sl w10 (some ⟨G, 0, none⟩) bn (bn + 9) X) := hidden (bk_lent6 HKG10.out HXL.out HXW.out hr)
  have HN0 : Hid (OwnB w10 w10.heap.size (.slice none 0 0) []) := hidden (OwnB.nil _ _)
  have h66 : w10.heap.size ≤ w10.heap.size := Nat.le_refl _
  have hr6 : 0 + bn ≤ 140737488355328 := by omega
  go_wp2_with (at_builtin; refine app_sl _ rfl _ _ rfl w10.heap.size [] X _ (some ⟨G, 0, none⟩) bn (bn + 9) rfl rfl HN0.out HSL.out hr6 h66 ?_; refine Hid.out ?_)
  apply hidden
  intro v7 w11 ho7 hg7
  have HBx : Hid (Below w10.heap.size w10 w11) := hidden (hg7.below HN0.out h66)
  obtain ⟨vo, vc, rfl, _⟩ := own_shape ho7
  have HV7 : Hid (OwnB w11 w10.heap.size (.slice vo bn vc) X) := hidden (by
    have := ho7
    simp only [HXL.out] at this
    exact this)
  have hvl : ([] ++ X : List Int).length = bn := by rw [List.nil_append, HXL.out]
  first | rw [hvl] | rw [HXL.out]
  have HVX : Hid (bn = 0 ∨ ∀ p, vo = some p → M ≤ p.block) := hidden (.inr fun p hp => by subst hp; exact Nat.le_trans HSMx10.out (own_in HV7.out (k := p.block) rfl).1)
  have HFHVOG : Hid (bn = 0 ∨ ∀ p, vo = some p → ¬ p.block = G) := hidden (HVX.out.imp id fun h p hp e => by have h1 := h p hp; have h2 := HMH.out; omega)
  have HFHVOH : Hid (bn = 0 ∨ ∀ p, vo = some p → ¬ p.block = H) := hidden (HVX.out.imp id fun h p hp e => by have h1 := h p hp; have h2 := HMH.out; omega)
  have HVOx11 : Hid (Sl w11 vo bn vc X) := hidden (HV7.out.sl2 HXW.out (by rw [HXL.out]; exact hr))
  have HB11 : Hid (Below w.heap.size w w11) := hidden (bl_go HB10.out (Nat.le_refl _) HBx.out)
  have HKG11 : Hid (Bk w11 _ _) := hidden (Bk.on HKG10.out HBx.out)
  have HKH11 : Hid (Bk w11 _ _) := hidden (Bk.on HKH10.out HBx.out)
  have HSMx11 : Hid (_ ≤ w11.heap.size) := hidden (Nat.le_trans HSMx10.out HBx.out.size)
  have HDE1x11 := hidden (HDE1x10.out.on HBx.out)
  have HHI1x11 : Hid (_ ≤ w11.heap.size) := hidden (Nat.le_trans HHI1x10.out HBx.out.size)
  have HDE2x11 := hidden (HDE2x10.out.on HBx.out)
  have HHI2x11 : Hid (_ ≤ w11.heap.size) := hidden (Nat.le_trans HHI2x10.out HBx.out.size)
  have HDE3x11 := hidden (HDE3x10.out.on HBx.out)
  have HHI3x11 : Hid (_ ≤ w11.heap.size) := hidden (Nat.le_trans HHI3x10.out HBx.out.size)
  have HPNx11 := hidden (HPNx10.out.on HBx.out)
  have HDE4x11 := hidden (HDE4x10.out.on HBx.out)
  have HHI4x11 : Hid (_ ≤ w11.heap.size) := hidden (Nat.le_trans HHI4x10.out HBx.out.size)
  have HDE5x11 := hidden (HDE5x10.out.on HBx.out)
  clear HB10 HBx HKG10 HKH10 HSMx10 HDE1x10 HHI1x10 HDE2x10 HHI2x10 HDE3x10 HHI3x10 HPNx10 HDE4x10 HHI4x10 HDE5x10 ho7 hg7 hvl HV7 HSL HN0 h66 HVX
  have HTD := hidden (told6_any k1 c1o c1n c1c (edE d) ao bn cap d w11 (HS.out.on (Nat.le_refl _) HB11.out) HDE1x11.out.tld)
  go_wp2_with (first | (go_at_call 8; refine HTD.out.mono ?_; rintro e w12 ⟨rfl, HBx⟩; refine Hid.out ?_))
  apply hidden
  have HB12 : Hid (Below w.heap.size w w12) := hidden (bl_go HB11.out (Nat.le_refl _) HBx.out)
  have HKG12 : Hid (Bk w12 _ _) := hidden (Bk.on HKG11.out HBx.out)
  have HKH12 : Hid (Bk w12 _ _) := hidden (Bk.on HKH11.out HBx.out)
  have HSMx12 : Hid (_ ≤ w12.heap.size) := hidden (Nat.le_trans HSMx11.out HBx.out.size)
  have HDE1x12 := hidden (HDE1x11.out.on HBx.out)
  have HHI1x12 : Hid (_ ≤ w12.heap.size) := hidden (Nat.le_trans HHI1x11.out HBx.out.size)
  have HDE2x12 := hidden (HDE2x11.out.on HBx.out)
  have HHI2x12 : Hid (_ ≤ w12.heap.size) := hidden (Nat.le_trans HHI2x11.out HBx.out.size)
  have HDE3x12 := hidden (HDE3x11.out.on HBx.out)
  have HHI3x12 : Hid (_ ≤ w12.heap.size) := hidden (Nat.le_trans HHI3x11.out HBx.out.size)
  have HPNx12 := hidden (HPNx11.out.on HBx.out)
  have HDE4x12 := hidden (HDE4x11.out.on HBx.out)
  have HHI4x12 : Hid (_ ≤ w12.heap.size) := hidden (Nat.le_trans HHI4x11.out HBx.out.size)
  have HDE5x12 := hidden (HDE5x11.out.on HBx.out)
  have HVOx12 := hidden (HVOx11.out.on (Nat.le_refl _) HBx.out)
  clear HB11 HBx HKG11 HKH11 HSMx11 HDE1x11 HHI1x11 HDE2x11 HHI2x11 HDE3x11 HHI3x11 HPNx11 HDE4x11 HHI4x11 HDE5x11 HVOx11 HTD
  have HTD := hidden (told6_any k2 c2o c2n c2c (edE d) ao bn cap d w12 (HS.out.on (Nat.le_refl _) HB12.out) HDE2x12.out.tld)
  go_wp2_with (first | (go_at_call 8; refine HTD.out.mono ?_; rintro e w13 ⟨rfl, HBx⟩; refine Hid.out ?_))
  apply hidden
  have HB13 : Hid (Below w.heap.size w w13) := hidden (bl_go HB12.out (Nat.le_refl _) HBx.out)
  have HKG13 : Hid (Bk w13 _ _) := hidden (Bk.on HKG12.out HBx.out)
  have HKH13 : Hid (Bk w13 _ _) := hidden (Bk.on HKH12.out HBx.out)
  have HSMx13 : Hid (_ ≤ w13.heap.size) := hidden (Nat.le_trans HSMx12.out HBx.out.size)
  have HDE1x13 := hidden (HDE1x12.out.on HBx.out)
  have HHI1x13 : Hid (_ ≤ w13.heap.size) := hidden (Nat.le_trans HHI1x12.out HBx.out.size)
  have HDE2x13 := hidden (HDE2x12.out.on HBx.out)
  have HHI2x13 : Hid (_ ≤ w13.heap.size) := hidden (Nat.le_trans HHI2x12.out HBx.out.size)
  have HDE3x13 := hidden (HDE3x12.out.on HBx.out)
  have HHI3x13 : Hid (_ ≤ w13.heap.size) := hidden (Nat.le_trans HHI3x12.out HBx.out.size)
  have HPNx13 := hidden (HPNx12.out.on HBx.out)
  have HDE4x13 := hidden (HDE4x12.out.on HBx.out)
  have HHI4x13 : Hid (_ ≤ w13.heap.size) := hidden (Nat.le_trans HHI4x12.out HBx.out.size)
  have HDE5x13 := hidden (HDE5x12.out.on HBx.out)
  have HVOx13 := hidden (HVOx12.out.on (Nat.le_refl _) HBx.out)
  clear HB12 HBx HKG12 HKH12 HSMx12 HDE1x12 HHI1x12 HDE2x12 HHI2x12 HDE3x12 HHI3x12 HPNx12 HDE4x12 HHI4x12 HDE5x12 HVOx12 HTD
  have HTD := hidden (told6_any k3 c3o c3n c3c (edE o) oo on oc o w13 (HO.out.on (Nat.le_refl _) HB13.out) HDE3x13.out.tld)
  go_wp2_with (first | (go_at_call 8; refine HTD.out.mono ?_; rintro e w14 ⟨rfl, HBx⟩; refine Hid.out ?_))
  apply hidden
  have HB14 : Hid (Below w.heap.size w w14) := hidden (bl_go HB13.out (Nat.le_refl _) HBx.out)
  have HKG14 : Hid (Bk w14 _ _) := hidden (Bk.on HKG13.out HBx.out)
  have HKH14 : Hid (Bk w14 _ _) := hidden (Bk.on HKH13.out HBx.out)
  have HSMx14 : Hid (_ ≤ w14.heap.size) := hidden (Nat.le_trans HSMx13.out HBx.out.size)
  have HDE1x14 := hidden (HDE1x13.out.on HBx.out)
  have HHI1x14 : Hid (_ ≤ w14.heap.size) := hidden (Nat.le_trans HHI1x13.out HBx.out.size)
  have HDE2x14 := hidden (HDE2x13.out.on HBx.out)
  have HHI2x14 : Hid (_ ≤ w14.heap.size) := hidden (Nat.le_trans HHI2x13.out HBx.out.size)
  have HDE3x14 := hidden (HDE3x13.out.on HBx.out)
  have HHI3x14 : Hid (_ ≤ w14.heap.size) := hidden (Nat.le_trans HHI3x13.out HBx.out.size)
  have HPNx14 := hidden (HPNx13.out.on HBx.out)
  have HDE4x14 := hidden (HDE4x13.out.on HBx.out)
  have HHI4x14 : Hid (_ ≤ w14.heap.size) := hidden (Nat.le_trans HHI4x13.out HBx.out.size)
  have HDE5x14 := hidden (HDE5x13.out.on HBx.out)
  have HVOx14 := hidden (HVOx13.out.on (Nat.le_refl _) HBx.out)
  clear HB13 HBx HKG13 HKH13 HSMx13 HDE1x13 HHI1x13 HDE2x13 HHI2x13 HDE3x13 HHI3x13 HPNx13 HDE4x13 HHI4x13 HDE5x13 HVOx13 HTD
  have HTD := hidden (told6_any k4 c4o c4n c4c (edE d) ao bn cap d w14 (HS.out.on (Nat.le_refl _) HB14.out) HDE4x14.out.tld)
  go_wp2_with (first | (go_at_call 8; refine HTD.out.mono ?_; rintro e w15 ⟨rfl, HBx⟩; refine Hid.out ?_))
  apply hidden
  have HB15 : Hid (Below w.heap.size w w15) := hidden (bl_go HB14.out (Nat.le_refl _) HBx.out)
  have HKG15 : Hid (Bk w15 _ _) := hidden (Bk.on HKG14.out HBx.out)
  have HKH15 : Hid (Bk w15 _ _) := hidden (Bk.on HKH14.out HBx.out)
  have HSMx15 : Hid (_ ≤ w15.heap.size) := hidden (Nat.le_trans HSMx14.out HBx.out.size)
  have HDE1x15 := hidden (HDE1x14.out.on HBx.out)
  have HHI1x15 : Hid (_ ≤ w15.heap.size) := hidden (Nat.le_trans HHI1x14.out HBx.out.size)
  have HDE2x15 := hidden (HDE2x14.out.on HBx.out)
  have HHI2x15 : Hid (_ ≤ w15.heap.size) := hidden (Nat.le_trans HHI2x14.out HBx.out.size)
  have HDE3x15 := hidden (HDE3x14.out.on HBx.out)
  have HHI3x15 : Hid (_ ≤ w15.heap.size) := hidden (Nat.le_trans HHI3x14.out HBx.out.size)
  have HPNx15 := hidden (HPNx14.out.on HBx.out)
  have HDE4x15 := hidden (HDE4x14.out.on HBx.out)
  have HHI4x15 : Hid (_ ≤ w15.heap.size) := hidden (Nat.le_trans HHI4x14.out HBx.out.size)
  have HDE5x15 := hidden (HDE5x14.out.on HBx.out)
  have HVOx15 := hidden (HVOx14.out.on (Nat.le_refl _) HBx.out)
  clear HB14 HBx HKG14 HKH14 HSMx14 HDE1x14 HHI1x14 HDE2x14 HHI2x14 HDE3x14 HHI3x14 HPNx14 HDE4x14 HHI4x14 HDE5x14 HVOx14 HTD
  have HTD := hidden (told6_any k5 c5o c5n c5c (edE X) vo bn vc X w15 HVOx15.out HDE5x15.out.tld)
  go_wp2_with (first | (go_at_call 8; refine HTD.out.mono ?_; rintro e w16 ⟨rfl, HBx⟩; refine Hid.out ?_))
  apply hidden
  have HB16 : Hid (Below w.heap.size w w16) := hidden (bl_go HB15.out (Nat.le_refl _) HBx.out)
  have HKG16 : Hid (Bk w16 _ _) := hidden (Bk.on HKG15.out HBx.out)
  have HKH16 : Hid (Bk w16 _ _) := hidden (Bk.on HKH15.out HBx.out)
  have HSMx16 : Hid (_ ≤ w16.heap.size) := hidden (Nat.le_trans HSMx15.out HBx.out.size)
  have HDE1x16 := hidden (HDE1x15.out.on HBx.out)
  have HHI1x16 : Hid (_ ≤ w16.heap.size) := hidden (Nat.le_trans HHI1x15.out HBx.out.size)
  have HDE2x16 := hidden (HDE2x15.out.on HBx.out)
  have HHI2x16 : Hid (_ ≤ w16.heap.size) := hidden (Nat.le_trans HHI2x15.out HBx.out.size)
  have HDE3x16 := hidden (HDE3x15.out.on HBx.out)
  have HHI3x16 : Hid (_ ≤ w16.heap.size) := hidden (Nat.le_trans HHI3x15.out HBx.out.size)
  have HPNx16 := hidden (HPNx15.out.on HBx.out)
  have HDE4x16 := hidden (HDE4x15.out.on HBx.out)
  have HHI4x16 : Hid (_ ≤ w16.heap.size) := hidden (Nat.le_trans HHI4x15.out HBx.out.size)
  have HDE5x16 := hidden (HDE5x15.out.on HBx.out)
  have HVOx16 := hidden (HVOx15.out.on (Nat.le_refl _) HBx.out)
  clear HB15 HBx HKG15 HKH15 HSMx15 HDE1x15 HHI1x15 HDE2x15 HHI2x15 HDE3x15 HHI3x15 HPNx15 HDE4x15 HHI4x15 HDE5x15 HVOx15 HTD
  clear HDE5x16
  have HAS := hidden (AsLent_any G bn vo vc X w16 HKG16.out HVOx16.out)
  go_wp2_with (first | (go_at_call 9; refine HAS.out.mono ?_; rintro e w17 ⟨rfl, hc9⟩; have HCX := hidden hc9; clear hc9; refine Hid.out ?_))
  apply hidden
  have HB17 : Hid (Below w.heap.size w w17) := hidden (HB16.out.trans (HCX.out.below HB16.out.size (fun k hk e => by have := HGG.out; omega)))
  have HKH17 : Hid (Bk w17 _ _) := hidden (Bk.cf HKH16.out HCX.out HNGHG.out)
  have HSMx17 : Hid (_ ≤ w17.heap.size) := hidden (Nat.le_trans HSMx16.out HCX.out.size)
  have HDE1x17 := hidden (HDE1x16.out.cf HCX.out (by have := HLOHDE1G.out; omega))
  have HHI1x17 : Hid (_ ≤ w17.heap.size) := hidden (Nat.le_trans HHI1x16.out HCX.out.size)
  have HDE2x17 := hidden (HDE2x16.out.cf HCX.out (by have := HLOHDE2G.out; omega))
  have HHI2x17 : Hid (_ ≤ w17.heap.size) := hidden (Nat.le_trans HHI2x16.out HCX.out.size)
  have HDE3x17 := hidden (HDE3x16.out.cf HCX.out (by have := HLOHDE3G.out; omega))
  have HHI3x17 : Hid (_ ≤ w17.heap.size) := hidden (Nat.le_trans HHI3x16.out HCX.out.size)
  have HPNx17 := hidden (HPNx16.out.cf HCX.out (by have := HLOHPNG.out; omega) HKG16.out)
  have HDE4x17 := hidden (HDE4x16.out.cf HCX.out (by have := HLOHDE4G.out; omega))
  have HHI4x17 : Hid (_ ≤ w17.heap.size) := hidden (Nat.le_trans HHI4x16.out HCX.out.size)
  have HVOx17 := hidden (HVOx16.out.cf HCX.out HFHVOG.out)
  clear HB16 HKG16 HKH16 HSMx16 HDE1x16 HHI1x16 HDE2x16 HHI2x16 HDE3x16 HHI3x16 HPNx16 HDE4x16 HHI4x16 HVOx16 HAS HCX
  clear HVOx17
  have HBS := hidden (AsLent_any H on oo oc o w17 HKH17.out (HO.out.on (Nat.le_refl _) HB17.out))
  go_wp2_with (first | (go_at_call 9; refine HBS.out.mono ?_; rintro e w18 ⟨rfl, hc9⟩; have HCX := hidden hc9; clear hc9; refine Hid.out ?_))
  apply hidden
  have HB18 : Hid (Below w.heap.size w w18) := hidden (HB17.out.trans (HCX.out.below HB17.out.size (fun k hk e => by have := HGH.out; omega)))
  have HSMx18 : Hid (_ ≤ w18.heap.size) := hidden (Nat.le_trans HSMx17.out HCX.out.size)
  have HDE1x18 := hidden (HDE1x17.out.cf HCX.out (by have := HLOHDE1H.out; omega))
  have HHI1x18 : Hid (_ ≤ w18.heap.size) := hidden (Nat.le_trans HHI1x17.out HCX.out.size)
  have HDE2x18 := hidden (HDE2x17.out.cf HCX.out (by have := HLOHDE2H.out; omega))
  have HHI2x18 : Hid (_ ≤ w18.heap.size) := hidden (Nat.le_trans HHI2x17.out HCX.out.size)
  have HDE3x18 := hidden (HDE3x17.out.cf HCX.out (by have := HLOHDE3H.out; omega))
  have HHI3x18 : Hid (_ ≤ w18.heap.size) := hidden (Nat.le_trans HHI3x17.out HCX.out.size)
  have HPNx18 := hidden (HPNx17.out.cf HCX.out (by have := HLOHPNH.out; omega) HKH17.out)
  have HDE4x18 := hidden (HDE4x17.out.cf HCX.out (by have := HLOHDE4H.out; omega))
  have HHI4x18 : Hid (_ ≤ w18.heap.size) := hidden (Nat.le_trans HHI4x17.out HCX.out.size)
  clear HB17 HKH17 HSMx17 HDE1x17 HHI1x17 HDE2x17 HHI2x17 HDE3x17 HHI3x17 HPNx17 HDE4x17 HHI4x17 HBS HCX
  obtain ⟨Ed, hEd⟩ : ∃ z, edE d = z := ⟨_, rfl⟩
  have HPQ := hidden HPNx18.out
  unfold Pn at HPQ
  rw [hEd] at HPQ ⊢
  have HEd := hidden hEd
  clear HPNx18 hEd
  rcases HPQ.out with ⟨rfl, rfl⟩ | ⟨a, bo, zn, bc, so, sn, sc, ls, rfl, rfl, hal, his, hlw, hbo, hpg⟩
  · clear HPQ
    go_wp2_with (first | (go_at_call 11; refine Hid.out ?_))
    apply hidden
    obtain ⟨bk, hbk⟩ : ∃ bk, w18.heap.size = bk := ⟨_, rfl⟩
    obtain ⟨x, hx⟩ : ∃ x, w18.alloc (.cells #[.slice none 0 0, .slice none 0 0] 41) = x := ⟨_, rfl⟩
    have hbx : Below w18.heap.size w18 x := by rw [← hx]; exact bl_al (Below.refl _ _) (Nat.le_refl _) _
    have HX0 : Hid (Six.Bo9 x M bk (.slice none 0 0) (.slice none 0 0) [] (fun _ => [])) := hidden (Six.box9 (by rw [← hx, ← hbk]; exact Array.getElem?_push_size))
    have HBKM : Hid (M ≤ bk) := hidden (by rw [← hbk]; exact HSMx18.out)
    have HGx : Hid (Below w.heap.size w x) := hidden (bl_go HB18.out (Nat.le_refl _) hbx)
    have HSx : Hid (M ≤ x.heap.size) := hidden (Nat.le_trans HSMx18.out hbx.size)
    have HZ1 := hidden (HDE1x18.out.on hbx)
    have HZ2 := hidden (HDE2x18.out.on hbx)
    have HZ3 := hidden (HDE3x18.out.on hbx)
    have HZ4 := hidden (HDE4x18.out.on hbx)
    have HYx : Hid (OwnY x M (.slice none 0 0) []) := hidden (OwnY.nil _ _)
    try rw [hx, hbk]
    clear hx hbk hbx HB18 HSMx18 HDE1x18 HHI1x18 HDE2x18 HHI2x18 HDE3x18 HHI3x18 HDE4x18 HHI4x18
    obtain ⟨l1, P1, a1, a2, a3, a4⟩ := HZ1.out
    obtain ⟨l2, P2, b1, b2, b3, b4⟩ := HZ2.out
    obtain ⟨l3, P3, d1, d2, d3, d4⟩ := HZ3.out
    obtain ⟨l4, P4, e1, e2, e3, e4⟩ := HZ4.out
    have HPU1 := hidden a1
    have HOC1 : Hid (Oc4 x M c1o c1n c1c l1 P1) := hidden (a2.low HML1.out)
    have HPT1 : Hid (P1 c1n ≤ hi1 ∧ lo1 ≤ P1 0) := hidden ⟨a3, a2.p0⟩
    have HRG1 := hidden a4
    have HCN1 : Hid (c1n ≤ 65536) := hidden (by rw [a2.1]; exact a1.len.1)
    have HPU2 := hidden b1
    have HOC2 : Hid (Oc4 x M c2o c2n c2c l2 P2) := hidden (b2.low HML2.out)
    have HPT2 : Hid (P2 c2n ≤ hi2 ∧ lo2 ≤ P2 0) := hidden ⟨b3, b2.p0⟩
    have HRG2 := hidden b4
    have HCN2 : Hid (c2n ≤ 65536) := hidden (by rw [b2.1]; exact b1.len.1)
    have HPU3 := hidden d1
    have HOC3 : Hid (Oc4 x M c3o c3n c3c l3 P3) := hidden (d2.low HML3.out)
    have HPT3 : Hid (P3 c3n ≤ hi3 ∧ lo3 ≤ P3 0) := hidden ⟨d3, d2.p0⟩
    have HRG3 := hidden d4
    have HCN3 : Hid (c3n ≤ 65536) := hidden (by rw [d2.1]; exact d1.len.1)
    have HPU4 := hidden e1
    have HOC4 : Hid (Oc4 x M c4o c4n c4c l4 P4) := hidden (e2.low HML4.out)
    have HPT4 : Hid (P4 c4n ≤ hi4 ∧ lo4 ≤ P4 0) := hidden ⟨e3, e2.p0⟩
    have HRG4 := hidden e4
    have HCN4 : Hid (c4n ≤ 65536) := hidden (by rw [e2.1]; exact e1.len.1)
    clear a1 a2 a3 a4 b1 b2 b3 b4 d1 d2 d3 d4 e1 e2 e3 e4 HZ1 HZ2 HZ3 HZ4
    have HTA := hidden (takeAll6 x M bk (.slice none 0 0) (.slice none 0 0) [] [] (fun _ => []) 0 c1o c1n c1c l1 P1 HX0.out HYx.out (by have := HCN1.out; simp; omega) (by have := HCN1.out; omega) (by simp) HSx.out HBKM.out HOC1.out HPU1.out.len.2.1 HPU1.out.len.2.2 (fun t u ht => by simp at ht) (Nat.zero_le _))
    refine HTA.out.mono ?_
    rintro e y1 ⟨rfl, lv1, bv1, V1, D1x, HX1, HY1, HVBq, HCq, HKq⟩
    have HVB1 : Hid (VB V1 (P1 c1n) ∧ V1.length = 2 * c1n) := hidden ⟨HVBq.out.1, by have := HVBq.out.2; simpa using this⟩
    have HGy1 : Hid (Below w.heap.size w y1) := hidden (HGx.out.trans (HCq.out.below HGx.out.size (fun k hk e => by have := HMH.out; omega)))
    have HSy1 : Hid (M ≤ y1.heap.size) := hidden (Nat.le_trans HSx.out HCq.out.size)
    have HOCn1 := hidden (HOC1.out.k3 HKq.out)
    have HOCn2 := hidden (HOC2.out.k3 HKq.out)
    have HOCn3 := hidden (HOC3.out.k3 HKq.out)
    have HOCn4 := hidden (HOC4.out.k3 HKq.out)
    clear HOC1 HOC2 HOC3 HOC4 HTA HVBq HCq HKq HGx HSx HX0 HYx
    have HOC1 := HOCn1
    have HOC2 := HOCn2
    have HOC3 := HOCn3
    have HOC4 := HOCn4
    clear HOCn1 HOCn2 HOCn3 HOCn4
    have HTA := hidden (takeAll6 y1 M bk lv1 bv1 V1 [.slice c1o c1n c1c] D1x (P1 c1n) c2o c2n c2c l2 P2 HX1.out HY1.out (by have h1 := HVB1.out.2; have := HCN2.out; have := HCN1.out; omega) (by have := HCN2.out; omega) (by simp) HSy1.out HBKM.out HOC2.out HPU2.out.len.2.1 HPU2.out.len.2.2 HVB1.out.1 (by have h1 := HPT1.out.1; have h2 := HOR12.out; have h3 := HPT2.out.2; omega))
    go_wp2_with (first | (go_at_call 11; refine HTA.out.mono ?_; rintro e y2 ⟨rfl, lv2, bv2, V2, D2x, HX2, HY2, HVBq, HCq, HKq⟩; refine Hid.out ?_))
    apply hidden
    have HVB2 : Hid (VB V2 (P2 c2n) ∧ V2.length = 2 * c1n + 2 * c2n) := hidden ⟨HVBq.out.1, by have h1 := HVBq.out.2; have h2 := HVB1.out.2; omega⟩
    have HGy2 : Hid (Below w.heap.size w y2) := hidden (HGy1.out.trans (HCq.out.below HGy1.out.size (fun k hk e => by have := HMH.out; omega)))
    have HSy2 : Hid (M ≤ y2.heap.size) := hidden (Nat.le_trans HSy1.out HCq.out.size)
    have HOCn1 := hidden (HOC1.out.k3 HKq.out)
    have HOCn2 := hidden (HOC2.out.k3 HKq.out)
    have HOCn3 := hidden (HOC3.out.k3 HKq.out)
    have HOCn4 := hidden (HOC4.out.k3 HKq.out)
    clear HOC1 HOC2 HOC3 HOC4 HTA HVBq HCq HKq HGy1 HSy1 HX1 HY1
    have HOC1 := HOCn1
    have HOC2 := HOCn2
    have HOC3 := HOCn3
    have HOC4 := HOCn4
    clear HOCn1 HOCn2 HOCn3 HOCn4
    have HTA := hidden (takeAll6 y2 M bk lv2 bv2 V2 [.slice c1o c1n c1c, .slice c2o c2n c2c] D2x (P2 c2n) c3o c3n c3c l3 P3 HX2.out HY2.out (by have h1 := HVB2.out.2; have := HCN3.out; have := HCN1.out; have := HCN2.out; omega) (by have := HCN3.out; omega) (by simp) HSy2.out HBKM.out HOC3.out HPU3.out.len.2.1 HPU3.out.len.2.2 HVB2.out.1 (by have h1 := HPT2.out.1; have h2 := HOR23.out; have h3 := HPT3.out.2; omega))
    go_wp2_with (first | (go_at_call 11; refine HTA.out.mono ?_; rintro e y3 ⟨rfl, lv3, bv3, V3, D3x, HX3, HY3, HVBq, HCq, HKq⟩; refine Hid.out ?_))
    apply hidden
    have HVB3 : Hid (VB V3 (P3 c3n) ∧ V3.length = 2 * c1n + 2 * c2n + 2 * c3n) := hidden ⟨HVBq.out.1, by have h1 := HVBq.out.2; have h2 := HVB2.out.2; omega⟩
    have HGy3 : Hid (Below w.heap.size w y3) := hidden (HGy2.out.trans (HCq.out.below HGy2.out.size (fun k hk e => by have := HMH.out; omega)))
    have HSy3 : Hid (M ≤ y3.heap.size) := hidden (Nat.le_trans HSy2.out HCq.out.size)
    have HOCn1 := hidden (HOC1.out.k3 HKq.out)
    have HOCn2 := hidden (HOC2.out.k3 HKq.out)
    have HOCn3 := hidden (HOC3.out.k3 HKq.out)
    have HOCn4 := hidden (HOC4.out.k3 HKq.out)
    clear HOC1 HOC2 HOC3 HOC4 HTA HVBq HCq HKq HGy2 HSy2 HX2 HY2
    have HOC1 := HOCn1
    have HOC2 := HOCn2
    have HOC3 := HOCn3
    have HOC4 := HOCn4
    clear HOCn1 HOCn2 HOCn3 HOCn4
    have HTA := hidden (takeAll6 y3 M bk lv3 bv3 V3 [.slice c1o c1n c1c, .slice c2o c2n c2c, .slice c3o c3n c3c] D3x (P3 c3n) c4o c4n c4c l4 P4 HX3.out HY3.out (by have h1 := HVB3.out.2; have := HCN4.out; have := HCN1.out; have := HCN2.out; have := HCN3.out; omega) (by have := HCN4.out; omega) (by simp) HSy3.out HBKM.out HOC4.out HPU4.out.len.2.1 HPU4.out.len.2.2 HVB3.out.1 (by have h1 := HPT3.out.1; have h2 := HOR34.out; have h3 := HPT4.out.2; omega))
    go_wp2_with (first | (go_at_call 11; refine HTA.out.mono ?_; rintro e y4 ⟨rfl, lv4, bv4, V4, D4x, HX4, HY4, HVBq, HCq, HKq⟩; refine Hid.out ?_))
    apply hidden
    have HVB4 : Hid (VB V4 (P4 c4n) ∧ V4.length = 2 * c1n + 2 * c2n + 2 * c3n + 2 * c4n) := hidden ⟨HVBq.out.1, by have h1 := HVBq.out.2; have h2 := HVB3.out.2; omega⟩
    have HGy4 : Hid (Below w.heap.size w y4) := hidden (HGy3.out.trans (HCq.out.below HGy3.out.size (fun k hk e => by have := HMH.out; omega)))
    have HSy4 : Hid (M ≤ y4.heap.size) := hidden (Nat.le_trans HSy3.out HCq.out.size)
    have HOCn1 := hidden (HOC1.out.k3 HKq.out)
    have HOCn2 := hidden (HOC2.out.k3 HKq.out)
    have HOCn3 := hidden (HOC3.out.k3 HKq.out)
    have HOCn4 := hidden (HOC4.out.k3 HKq.out)
    clear HOC1 HOC2 HOC3 HOC4 HTA HVBq HCq HKq HGy3 HSy3 HX3 HY3
    have HOC1 := HOCn1
    have HOC2 := HOCn2
    have HOC3 := HOCn3
    have HOC4 := HOCn4
    clear HOCn1 HOCn2 HOCn3 HOCn4
    have HOW := hidden (owned6 y4 M bk 4 lv4 bv4 V4 [.slice c1o c1n c1c, .slice c2o c2n c2c, .slice c3o c3n c3c, .slice c4o c4n c4c] D4x (fun t => if t = 0 then c1n else if t = 1 then c2n else if t = 2 then c3n else if t = 3 then c4n else 0) HX4.out (by have h1 := HVB4.out.2; have h2 := HCN1.out; have h3 := HCN2.out; have h4 := HCN3.out; have h5 := HCN4.out; omega) HY4.out rfl (by omega) (fun t u ht => by
      have ht2 : t < 4 := by have := (List.getElem?_eq_some_iff.1 ht).1; simpa using this
      have h4 : t = 0 ∨ t = 1 ∨ t = 2 ∨ t = 3 := by omega
      rcases h4 with rfl | rfl | rfl | rfl
      · simp at ht
        subst ht
        exact HOC1.out.ownP (by rw [← HOC1.out.1]; exact HCN1.out)
      · simp at ht
        subst ht
        exact HOC2.out.ownP (by rw [← HOC2.out.1]; exact HCN2.out)
      · simp at ht
        subst ht
        exact HOC3.out.ownP (by rw [← HOC3.out.1]; exact HCN3.out)
      · simp at ht
        subst ht
        exact HOC4.out.ownP (by rw [← HOC4.out.1]; exact HCN4.out)
      ) (four_ne HRG1.out HRG2.out HRG3.out HRG4.out HOR12.out HOR13.out HOR14.out HOR23.out HOR24.out HOR34.out) (fun t => by have h2 := HCN1.out; have h3 := HCN2.out; have h4 := HCN3.out; have h5 := HCN4.out; exact four_le _ _ _ _ t h2 h3 h4 h5) HSy4.out)
    go_wp2_with (first | (go_at_call 12; refine HOW.out.mono ?_; rintro e y5 ⟨rfl, HYq⟩))
    go_ret
    exact ⟨rfl, HGy4.out.trans (HYq.out.below HGy4.out.size (fun k hk e => by have := HMH.out; omega))⟩
  · have HIS := hidden his
    have HLW := hidden hlw
    clear HPQ hal hbo
    have HBY := hidden (bytes_any w18 a _ _ bo zn bc so sn sc ls hpg his.kd his.sz his.fit (HT.out.on HB18.out h0) (Nat.lt_of_lt_of_le h0 HB18.out.size) hlw)
    rw [his.eq] at HBY
    rw [HL.out] at HBY
    clear hpg his hlw
    go_wp2_with (first | (go_at_call 10; refine HBY.out.mono ?_; rintro e w19 ⟨gz, rfl, hgz, HBK, HBx⟩; refine Hid.out ?_))
    apply hidden
    have HB19 : Hid (Below w.heap.size w w19) := hidden (bl_go HB18.out (Nat.le_refl _) HBx.out)
    have HSMx19 : Hid (_ ≤ w19.heap.size) := hidden (Nat.le_trans HSMx18.out HBx.out.size)
    have HDE1x19 := hidden (HDE1x18.out.on HBx.out)
    have HHI1x19 : Hid (_ ≤ w19.heap.size) := hidden (Nat.le_trans HHI1x18.out HBx.out.size)
    have HDE2x19 := hidden (HDE2x18.out.on HBx.out)
    have HHI2x19 : Hid (_ ≤ w19.heap.size) := hidden (Nat.le_trans HHI2x18.out HBx.out.size)
    have HDE3x19 := hidden (HDE3x18.out.on HBx.out)
    have HHI3x19 : Hid (_ ≤ w19.heap.size) := hidden (Nat.le_trans HHI3x18.out HBx.out.size)
    have HDE4x19 := hidden (HDE4x18.out.on HBx.out)
    have HHI4x19 : Hid (_ ≤ w19.heap.size) := hidden (Nat.le_trans HHI4x18.out HBx.out.size)
    clear HB18 HBx HSMx18 HDE1x18 HHI1x18 HDE2x18 HHI2x18 HDE3x18 HHI3x18 HDE4x18 HHI4x18 HBY hgz
    have q1 := conv_sl (Bk.sl HBK.out HL.out HWD.out hr)
    have q2 := conv_sl (HS.out.on (Nat.le_refl _) HB19.out)
    obtain ⟨sd, hsd⟩ : ∃ sd, strOfNums d = sd := ⟨_, rfl⟩
    rw [hsd] at q1 q2
    have eS : (sd.toList == sd.toList) = true := by simp
    have eS2 : (sd.toList != sd.toList) = false := by simp
    clear hsd HBK
    go_wp2_with (first | (go_at_call 11; refine Hid.out ?_))
    apply hidden
    obtain ⟨bk, hbk⟩ : ∃ bk, w19.heap.size = bk := ⟨_, rfl⟩
    obtain ⟨x, hx⟩ : ∃ x, w19.alloc (.cells #[.slice none 0 0, .slice none 0 0] 41) = x := ⟨_, rfl⟩
    have hbx : Below w19.heap.size w19 x := by rw [← hx]; exact bl_al (Below.refl _ _) (Nat.le_refl _) _
    have HX0 : Hid (Six.Bo9 x M bk (.slice none 0 0) (.slice none 0 0) [] (fun _ => [])) := hidden (Six.box9 (by rw [← hx, ← hbk]; exact Array.getElem?_push_size))
    have HBKM : Hid (M ≤ bk) := hidden (by rw [← hbk]; exact HSMx19.out)
    have HGx : Hid (Below w.heap.size w x) := hidden (bl_go HB19.out (Nat.le_refl _) hbx)
    have HSx : Hid (M ≤ x.heap.size) := hidden (Nat.le_trans HSMx19.out hbx.size)
    have HZ1 := hidden (HDE1x19.out.on hbx)
    have HZ2 := hidden (HDE2x19.out.on hbx)
    have HZ3 := hidden (HDE3x19.out.on hbx)
    have HZ4 := hidden (HDE4x19.out.on hbx)
    have HYx : Hid (OwnY x M (.slice none 0 0) []) := hidden (OwnY.nil _ _)
    try rw [hx, hbk]
    clear hx hbk hbx HB19 HSMx19 HDE1x19 HHI1x19 HDE2x19 HHI2x19 HDE3x19 HHI3x19 HDE4x19 HHI4x19
    obtain ⟨l1, P1, a1, a2, a3, a4⟩ := HZ1.out
    obtain ⟨l2, P2, b1, b2, b3, b4⟩ := HZ2.out
    obtain ⟨l3, P3, d1, d2, d3, d4⟩ := HZ3.out
    obtain ⟨l4, P4, e1, e2, e3, e4⟩ := HZ4.out
    have HPU1 := hidden a1
    have HOC1 : Hid (Oc4 x M c1o c1n c1c l1 P1) := hidden (a2.low HML1.out)
    have HPT1 : Hid (P1 c1n ≤ hi1 ∧ lo1 ≤ P1 0) := hidden ⟨a3, a2.p0⟩
    have HRG1 := hidden a4
    have HCN1 : Hid (c1n ≤ 65536) := hidden (by rw [a2.1]; exact a1.len.1)
    have HPU2 := hidden b1
    have HOC2 : Hid (Oc4 x M c2o c2n c2c l2 P2) := hidden (b2.low HML2.out)
    have HPT2 : Hid (P2 c2n ≤ hi2 ∧ lo2 ≤ P2 0) := hidden ⟨b3, b2.p0⟩
    have HRG2 := hidden b4
    have HCN2 : Hid (c2n ≤ 65536) := hidden (by rw [b2.1]; exact b1.len.1)
    have HPU3 := hidden d1
    have HOC3 : Hid (Oc4 x M c3o c3n c3c l3 P3) := hidden (d2.low HML3.out)
    have HPT3 : Hid (P3 c3n ≤ hi3 ∧ lo3 ≤ P3 0) := hidden ⟨d3, d2.p0⟩
    have HRG3 := hidden d4
    have HCN3 : Hid (c3n ≤ 65536) := hidden (by rw [d2.1]; exact d1.len.1)
    have HPU4 := hidden e1
    have HOC4 : Hid (Oc4 x M c4o c4n c4c l4 P4) := hidden (e2.low HML4.out)
    have HPT4 : Hid (P4 c4n ≤ hi4 ∧ lo4 ≤ P4 0) := hidden ⟨e3, e2.p0⟩
    have HRG4 := hidden e4
    have HCN4 : Hid (c4n ≤ 65536) := hidden (by rw [e2.1]; exact e1.len.1)
    clear a1 a2 a3 a4 b1 b2 b3 b4 d1 d2 d3 d4 e1 e2 e3 e4 HZ1 HZ2 HZ3 HZ4
    have HTA := hidden (takeAll6 x M bk (.slice none 0 0) (.slice none 0 0) [] [] (fun _ => []) 0 c1o c1n c1c l1 P1 HX0.out HYx.out (by have := HCN1.out; simp; omega) (by have := HCN1.out; omega) (by simp) HSx.out HBKM.out HOC1.out HPU1.out.len.2.1 HPU1.out.len.2.2 (fun t u ht => by simp at ht) (Nat.zero_le _))
    refine HTA.out.mono ?_
    rintro e y1 ⟨rfl, lv1, bv1, V1, D1x, HX1, HY1, HVBq, HCq, HKq⟩
    have HVB1 : Hid (VB V1 (P1 c1n) ∧ V1.length = 2 * c1n) := hidden ⟨HVBq.out.1, by have := HVBq.out.2; simpa using this⟩
    have HGy1 : Hid (Below w.heap.size w y1) := hidden (HGx.out.trans (HCq.out.below HGx.out.size (fun k hk e => by have := HMH.out; omega)))
    have HSy1 : Hid (M ≤ y1.heap.size) := hidden (Nat.le_trans HSx.out HCq.out.size)
    have HOCn1 := hidden (HOC1.out.k3 HKq.out)
    have HOCn2 := hidden (HOC2.out.k3 HKq.out)
    have HOCn3 := hidden (HOC3.out.k3 HKq.out)
    have HOCn4 := hidden (HOC4.out.k3 HKq.out)
    clear HOC1 HOC2 HOC3 HOC4 HTA HVBq HCq HKq HGx HSx HX0 HYx
    have HOC1 := HOCn1
    have HOC2 := HOCn2
    have HOC3 := HOCn3
    have HOC4 := HOCn4
    clear HOCn1 HOCn2 HOCn3 HOCn4
    have HTA := hidden (takeAll6 y1 M bk lv1 bv1 V1 [.slice c1o c1n c1c] D1x (P1 c1n) c2o c2n c2c l2 P2 HX1.out HY1.out (by have h1 := HVB1.out.2; have := HCN2.out; have := HCN1.out; omega) (by have := HCN2.out; omega) (by simp) HSy1.out HBKM.out HOC2.out HPU2.out.len.2.1 HPU2.out.len.2.2 HVB1.out.1 (by have h1 := HPT1.out.1; have h2 := HOR12.out; have h3 := HPT2.out.2; omega))
    go_wp2_with (first | (go_at_call 11; refine HTA.out.mono ?_; rintro e y2 ⟨rfl, lv2, bv2, V2, D2x, HX2, HY2, HVBq, HCq, HKq⟩; refine Hid.out ?_))
    apply hidden
    have HVB2 : Hid (VB V2 (P2 c2n) ∧ V2.length = 2 * c1n + 2 * c2n) := hidden ⟨HVBq.out.1, by have h1 := HVBq.out.2; have h2 := HVB1.out.2; omega⟩
    have HGy2 : Hid (Below w.heap.size w y2) := hidden (HGy1.out.trans (HCq.out.below HGy1.out.size (fun k hk e => by have := HMH.out; omega)))
    have HSy2 : Hid (M ≤ y2.heap.size) := hidden (Nat.le_trans HSy1.out HCq.out.size)
    have HOCn1 := hidden (HOC1.out.k3 HKq.out)
    have HOCn2 := hidden (HOC2.out.k3 HKq.out)
    have HOCn3 := hidden (HOC3.out.k3 HKq.out)
    have HOCn4 := hidden (HOC4.out.k3 HKq.out)
    clear HOC1 HOC2 HOC3 HOC4 HTA HVBq HCq HKq HGy1 HSy1 HX1 HY1
    have HOC1 := HOCn1
    have HOC2 := HOCn2
    have HOC3 := HOCn3
    have HOC4 := HOCn4
    clear HOCn1 HOCn2 HOCn3 HOCn4
    have HTA := hidden (takeAll6 y2 M bk lv2 bv2 V2 [.slice c1o c1n c1c, .slice c2o c2n c2c] D2x (P2 c2n) c3o c3n c3c l3 P3 HX2.out HY2.out (by have h1 := HVB2.out.2; have := HCN3.out; have := HCN1.out; have := HCN2.out; omega) (by have := HCN3.out; omega) (by simp) HSy2.out HBKM.out HOC3.out HPU3.out.len.2.1 HPU3.out.len.2.2 HVB2.out.1 (by have h1 := HPT2.out.1; have h2 := HOR23.out; have h3 := HPT3.out.2; omega))
    go_wp2_with (first | (go_at_call 11; refine HTA.out.mono ?_; rintro e y3 ⟨rfl, lv3, bv3, V3, D3x, HX3, HY3, HVBq, HCq, HKq⟩; refine Hid.out ?_))
    apply hidden
    have HVB3 : Hid (VB V3 (P3 c3n) ∧ V3.length = 2 * c1n + 2 * c2n + 2 * c3n) := hidden ⟨HVBq.out.1, by have h1 := HVBq.out.2; have h2 := HVB2.out.2; omega⟩
    have HGy3 : Hid (Below w.heap.size w y3) := hidden (HGy2.out.trans (HCq.out.below HGy2.out.size (fun k hk e => by have := HMH.out; omega)))
    have HSy3 : Hid (M ≤ y3.heap.size) := hidden (Nat.le_trans HSy2.out HCq.out.size)
    have HOCn1 := hidden (HOC1.out.k3 HKq.out)
    have HOCn2 := hidden (HOC2.out.k3 HKq.out)
    have HOCn3 := hidden (HOC3.out.k3 HKq.out)
    have HOCn4 := hidden (HOC4.out.k3 HKq.out)
    clear HOC1 HOC2 HOC3 HOC4 HTA HVBq HCq HKq HGy2 HSy2 HX2 HY2
    have HOC1 := HOCn1
    have HOC2 := HOCn2
    have HOC3 := HOCn3
    have HOC4 := HOCn4
    clear HOCn1 HOCn2 HOCn3 HOCn4
    have HTA := hidden (takeAll6 y3 M bk lv3 bv3 V3 [.slice c1o c1n c1c, .slice c2o c2n c2c, .slice c3o c3n c3c] D3x (P3 c3n) c4o c4n c4c l4 P4 HX3.out HY3.out (by have h1 := HVB3.out.2; have := HCN4.out; have := HCN1.out; have := HCN2.out; have := HCN3.out; omega) (by have := HCN4.out; omega) (by simp) HSy3.out HBKM.out HOC4.out HPU4.out.len.2.1 HPU4.out.len.2.2 HVB3.out.1 (by have h1 := HPT3.out.1; have h2 := HOR34.out; have h3 := HPT4.out.2; omega))
    go_wp2_with (first | (go_at_call 11; refine HTA.out.mono ?_; rintro e y4 ⟨rfl, lv4, bv4, V4, D4x, HX4, HY4, HVBq, HCq, HKq⟩; refine Hid.out ?_))
    apply hidden
    have HVB4 : Hid (VB V4 (P4 c4n) ∧ V4.length = 2 * c1n + 2 * c2n + 2 * c3n + 2 * c4n) := hidden ⟨HVBq.out.1, by have h1 := HVBq.out.2; have h2 := HVB3.out.2; omega⟩
    have HGy4 : Hid (Below w.heap.size w y4) := hidden (HGy3.out.trans (HCq.out.below HGy3.out.size (fun k hk e => by have := HMH.out; omega)))
    have HSy4 : Hid (M ≤ y4.heap.size) := hidden (Nat.le_trans HSy3.out HCq.out.size)
    have HOCn1 := hidden (HOC1.out.k3 HKq.out)
    have HOCn2 := hidden (HOC2.out.k3 HKq.out)
    have HOCn3 := hidden (HOC3.out.k3 HKq.out)
    have HOCn4 := hidden (HOC4.out.k3 HKq.out)
    clear HOC1 HOC2 HOC3 HOC4 HTA HVBq HCq HKq HGy3 HSy3 HX3 HY3
    have HOC1 := HOCn1
    have HOC2 := HOCn2
    have HOC3 := HOCn3
    have HOC4 := HOCn4
    clear HOCn1 HOCn2 HOCn3 HOCn4
    have HOW := hidden (owned6 y4 M bk 4 lv4 bv4 V4 [.slice c1o c1n c1c, .slice c2o c2n c2c, .slice c3o c3n c3c, .slice c4o c4n c4c] D4x (fun t => if t = 0 then c1n else if t = 1 then c2n else if t = 2 then c3n else if t = 3 then c4n else 0) HX4.out (by have h1 := HVB4.out.2; have h2 := HCN1.out; have h3 := HCN2.out; have h4 := HCN3.out; have h5 := HCN4.out; omega) HY4.out rfl (by omega) (fun t u ht => by
      have ht2 : t < 4 := by have := (List.getElem?_eq_some_iff.1 ht).1; simpa using this
      have h4 : t = 0 ∨ t = 1 ∨ t = 2 ∨ t = 3 := by omega
      rcases h4 with rfl | rfl | rfl | rfl
      · simp at ht
        subst ht
        exact HOC1.out.ownP (by rw [← HOC1.out.1]; exact HCN1.out)
      · simp at ht
        subst ht
        exact HOC2.out.ownP (by rw [← HOC2.out.1]; exact HCN2.out)
      · simp at ht
        subst ht
        exact HOC3.out.ownP (by rw [← HOC3.out.1]; exact HCN3.out)
      · simp at ht
        subst ht
        exact HOC4.out.ownP (by rw [← HOC4.out.1]; exact HCN4.out)
      ) (four_ne HRG1.out HRG2.out HRG3.out HRG4.out HOR12.out HOR13.out HOR14.out HOR23.out HOR24.out HOR34.out) (fun t => by have h2 := HCN1.out; have h3 := HCN2.out; have h4 := HCN3.out; have h5 := HCN4.out; exact four_le _ _ _ _ t h2 h3 h4 h5) HSy4.out)
    go_wp2_with (first | (go_at_call 12; refine HOW.out.mono ?_; rintro e y5 ⟨rfl, HYq⟩))
    go_ret
    exact ⟨rfl, HGy4.out.trans (HYq.out.below HGy4.out.size (fun k hk e => by have := HMH.out; omega))⟩
end Go.Proofs.YtdmpbdppdcaabaaDoor
