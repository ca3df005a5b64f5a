/- Layer 7: the law's mine. -/
import Derived.Test.YtobfkcepjnjfpaaGreatDoorJ31
import Derived.Test.YtobfkcepjnjfpaaGreatDoorJ33
import Derived.Deep.OwnRows
import Derived.Laws.CopyOwn
import Derived.Test.YtobfkcepjnjfpaaGreatDoorJ24
import Derived.Test.YtobfkcepjnjfpaaGreatDoorJ03
import Derived.Test.YtobfkcepjnjfpaaGreatDoorJ05
namespace Go.Proofs.YtobfkcepjnjfpaaGreatDoor
open Go.RowKit

set_option maxRecDepth 100000 in
theorem row_ty7 {w : World} {B k n : Nat} {t : TypeId} {v : Value} {vs : List Value} {z : Nat} (h : w.ownsRow B t k v n vs) (hz : v.ownBlock = some z) : ∃ cur fz, w.heap[z]? = some (.cells cur t fz) := by
  rcases h.2 with ⟨rfl, _⟩ | ⟨g, c, cur, rfl, hg, hh, _⟩
  · cases hz
  · cases hz
    exact ⟨_, _, hh⟩
set_option maxRecDepth 100000 in
theorem cell_eq7 {w w' : World} {g : Nat} (h : w'.heap[g]? = w.heap[g]?) (o : Nat) : w'.cell? ⟨g, o, none⟩ = w.cell? ⟨g, o, none⟩ := by
  simp [World.cell?, h]
/-- Blocks of cells stay. -/
def Kc7 (w w' : World) : Prop := w.heap.size ≤ w'.heap.size ∧ ∀ (k : Nat) (cs : Array Value) (fz : Nat × Nat), w.heap[k]? = some (.cells cs 37 fz) → w'.heap[k]? = w.heap[k]?
set_option maxRecDepth 100000 in
theorem Kc7.refl (w : World) : Kc7 w w := ⟨Nat.le_refl _, fun _ _ _ _ => rfl⟩
set_option maxRecDepth 100000 in
theorem Kc7.trans {a b c : World} (h : Kc7 a b) (k : Kc7 b c) : Kc7 a c := ⟨Nat.le_trans h.1 k.1, fun z cs fz h1 => by
  have e := h.2 z cs fz h1
  exact (k.2 z cs fz (e.trans h1)).trans e⟩
set_option maxRecDepth 100000 in
theorem Kc7.of_below {a b : World} (h : Below a.heap.size a b) : Kc7 a b := ⟨h.size, fun z _ _ h1 => h.block z (lt_some h1)⟩
set_option maxRecDepth 100000 in
theorem Kc7.of_cf {F : Nat → Prop} {a b : World} (h : Cf F a b) (hf : ∀ (k : Nat) (cs : Array Value) (fz : Nat × Nat), a.heap[k]? = some (.cells cs 37 fz) → ¬ F k) : Kc7 a b := ⟨h.size, fun z cs fz h1 => h.block z (lt_some h1) (hf z cs fz h1)⟩
set_option maxRecDepth 100000 in
theorem ty_ne7 {w : World} {k : Nat} {a b : Array Value} {s t : TypeId} {x y : Nat × Nat} (h : w.heap[k]? = some (.cells a s x)) (g : w.heap[k]? = some (.cells b t y)) : s = t := by
  rw [h] at g
  injection g with g
  injection g
set_option maxRecDepth 100000 in
theorem take7 (w : World) (C bk : Nat) (v : Value) (V : List Value) (D : Nat → List Int) (ao : Option Addr) (n c : Nat) (l : List Int) (h : Bo9 w C bk v V D) (hn : V.length ≤ 4000000) (hC : C ≤ w.heap.size) (hbk : C ≤ bk) (ho : OwnB w C (.slice ao n c) l) (hw : Wf l) (hl : l.length ≤ 65536)
    (hne : ∀ (t : Nat) (u : Value), V[t]? = some u → u.ownBlock = none ∨ u.ownBlock ≠ (Value.slice ao n c).ownBlock) :
    Calls Tryz.prog 34 #[.pointer (some ⟨bk, 0, none⟩), .slice ao n c] w fun e w' => e = .returned (.tuple #[]) ∧ Hid (∃ v' D', Bo9 w' C bk v' (V ++ [.slice ao n c]) D') ∧ Hid (Kc7 w w' ∧ Below C w w') ∧ Hid (∀ u m, OwnB w C u m → OwnB w' C u m) := by
  refine (take9 w C bk v V D ao n c l h hn hC ho hw hl hne).mono ?_
  rintro e w' ⟨rfl, hq⟩
  obtain ⟨v', hb, hc⟩ := hq.out
  have hrow := h.row
  unfold OwnX at hrow
  refine ⟨rfl, hidden ⟨v', _, hb⟩, hidden ⟨Kc7.of_cf hc ?_, hc.below hC ?_⟩, hidden (fun u m hu => hu.cfX hc ?_)⟩
  · rintro k cs fz hk (rfl | e)
    · exact absurd (ty_ne7 h.box hk) (by decide)
    · obtain ⟨cur, f2, hh⟩ := row_ty7 hrow e
      exact absurd (ty_ne7 hh hk) (by decide)
  · rintro k hk (rfl | e)
    · omega
    · have := (World.ownsRow.lt hrow k e).1
      omega
  · rintro k hk (rfl | e)
    · unfold OwnB at hu
      obtain ⟨cur, f2, hh⟩ := row_ty7 hu hk
      exact absurd (ty_ne7 h.box hh) (by decide)
    · unfold OwnB at hu
      obtain ⟨cur, f2, hh⟩ := row_ty7 hu hk
      obtain ⟨cur2, f3, hh2⟩ := row_ty7 hrow e
      exact absurd (ty_ne7 hh2 hh) (by decide)
/-- Cells in the block g, their keys and values V each in a block of its own. -/
structure Mr7 (w : World) (C g : Nat) (cs : List Cl) (V : List Value) : Prop where
  row : cs = [] ∨ ∃ cur fz, w.heap[g]? = some (.cells cur 37 fz)
  len : V.length = 2 * cs.length
  itm : ∀ (i : Nat) (d : Cl), cs[i]? = some d → ∃ ka kc va vc, w.cell? ⟨g, i * 5, none⟩ = some (.slice ka d.key.length kc) ∧ w.cell? ⟨g, i * 5 + 2, none⟩ = some (.slice va d.val.length vc) ∧ V[2 * i]? = some (.slice ka d.key.length kc) ∧ V[2 * i + 1]? = some (.slice va d.val.length vc) ∧ OwnB w C (.slice ka d.key.length kc) d.key ∧ OwnB w C (.slice va d.val.length vc) d.val ∧ d.Wf ∧ d.key.length ≤ 65536 ∧ d.val.length ≤ 65536
  ne : ∀ (t t' : Nat) (u u' : Value), V[t]? = some u → V[t']? = some u' → t ≠ t' → u.ownBlock = none ∨ u.ownBlock ≠ u'.ownBlock
set_option maxRecDepth 100000 in
set_option maxHeartbeats 4000000 in
theorem mine7 (w : World) (ao : Option Addr) (n cap C g : Nat) (cs : List Cl) (V : List Value) (hC : C ≤ w.heap.size) (hm : Mr7 w C g cs V) (hn : cs.length = n) (hn2 : n ≤ 200000) (hao : n = 0 ∨ ao = some ⟨g, 0, none⟩) :
    Calls Tryz.prog 15 #[.slice ao n cap] w fun e w' => e = .returned (.bool true) ∧ Hid (Kc7 w w' ∧ Below C w w') := by
  obtain ⟨bk, hbk⟩ : ∃ bk, w.heap.size = bk := ⟨_, rfl⟩
  have hnI : (n : Int) ≤ 200000 := by omega
  obtain ⟨x, hx⟩ : ∃ x, w.alloc (.cells #[.slice none 0 0] 69) = x := ⟨_, rfl⟩
  have hbx : Below w.heap.size w x := by rw [← hx]; exact bl_al (Below.refl _ _) (Nat.le_refl _) _
  have HX0 : Hid (Bo9 x C bk (.slice none 0 0) [] (fun _ => [])) := hidden (box9 (by rw [← hx, ← hbk]; exact heap_alloc_last w _))
  have HKX : Hid (Kc7 w x ∧ Below C w x) := hidden ⟨Kc7.of_below hbx, hbx.mono hC⟩
  have HC := hidden hC
  have HCB : Hid (C ≤ bk) := hidden (by rw [← hbk]; exact hC)
  have HOX : Hid (∀ u m, OwnB w C u m → OwnB x C u m) := hidden (fun u m h => h.on (Nat.le_refl _) hbx)
  have HM := hidden hm
  have HN := hidden hn
  have HAO := hidden hao
  clear hm hn hao hbx hC
  go_enter Tryz.func15, Tryz.ntmps15
  go_wp2_with fail
  clear hx hbk
  go_loopw [4] (fun i wr => ∃ j : Nat, i = .int .i64 (j : Int) ∧ j ≤ n ∧ Hid (∃ v D, Bo9 wr C bk v (V.take (2 * j)) D) ∧ Hid (Kc7 w wr ∧ Below C w wr) ∧ Hid (∀ u m, OwnB w C u m → OwnB wr C u m)) (fun i _ => n - (RowKit.intOf i).toNat)
  case atStart => exact ⟨0, rfl, by omega, hidden ⟨_, _, by simpa using HX0.out⟩, HKX, HOX⟩
  case round =>
    obtain ⟨j, rfl, hj, HB, HK, HO⟩ := hrel
    have bj : (j : Int) ≤ 200000 := by omega
    by_cases hlt : j < n
    · have hltI : (j : Int) < (n : Int) := by omega
      obtain rfl : ao = some ⟨g, 0, none⟩ := by
        rcases HAO.out with h | h
        · omega
        · exact h
      obtain ⟨d, hd⟩ : ∃ d, cs[j]? = some d := ⟨_, List.getElem?_eq_getElem (by rw [HN.out]; exact hlt)⟩
      obtain ⟨ka, kc, va, vc, q0, q2, e0, e1, o1, o2, hw, l1, l2⟩ := HM.out.itm j d hd
      obtain ⟨cur, fz, hrow⟩ : ∃ cur fz, w.heap[g]? = some (.cells cur 37 fz) := by
        rcases HM.out.row with h | h
        · rw [h] at hd; simp at hd
        · exact h
      have HRW := hidden hrow
      have c0 : wr.cell? ⟨g, j * 5, none⟩ = some (.slice ka d.key.length kc) := (cell_eq7 (HK.out.1.2 g _ _ hrow) _).trans q0
      have HQ2 := hidden q2
      have HE0 := hidden e0
      have HE1 := hidden e1
      have HO2 := hidden o2
      have HW := hidden hw
      obtain ⟨v, D, hb⟩ := HB.out
      have hVl : (V.take (2 * j)).length = 2 * j := by rw [List.length_take, HM.out.len, HN.out]; omega
      have hT := take7 wr C bk v (V.take (2 * j)) D ka d.key.length kc d.key hb (by omega) (Nat.le_trans HC.out HK.out.2.size) HCB.out (HO.out _ _ o1) hw.1 l1 (fun t u ht => by
        have hlt2 : t < 2 * j := by have := (List.getElem?_eq_some_iff.1 ht).1; omega
        rw [List.getElem?_take_of_lt hlt2] at ht
        exact HM.out.ne t (2 * j) u _ ht e0 (by omega))
      rw [show V.take (2 * j) ++ [.slice ka d.key.length kc] = V.take (2 * j + 1) by rw [List.take_add_one, e0]; rfl] at hT
      obtain ⟨kn, hkn⟩ : ∃ kn, d.key.length = kn := ⟨_, rfl⟩
      obtain ⟨vn, hvn⟩ : ∃ vn, d.val.length = vn := ⟨_, rfl⟩
      rw [hkn] at hT c0 HE0
      rw [hvn] at HQ2 HE1 HO2
      have HT := hidden hT
      have HVN := hidden hvn
      have HL2 := hidden l2
      clear hT hb q0 q2 e0 e1 o1 o2 hw l1 l2 hrow hkn hvn hVl hd
      go_wp2_with (first | (go_at_call 34; refine HT.out.mono ?_; rintro e w1 ⟨rfl, HB1, HK1, HO1⟩; refine Hid.out ?_))
      apply hidden
      clear HT c0
      have HKW : Hid (Kc7 w w1 ∧ Below C w w1) := hidden ⟨HK.out.1.trans HK1.out.1, HK.out.2.trans HK1.out.2⟩
      have c2 : w1.cell? ⟨g, j * 5 + 2, none⟩ = some (.slice va vn vc) := (cell_eq7 (HKW.out.1.2 g _ _ HRW.out) _).trans HQ2.out
      obtain ⟨v1, D1, hb1⟩ := HB1.out
      have hVl : (V.take (2 * j + 1)).length = 2 * j + 1 := by rw [List.length_take, HM.out.len, HN.out]; omega
      have hT := take7 w1 C bk v1 (V.take (2 * j + 1)) D1 va vn vc d.val hb1 (by omega) (Nat.le_trans HC.out HKW.out.2.size) HCB.out (HO1.out _ _ (HO.out _ _ HO2.out)) HW.out.2 HL2.out (fun t u ht => by
        have hlt2 : t < 2 * j + 1 := by have := (List.getElem?_eq_some_iff.1 ht).1; omega
        rw [List.getElem?_take_of_lt hlt2] at ht
        exact HM.out.ne t (2 * j + 1) u _ ht HE1.out (by omega))
      rw [show V.take (2 * j + 1) ++ [.slice va vn vc] = V.take (2 * (j + 1)) by rw [show 2 * (j + 1) = 2 * j + 1 + 1 by omega, List.take_add_one (i := 2 * j + 1), HE1.out]; rfl] at hT
      have HT := hidden hT
      clear hT hb1 hVl
      go_wp2_with (first | (go_at_call 34; refine HT.out.mono ?_; rintro e w2 ⟨rfl, HB2, HK2, HO22⟩; refine Hid.out ?_))
      apply hidden
      clear HT c2
      have HKW2 : Hid (Kc7 w w2 ∧ Below C w w2) := hidden ⟨HKW.out.1.trans HK2.out.1, HKW.out.2.trans HK2.out.2⟩
      have HOW2 : Hid (∀ u m, OwnB w C u m → OwnB w2 C u m) := hidden (fun u m h => HO22.out _ _ (HO1.out _ _ (HO.out _ _ h)))
      go_wp2
      go_roundw
      case rel => exact ⟨j + 1, by go_num, by omega, HB2, HKW2, HOW2⟩
      case measure => simp [RowKit.intOf]; omega
    · obtain rfl : j = n := by omega
      have hltI : ¬ (j : Int) < (j : Int) := by omega
      have hV : V.take (2 * j) = V := List.take_of_length_le (by rw [HM.out.len, HN.out]; exact Nat.le_refl _)
      rw [hV] at HB
      obtain ⟨v, D, hb⟩ := HB.out
      have HBB := hidden hb
      have HOW := hidden (owned9F (fun z => ∃ t u, V[t]? = some u ∧ u.ownBlock = some z) wr C bk V.length v V D hb (fun t u ht z hz => .inl ⟨t, u, ht, hz⟩) rfl (by rw [HM.out.len, HN.out]; omega) (Nat.le_trans HC.out HK.out.2.size))
      clear hb hV
      go_wp2_with (first | (go_at_call 35; refine HOW.out.mono ?_; rintro e u ⟨rfl, HCF⟩; refine Hid.out ?_))
      apply hidden
      go_wp2
      go_ret
      exact ⟨rfl, hidden ⟨HK.out.1.trans (Kc7.of_cf HCF.out (fun k cs fz hk => by
        rintro ⟨t, u, ht, hu⟩
        have ho := (HBB.out.own t u ht).1
        unfold OwnB at ho
        obtain ⟨cur, f2, hh⟩ := row_ty7 ho hu
        exact absurd (ty_ne7 hh hk) (by decide))), HK.out.2.trans (HCF.out.below (Nat.le_trans HC.out HK.out.2.size) (fun k hk => by
        rintro ⟨t, u, ht, hu⟩
        have ho := (HBB.out.own t u ht).1
        unfold OwnB at ho
        have := (World.ownsRow.lt ho k hu).1
        omega))⟩⟩
end Go.Proofs.YtobfkcepjnjfpaaGreatDoor

/- Layer 7: our Decode's cells as a row of one's own, every piece in a block of its own. -/

namespace Go.Proofs.YtobfkcepjnjfpaaGreatDoor
open Go.RowKit

/-- The keys and values among the values of cells. -/
def kvs : List Value → List Value
  | a :: _ :: b :: _ :: _ :: t => a :: b :: kvs t
  | _ => []
set_option maxRecDepth 100000 in
theorem R5B.kvs_len {w : World} {B : Nat} : ∀ {vs : List Value} {cs : List Cl}, R5B w B vs cs → (kvs vs).length = 2 * cs.length
  | vs, [], h => by
    unfold R5B at h
    subst h
    rfl
  | vs, c :: r, h => by
    obtain ⟨ka, kc, va, vc, t, rfl, h1, h2, h3⟩ := h
    have := R5B.kvs_len h3
    simp only [kvs, List.length_cons]
    omega
set_option maxRecDepth 100000 in
theorem R5B.at {w : World} {B : Nat} : ∀ {vs : List Value} {cs : List Cl} (i : Nat) (c : Cl), R5B w B vs cs → cs[i]? = some c → ∃ ka kc va vc, vs[i * 5]? = some (.slice ka c.key.length kc) ∧ vs[i * 5 + 1]? = some (.int .i64 c.kd) ∧ vs[i * 5 + 2]? = some (.slice va c.val.length vc) ∧ vs[i * 5 + 3]? = some (.int .i64 c.pg) ∧ vs[i * 5 + 4]? = some (.int .i64 c.ct) ∧ OwnB w B (.slice ka c.key.length kc) c.key ∧ OwnB w B (.slice va c.val.length vc) c.val ∧ (kvs vs)[2 * i]? = some (.slice ka c.key.length kc) ∧ (kvs vs)[2 * i + 1]? = some (.slice va c.val.length vc)
  | vs, [], i, c, _, hc => by simp at hc
  | vs, d :: r, 0, c, h, hc => by
    obtain ⟨ka, kc, va, vc, t, rfl, h1, h2, h3⟩ := h
    simp at hc
    subst hc
    exact ⟨ka, kc, va, vc, rfl, rfl, rfl, rfl, rfl, h1, h2, rfl, rfl⟩
  | vs, d :: r, i + 1, c, h, hc => by
    obtain ⟨ka, kc, va, vc, t, rfl, h1, h2, h3⟩ := h
    obtain ⟨ka', kc', va', vc', g0, g1, g2, g3, g4, g5, g6, g7, g8⟩ := R5B.at i c h3 (by simpa using hc)
    refine ⟨ka', kc', va', vc', ?_, ?_, ?_, ?_, ?_, g5, g6, ?_, ?_⟩
    · rw [show (i + 1) * 5 = i * 5 + 5 by omega]; simpa using g0
    · rw [show (i + 1) * 5 + 1 = (i * 5 + 1) + 5 by omega]; simpa using g1
    · rw [show (i + 1) * 5 + 2 = (i * 5 + 2) + 5 by omega]; simpa using g2
    · rw [show (i + 1) * 5 + 3 = (i * 5 + 3) + 5 by omega]; simpa using g3
    · rw [show (i + 1) * 5 + 4 = (i * 5 + 4) + 5 by omega]; simpa using g4
    · rw [show 2 * (i + 1) = 2 * i + 2 by omega]; simpa [kvs] using g7
    · rw [show 2 * (i + 1) + 1 = (2 * i + 1) + 2 by omega]; simpa [kvs] using g8
/-- Pieces in blocks of their own, all of them between lo and hi. -/
def Ds7 (V : List Value) (lo hi : Nat) : Prop := (∀ (t t' : Nat) (u u' : Value), V[t]? = some u → V[t']? = some u' → t ≠ t' → u.ownBlock = none ∨ u.ownBlock ≠ u'.ownBlock) ∧ ∀ (t : Nat) (u : Value) (z : Nat), V[t]? = some u → u.ownBlock = some z → lo ≤ z ∧ z < hi
set_option maxRecDepth 100000 in
theorem Ds7.nil (lo hi : Nat) : Ds7 [] lo hi := ⟨fun t t' u u' h => by simp at h, fun t u z h => by simp at h⟩
set_option maxRecDepth 100000 in
theorem app_get {V W : List Value} {t : Nat} {u : Value} (h : (V ++ W)[t]? = some u) : (t < V.length ∧ V[t]? = some u) ∨ (V.length ≤ t ∧ W[t - V.length]? = some u) := by
  by_cases ht : t < V.length
  · exact .inl ⟨ht, by rwa [List.getElem?_append_left ht] at h⟩
  · exact .inr ⟨by omega, by rwa [List.getElem?_append_right (by omega)] at h⟩
set_option maxRecDepth 100000 in
theorem ne_of7 {u u' : Value} (h : ∀ z z', u.ownBlock = some z → u'.ownBlock = some z' → z ≠ z') : u.ownBlock = none ∨ u.ownBlock ≠ u'.ownBlock := by
  cases hu : u.ownBlock with
  | none => exact .inl rfl
  | some z =>
    right
    intro e
    exact h z z hu e.symm rfl
set_option maxRecDepth 100000 in
theorem Ds7.append {V W : List Value} {a b c d : Nat} (h : Ds7 V a b) (k : Ds7 W c d) (hbc : b ≤ c) (hac : a ≤ c) (hbd : b ≤ d) : Ds7 (V ++ W) a d := by
  refine ⟨fun t t' u u' h1 h2 hne => ?_, fun t u z h1 h2 => ?_⟩
  · rcases app_get h1 with ⟨l1, g1⟩ | ⟨l1, g1⟩ <;> rcases app_get h2 with ⟨l2, g2⟩ | ⟨l2, g2⟩
    · exact h.1 t t' u u' g1 g2 hne
    · exact ne_of7 fun z z' e1 e2 => by
        have := h.2 t u z g1 e1
        have := k.2 _ u' z' g2 e2
        omega
    · exact ne_of7 fun z z' e1 e2 => by
        have := k.2 _ u z g1 e1
        have := h.2 _ u' z' g2 e2
        omega
    · exact k.1 _ _ u u' g1 g2 (by omega)
  · rcases app_get h1 with ⟨l1, g1⟩ | ⟨l1, g1⟩
    · have := h.2 t u z g1 h2
      omega
    · have := k.2 _ u z g1 h2
      omega
set_option maxRecDepth 100000 in
theorem R5B.of {w : World} {B : Nat} : ∀ (cs : List Cl) (L : List Value), L.length = 5 * cs.length → (∀ (i : Nat) (d : Cl), cs[i]? = some d → ∃ ka kc va vc, L[i * 5]? = some (.slice ka d.key.length kc) ∧ L[i * 5 + 1]? = some (.int .i64 d.kd) ∧ L[i * 5 + 2]? = some (.slice va d.val.length vc) ∧ L[i * 5 + 3]? = some (.int .i64 d.pg) ∧ L[i * 5 + 4]? = some (.int .i64 d.ct) ∧ OwnB w B (.slice ka d.key.length kc) d.key ∧ OwnB w B (.slice va d.val.length vc) d.val) → R5B w B L cs
  | [], L, hl, _ => List.eq_nil_of_length_eq_zero (by simpa using hl)
  | c :: r, L, hl, h => by
    obtain ⟨ka, kc, va, vc, g0, g1, g2, g3, g4, o1, o2⟩ := h 0 c rfl
    match L, hl with
    | x0 :: x1 :: x2 :: x3 :: x4 :: t, hl =>
      simp only [Nat.zero_mul, Nat.zero_add, List.getElem?_cons_zero, List.getElem?_cons_succ, Option.some.injEq] at g0 g1 g2 g3 g4
      subst g0 g1 g2 g3 g4
      refine ⟨ka, kc, va, vc, t, rfl, o1, o2, R5B.of r t (by simp only [List.length_cons] at hl; omega) (fun i d hd => ?_)⟩
      obtain ⟨ka', kc', va', vc', q0, q1, q2, q3, q4, p1, p2⟩ := h (i + 1) d (by simpa using hd)
      refine ⟨ka', kc', va', vc', ?_, ?_, ?_, ?_, ?_, p1, p2⟩
      · rw [show (i + 1) * 5 = i * 5 + 5 by omega] at q0; simpa using q0
      · rw [show (i + 1) * 5 + 1 = (i * 5 + 1) + 5 by omega] at q1; simpa using q1
      · rw [show (i + 1) * 5 + 2 = (i * 5 + 2) + 5 by omega] at q2; simpa using q2
      · rw [show (i + 1) * 5 + 3 = (i * 5 + 3) + 5 by omega] at q3; simpa using q3
      · rw [show (i + 1) * 5 + 4 = (i * 5 + 4) + 5 by omega] at q4; simpa using q4
set_option maxRecDepth 100000 in
theorem Bk.own7 {w : World} {B g n : Nat} {l : List Int} (h : Bk w g l) (hg : B ≤ g) (hl : l.length = n) (hn : n ≤ 140737488355328) : OwnB w B (.slice (some ⟨g, 0, none⟩) n n) l := by
  unfold Bk at h
  have hbl : (By l).length = n := by rw [← hl]; simp [By]
  unfold OwnB
  rw [hl]
  exact ⟨by rw [hbl]; omega, .inr ⟨g, n, _, rfl, hg, h, Nat.le_refl _, by unfold maxLen; omega, by simp [hbl], by rw [Nat.mul_one, ← hbl]; simp⟩⟩
end Go.Proofs.YtobfkcepjnjfpaaGreatDoor

/- The document's ReadUint, alone. -/

namespace Go.Proofs.YtobfkcepjnjfpaaGreatDoor
open Go.RowKit

/-- What ReadUint comes to, at any place. -/
def rUx (l : List Int) (p : Int) : Int × Int × Int := if p < 0 ∨ l.length < p then (0, 0, 1) else rU p (l.drop p.toNat) 0 0
set_option maxRecDepth 100000 in
theorem mul_up (c : Int) (k : Nat) (n m : Int) (h : n + c * 128 ^ k = m) (h1 : 0 ≤ n + c * 128 ^ k) (h2 : n + c * 128 ^ k < 18446744073709551616) (hc : 0 ≤ c) (h0 : 0 ≤ n) : IntKind.u64.wrap (n + IntKind.u64.wrap (c * 128 ^ k)) = m := by
  have hcm : 0 ≤ c * 128 ^ k := Int.mul_nonneg hc (Int.le_of_lt (Int.pow_pos (by omega)))
  rw [IntKind.wrap_u64, IntKind.wrap_u64, ← h]
  generalize c * 128 ^ k = y at *
  have := h0
  omega
set_option maxRecDepth 100000 in
theorem pow_wrap (k : Nat) (h : k < 9) : IntKind.u64.wrap (128 ^ k * 128) = 128 ^ (k + 1) := by
  have h2 : k = 0 ∨ k = 1 ∨ k = 2 ∨ k = 3 ∨ k = 4 ∨ k = 5 ∨ k = 6 ∨ k = 7 ∨ k = 8 := by omega
  rcases h2 with rfl | rfl | rfl | rfl | rfl | rfl | rfl | rfl | rfl <;> rw [IntKind.wrap_u64] <;> decide
set_option maxRecDepth 100000 in
set_option maxHeartbeats 1000000 in
theorem refReadUint_all (ao : Option Addr) (n cap : Nat) (l : List Int) (p' : Int) (w : World) (hs : Sl w ao n cap l) :
    Calls Tryz.prog 51 #[.slice ao n cap, .int .i64 p'] w fun e w' => e = .returned (.tuple #[.int .u64 (rUx l p').1, .int .i64 (rUx l p').2.1, .int .i64 (rUx l p').2.2]) ∧ w' = w := by
  obtain ⟨hlen, hcap, hroom, hwf, hnil, hat⟩ := hs
  unfold rUx
  by_cases h : p' < 0 ∨ l.length < p'
  · rw [if_pos h]
    rw [hlen] at h
    rcases h with h | h
    · go_enter Tryz.func51, Tryz.ntmps51
      go_wp2
      go_ret3
      exact ⟨rfl, rfl⟩
    · have h' : ¬ p' < 0 := by omega
      go_enter Tryz.func51, Tryz.ntmps51
      go_wp2
      go_ret3
      exact ⟨rfl, rfl⟩
  · rw [if_neg h]
    rw [hlen] at h
    obtain ⟨p, rfl⟩ := Int.eq_ofNat_of_zero_le (show 0 ≤ p' by omega)
    have hpn : p ≤ n := by omega
    clear h
    rw [Int.toNat_natCast]
    generalize hF : rU p (l.drop p) 0 0 = F
    have HF := hidden hF
    clear hF
    go_enter Tryz.func51, Tryz.ntmps51
    go_wp2_with fail
    go_loop [7, 8, 9] (fun v u i => ∃ (k : Nat) (m : Int), k ≤ n - p ∧ k ≤ 9 ∧ i = .int .i64 k ∧ u = .int .u64 (128 ^ k) ∧ v = .int .u64 m ∧ 0 ≤ m ∧ m < 128 ^ k ∧ Hid (rU p (l.drop (p + k)) k m = F)) (fun _ _ i => (n - p) - (intOf i).toNat)
    case atStart => exact ⟨0, 0, by omega, by omega, rfl, rfl, rfl, by omega, by simp, HF⟩
    case round =>
      obtain ⟨k, m, hk, hk9, rfl, rfl, rfl, hm0, hm, HR⟩ := hrel
      clear HF
      by_cases hlt : k < n - p
      · rcases hat with h | ⟨b, off, rfl, hb, hc⟩
        · omega
        have hck := hc (p + k) (by omega)
        have hby := hwf.getD (p + k)
        have e := HR.out
        rw [drop_cons l (p + k) (by omega), rU] at e
        clear hc HR
        generalize l.getD (p + k) 0 = c at *
        by_cases h9 : k = 9 ∧ 1 < c
        · rw [if_pos h9] at e
          have HE := hidden e
          obtain ⟨rfl, hc1⟩ := h9
          clear e hm
          go_wp2
          go_ret3
          exact ⟨by rw [← HE.out]; rfl, rfl⟩
        · rw [if_neg h9] at e
          by_cases hcc : 128 ≤ c
          · rw [if_pos hcc] at e
            have h9' : k < 9 := by omega
            have hup := (or_up m (c - 128) k hm0 hm (by omega) (by omega) (.inl h9')).2
            have hb9 : ((k : Int) == 9) = false := by simp; omega
            have hnn : 0 ≤ m + (c - 128) * 128 ^ k := by
              have : 0 ≤ (c - 128) * 128 ^ k := Int.mul_nonneg (by omega) (Int.le_of_lt (Int.pow_pos (by omega)))
              omega
            have hcm : c % 128 = c - 128 := by omega
            have HE := hidden e
            have HUP := hidden hup
            clear e hup h9 hm
            generalize hP : (128 : Int) ^ k = P at *
            have HPP := hidden hP
            clear hP
            go_wp2
            go_round
            case rel =>
              refine ⟨k + 1, m + (c - 128) * P, by omega, by omega, by go_num, ?_, ?_, hnn, HUP.out.1, HE⟩
              · rw [← HPP.out, pow_wrap k h9']
              · have h63 : (128 : Int) ^ (k + 1) ≤ 18446744073709551616 := by
                  have h2 : k = 0 ∨ k = 1 ∨ k = 2 ∨ k = 3 ∨ k = 4 ∨ k = 5 ∨ k = 6 ∨ k = 7 ∨ k = 8 := by omega
                  rcases h2 with rfl | rfl | rfl | rfl | rfl | rfl | rfl | rfl | rfl <;> decide
                have hlt2 : m + (c - 128) * P < 18446744073709551616 := Int.lt_of_lt_of_le HUP.out.1 h63
                rw [← HPP.out] at hnn hlt2 ⊢
                rw [mul_up (c - 128) k m _ rfl hnn hlt2 (by omega) hm0]
            case measure => simp [intOf]; omega
          · rw [if_neg hcc] at e
            have hcm : c % 128 = c := by omega
            have hup := (or_up m c k hm0 hm (by omega) (by omega) (by omega)).2
            have hlt2 : m + c * 128 ^ k < 18446744073709551616 := by
              rcases hup.2 with h | h
              · have h2 : k = 0 ∨ k = 1 ∨ k = 2 ∨ k = 3 ∨ k = 4 ∨ k = 5 ∨ k = 6 ∨ k = 7 ∨ k = 8 := by omega
                have h3 := hup.1
                rcases h2 with rfl | rfl | rfl | rfl | rfl | rfl | rfl | rfl | rfl <;> simp at h3 ⊢ <;> omega
              · exact h
            have hnn : 0 ≤ m + c * 128 ^ k := by
              have : 0 ≤ c * 128 ^ k := Int.mul_nonneg (by omega) (Int.le_of_lt (Int.pow_pos (by omega)))
              omega
            have HM := hidden (mul_up c k m _ rfl hnn hlt2 (by omega) hm0)
            clear hup hlt2 hnn hm
            by_cases hz : c = 0 ∧ 0 < k
            · rw [if_pos hz] at e
              have HE := hidden e
              have hb0 : (c == 0) = true := by simp [hz.1]
              have hk0 := hz.2
              clear e hz HM
              generalize (128 : Int) ^ k = P at *
              by_cases h9k : k = 9
              · have hc1 : c ≤ 1 := by omega
                subst h9k
                clear h9
                go_wp2
                go_ret3
                exact ⟨by rw [← HE.out]; rfl, rfl⟩
              · have hb9 : ((k : Int) == 9) = false := by simp; omega
                clear h9
                go_wp2
                go_ret3
                exact ⟨by rw [← HE.out]; rfl, rfl⟩
            · rw [if_neg hz] at e
              have HE := hidden e
              clear e
              by_cases h9k : k = 9
              · have hc1 : c ≤ 1 := by omega
                have hb0 : (c == 0) = false := by simp; omega
                clear h9 hz
                generalize hP : (128 : Int) ^ k = P at *
                clear hP
                subst h9k
                go_wp2
                go_ret3
                exact ⟨by rw [← HE.out, ← HM.out]; rfl, rfl⟩
              · have hb9 : ((k : Int) == 9) = false := by simp; omega
                clear h9
                by_cases hc0 : c = 0
                · have hb0 : (c == 0) = true := by simp [hc0]
                  have hk0 : ¬ (0 < (k : Int)) := by omega
                  clear hz hc0
                  generalize hP : (128 : Int) ^ k = P at *
                  clear hP
                  go_wp2
                  go_ret3
                  exact ⟨by rw [← HE.out, ← HM.out]; rfl, rfl⟩
                · have hb0 : (c == 0) = false := by simp [hc0]
                  clear hz hc0
                  generalize hP : (128 : Int) ^ k = P at *
                  clear hP
                  go_wp2
                  go_ret3
                  exact ⟨by rw [← HE.out, ← HM.out]; rfl, rfl⟩
      · have e := HR.out
        rw [List.drop_eq_nil_of_le (by omega), rU] at e
        have HE := hidden e
        clear e HR hm
        generalize (128 : Int) ^ k = P at *
        go_wp2
        go_ret3
        exact ⟨by rw [← HE.out]; rfl, rfl⟩
end Go.Proofs.YtobfkcepjnjfpaaGreatDoor
