/- Layer 12: ways: read, down, wayFor, height. -/
import Derived.Test.YtfcbfombobelmaaGreatDoorJ30
import Derived.Deep.DeepCutAuto
import Derived.Deep.CutRange
import Derived.Test.YtfcbfombobelmaaGreatDoorJ14
import Derived.Test.YtfcbfombobelmaaGreatDoorJ06
namespace Go.Proofs.YtfcbfombobelmaaGreatDoor
open Go.RowKit

set_option maxRecDepth 100000 in
theorem tread_leaf (w : World) (b m : Nat) (rd root : Int) (M : Int → Option Pf) (ct : Nat) (f : Pf) (cs : List Cl) (h : Bq w b m rd M ct) (hr : (Lit.int .i64 root).wf = true) (hM : M root = some f) (hl : f.l = pgB 2 512 cs) (g : Gd1 cs) (hrd : rd < 4611686018427387904) (hr0 : 0 ≤ rd) (ht : TB w b m) :
    Calls Tryz.prog 23 #[iB b, .int .i64 root] w fun e w' => ∃ a, e = .returned (iP a) ∧ Hid (Cf (Bo b m) w w' ∧ Bq w' b m (rd + 1) M ct ∧ w.heap.size ≤ a ∧ ∃ vb vs, Po w' w.heap.size a 2 512 vb vs cs) := by
  have HR := hidden (wread_leaf w b m rd root M ct f cs h hr hM hl g hrd hr0 ht)
  clear h hM hl g ht
  go_enter Tryz.func23, Tryz.ntmps23
  go_wp2_with (first | (go_at_call 40; refine HR.out.mono ?_; rintro e w1 ⟨a, rfl, HQ⟩) | (go_at_call 29; refine same_call (must_ok _) ?_))
  go_ret
  exact ⟨a, rfl, HQ⟩
/-- A key that stands whatever becomes of the bench. -/
def KS (w : World) (b m : Nat) (qo : Option Addr) (qn qc : Nat) (q : List Int) : Prop := ∀ u, Cf (Bo b m) w u → Sl u qo qn qc q
set_option maxRecDepth 100000 in
theorem KS.go {w u : World} {b m : Nat} {qo : Option Addr} {qn qc : Nat} {q : List Int} (h : KS w b m qo qn qc q) (hc : Cf (Bo b m) w u) : KS u b m qo qn qc q := fun v hv => h v (hc.go hv)
set_option maxRecDepth 100000 in
theorem infoSt : (Tryz.prog.info? 89).map (fun i => (i.zero, i.size, i.bytes)) = some (some (.agg #[.int .i64 0, .nilIface, .int .i64 0]), 3, 32) := by kernel_rfl
/-- A way of one page. -/
structure Wy (w : World) (B g c : Nat) (root : Int) (a : Nat) (r : Nat) : Prop where
  own : w.ownsRow B 89 3 (.slice (some ⟨g, 0, none⟩) 1 c) 1 [.int .i64 root, iP a, .int .i64 (r : Int)]
set_option maxRecDepth 100000 in
theorem turn_leaf (w : World) (B a kb : Nat) (vb vs : Value) (cs : List Cl) (hp : Po w B a 2 512 vb vs cs) (g : Gd1 cs) (qo : Option Addr) (qn qc : Nat) (q : List Int) (hq : Sl w qo qn qc q) (hk : w.cell? ⟨kb, 0, none⟩ = some (.slice qo qn qc)) :
    Calls Tryz.prog 35 #[iP a, .pointer (some ⟨kb, 0, none⟩)] w fun e w' => ∃ r : Nat, e = .returned (.int .i64 (r : Int)) ∧ Hid (Fnd cs q r) ∧ Hid (Below w.heap.size w w') := by
  have HT := hidden (toward_leaf w B a vb vs cs hp g qo qn qc q hq)
  clear hp g hq
  go_enter Tryz.func35, Tryz.ntmps35
  go_wp2_with (first | (go_at_call 36; refine HT.out.mono ?_; rintro e w1 ⟨r, rfl, HF, HB⟩))
  go_ret
  exact ⟨r, rfl, HF, HB⟩
set_option maxRecDepth 100000 in
theorem down_0 (w : World) (b : Nat) (f : Value) : Calls Tryz.prog 34 #[iB b, .int .i64 0, f] w fun e w' => e = .returned (.slice none 0 0) ∧ w' = w := by
  go_enter Tryz.func34, Tryz.ntmps34
  go_wp2_with fail
  go_loopw [7, 8, 9, 10] (fun s7 s8 s9 s10 wr => s7 = .slice none 0 0 ∧ s8 = .int .i64 0 ∧ wr = w) (fun _ _ _ _ _ => 0)
  case atStart => exact ⟨rfl, rfl, by first | rfl | trivial⟩
  case round =>
    obtain ⟨rfl, rfl, rfl⟩ := hrel
    go_wp2
    go_ret
    exact ⟨rfl, rfl⟩
/-- What a way for a key comes to, in a tree of one leaf. -/
def WayTo (b m : Nat) (rd root : Int) (M : Int → Option Pf) (ct : Nat) (cs : List Cl) (q : List Int) (w : World) (e : Ending) (w' : World) : Prop :=
  ∃ g c, e = .returned (.slice (some ⟨g, 0, none⟩) 1 c) ∧ Hid (∃ a r, Wy w' w.heap.size g c root a r ∧ Fnd cs q r ∧ Cf (Bo b m) w w' ∧ Bq w' b m (rd + 1) M ct ∧ ∃ vb vs, Po w' w.heap.size a 2 512 vb vs cs)
set_option maxRecDepth 100000 in
set_option maxHeartbeats 2000000 in
theorem down_leaf (w : World) (b m : Nat) (rd root : Int) (M : Int → Option Pf) (ct : Nat) (f : Pf) (cs : List Cl) (h : Bq w b m rd M ct) (hr : (Lit.int .i64 root).wf = true) (hr1 : ¬ root = 0) (hM : M root = some f) (hl : f.l = pgB 2 512 cs) (g : Gd1 cs) (hrd : rd < 4611686018427387904) (hr0 : 0 ≤ rd) (ht : TB w b m)
    (kb : Nat) (qo : Option Addr) (qn qc : Nat) (q : List Int) (hq : KS w b m qo qn qc q) (hk : w.cell? ⟨kb, 0, none⟩ = some (.slice qo qn qc)) (hkb : kb < w.heap.size ∧ kb ≠ b ∧ kb ≠ m) :
    Calls Tryz.prog 34 #[iB b, .int .i64 root, .func (.func 35) #[] #[.pointer (some ⟨kb, 0, none⟩)]] w (WayTo b m rd root M ct cs q w) := by
  obtain ⟨ic, hic, hz0, hz1, hz2⟩ := info_parts infoSt
  have HRD := hidden (tread_leaf w b m rd root M ct f cs h hr hM hl g hrd hr0 ht)
  have HQ := hidden hq
  have HG := hidden g
  have HK : Hid (∀ u, Cf (Bo b m) w u → u.cell? ⟨kb, 0, none⟩ = some (.slice qo qn qc)) := hidden fun u hu => by
    rw [← hk]
    simp only [World.cell?]
    rw [hu.block kb hkb.1 (by rintro (e | e) <;> omega)]
  clear h hM hl g ht hq hk hkb
  go_enter Tryz.func34, Tryz.ntmps34
  go_wp2_with fail
  go_loopw [7, 8, 9, 10] (fun s7 s8 s9 s10 wr => (s7 = .slice none 0 0 ∧ s8 = .int .i64 root ∧ wr = w) ∨ (∃ g c, s7 = .slice (some ⟨g, 0, none⟩) 1 c ∧ s8 = .int .i64 0 ∧ Hid (WayTo b m rd root M ct cs q w (.returned (.slice (some ⟨g, 0, none⟩) 1 c)) wr))) (fun _ s8 _ _ _ => if intOf s8 = 0 then 0 else 1)
  case atStart => exact .inl ⟨rfl, rfl, by first | rfl | trivial⟩
  case round =>
    rcases hrel with ⟨rfl, rfl, rfl⟩ | ⟨g, c, rfl, rfl, HW⟩
    · go_wp2_with (first | (go_at_call 23; refine HRD.out.mono ?_; rintro e w1 ⟨a, rfl, HQ1⟩; refine Hid.out ?_))
      apply hidden
      obtain ⟨q1, q2, q3, vb, vs, q4⟩ := HQ1.out
      have HT := hidden (turn_leaf w1 wr.heap.size a kb vb vs cs q4 HG.out qo qn qc q (HQ.out w1 q1) (HK.out w1 q1))
      clear q1 q2 q3 q4
      go_wp2_with (first | (go_at_call 35; refine HT.out.mono ?_; rintro e w2 ⟨r, rfl, HF, HB2⟩; refine Hid.out ?_))
      apply hidden
      obtain ⟨u, hu⟩ : ∃ u, w2.alloc (.cells #[.int .i64 root, iP a, .int .i64 (r : Int)] 89) = u := ⟨_, rfl⟩
      have hbu : Below w2.heap.size w2 u := by rw [← hu]; exact bl_al (Below.refl _ _) (Nat.le_refl _) _
      have hcu : ∀ j x, ([.int .i64 root, iP a, .int .i64 (r : Int)] : List Value)[j]? = some x → u.cell? ⟨w2.heap.size, 0 + j, none⟩ = some x := fun j x hx => by
        have h1 : u.heap[w2.heap.size]? = some (.cells #[.int .i64 root, iP a, .int .i64 (r : Int)] 89 (0, 0)) := by rw [← hu]; exact heap_alloc_last w2 _
        rw [Nat.zero_add, cell_of_row _ _ j _ _ _ h1]
        simpa using hx
      have HCU := hidden hcu
      have HBU := hidden hbu
      have hwu : wr.heap.size ≤ u.heap.size := by
        obtain ⟨q1, _⟩ := HQ1.out
        exact Nat.le_trans q1.size (Nat.le_trans HB2.out.size hbu.size)
      clear hbu hcu
      go_wp2_with (at_builtin; refine wpList_append_own_at u rfl _ _ 56 rfl wr.heap.size 89 ic _ 3 32 Tryz.underlying56 hic hz0 hz1 hz2 rfl (by decide) _ 0 [] rfl (World.ownsRow_nil _ _ _ _) ⟨w2.heap.size, 0, none⟩ 1 1 [.int .i64 root, iP a, .int .i64 (r : Int)] rfl (by rfl) (fun j x hx => by rw [Addr.add_lit]; exact HCU.out j x hx) (by simp [Value.oneCell']) (by unfold maxLen; omega) (by omega) hwu ?_; refine Hid.out ?_)
      apply hidden
      intro v' w3 g1 g2 _ _
      have hb3 : Below u.heap.size u w3 := (Below.refl _ _).grown g2 (Nat.le_refl _) (fun k hk => by cases hk)
      obtain ⟨g, c, rfl⟩ : ∃ g c, v' = .slice (some ⟨g, 0, none⟩) 1 c := by
        rcases g1.2 with ⟨_, h0⟩ | ⟨q, c', cur, rfl, _⟩
        · cases h0
        · exact ⟨q, c', rfl⟩
      have hb13 : Below w1.heap.size w1 w3 := bl_go (bl_go HB2.out (Nat.le_refl _) HBU.out) (Nat.le_refl _) hb3
      have HFIN : Hid (WayTo b m rd root M ct cs q wr (.returned (.slice (some ⟨g, 0, none⟩) 1 c)) w3) := hidden (by
        obtain ⟨q1, q2, q3, vb, vs, q4⟩ := HQ1.out
        exact ⟨g, c, rfl, hidden ⟨a, r, ⟨g1⟩, HF.out, q1.go (Cf.of_below hb13), q2.on hb13, vb, vs, q4.on hb13⟩⟩)
      have HCH : Hid (Calls Tryz.prog 52 #[iP a, .int .i64 (r : Int)] w3 fun e w' => e = .returned (.int .i64 0) ∧ w' = w3) := hidden (by
        obtain ⟨q1, q2, q3, vb, vs, q4⟩ := HQ1.out
        exact child_leaf w3 wr.heap.size a vb vs cs r (q4.on hb13))
      clear g1 g2 hb3 hb13 hu HCU HBU HF HB2 HT HQ1 hwu
      go_wp2_with (first | (go_at_call 52; refine same_call HCH.out ?_))
      go_roundw
      case rel => exact .inr ⟨g, c, rfl, rfl, HFIN⟩
      case measure => simp [intOf, hr1]
    · go_wp2
      go_ret
      exact HW.out
set_option maxRecDepth 100000 in
theorem wayFor_0 (w : World) (b : Nat) (qo : Option Addr) (qn qc : Nat) : Calls Tryz.prog 19 #[iB b, .int .i64 0, .slice qo qn qc] w fun e w' => e = .returned (.slice none 0 0) ∧ Hid (Below w.heap.size w w') := by
  have hmf : ∀ (fn : Fn) (first cap : Array Value) (w : World), (Instr.makeFunc fn first cap).run Tryz.prog w = .ok (.func fn first cap) w := fun _ _ _ _ => rfl
  go_enter Tryz.func19, Tryz.ntmps19
  go_wp2_with (first | (go_at_call 34; refine same_call (down_0 _ _ _) ?_))
  go_ret
  exact ⟨rfl, hidden (bl_al (Below.refl _ _) (Nat.le_refl _) _)⟩
set_option maxRecDepth 100000 in
theorem wayFor_leaf (w : World) (b m : Nat) (rd root : Int) (M : Int → Option Pf) (ct : Nat) (f : Pf) (cs : List Cl) (h : Bq w b m rd M ct) (hr : (Lit.int .i64 root).wf = true) (hr1 : ¬ root = 0) (hM : M root = some f) (hl : f.l = pgB 2 512 cs) (g : Gd1 cs) (hrd : rd < 4611686018427387904) (hr0 : 0 ≤ rd) (ht : TB w b m) (qo : Option Addr) (qn qc : Nat) (q : List Int) (hq : KS w b m qo qn qc q) :
    Calls Tryz.prog 19 #[iB b, .int .i64 root, .slice qo qn qc] w (WayTo b m rd root M ct cs q w) := by
  have hmf : ∀ (fn : Fn) (first cap : Array Value) (w : World), (Instr.makeFunc fn first cap).run Tryz.prog w = .ok (.func fn first cap) w := fun _ _ _ _ => rfl
  obtain ⟨x, hx⟩ : ∃ x, w.alloc (.cells #[.slice qo qn qc] 27) = x := ⟨_, rfl⟩
  have hbx : Below w.heap.size w x := by rw [← hx]; exact bl_al (Below.refl _ _) (Nat.le_refl _) _
  have hcx : Cf (Bo b m) w x := Cf.of_below hbx
  have hkx : x.cell? ⟨w.heap.size, 0, none⟩ = some (.slice qo qn qc) := by rw [← hx]; simp
  have HD := hidden (down_leaf x b m rd root M ct f cs (h.on hbx) hr hr1 hM hl g hrd hr0 (ht.go hcx) w.heap.size qo qn qc q (hq.go hcx) hkx ⟨by rw [← hx]; simp, by have := h.lt; omega, by have := h.mlt; omega⟩)
  have HBX := hidden hbx
  clear h hM hl g ht hq hbx hcx hkx
  go_enter Tryz.func19, Tryz.ntmps19
  go_wp2_with (first | (go_at_call 34; refine HD.out.mono ?_; rintro e w1 ⟨g, c, rfl, HQ⟩))
  go_ret
  obtain ⟨a, r, ⟨h1⟩, h2, h3, h4, vb, vs, h5⟩ := HQ.out
  refine ⟨g, c, rfl, hidden ⟨a, r, ⟨?_⟩, h2, (Cf.of_below HBX.out).go h3, h4, vb, vs, h5.low HBX.out.size⟩⟩
  refine ⟨h1.1, ?_⟩
  rcases h1.2 with h6 | ⟨g', c', cur, e, hg, r'⟩
  · exact .inl h6
  · exact .inr ⟨g', c', cur, e, Nat.le_trans HBX.out.size hg, r'⟩
set_option maxRecDepth 100000 in
theorem height_0 (w : World) (b : Nat) : Calls Tryz.prog 47 #[iB b, .int .i64 0] w fun e w' => e = .returned (.int .i64 0) ∧ Hid (Below w.heap.size w w') := by
  have HW := hidden (wayFor_0 w b none 0 0)
  go_enter Tryz.func47, Tryz.ntmps47
  go_wp2_with (first | (go_at_call 19; refine HW.out.mono ?_; rintro e w1 ⟨rfl, HB⟩))
  go_ret
  exact ⟨rfl, HB⟩
set_option maxRecDepth 100000 in
theorem height_leaf (w : World) (b m : Nat) (rd root : Int) (M : Int → Option Pf) (ct : Nat) (f : Pf) (cs : List Cl) (h : Bq w b m rd M ct) (hr : (Lit.int .i64 root).wf = true) (hr1 : ¬ root = 0) (hM : M root = some f) (hl : f.l = pgB 2 512 cs) (g : Gd1 cs) (hrd : rd < 4611686018427387904) (hr0 : 0 ≤ rd) (ht : TB w b m) :
    Calls Tryz.prog 47 #[iB b, .int .i64 root] w fun e w' => e = .returned (.int .i64 1) ∧ Hid (Cf (Bo b m) w w' ∧ Bq w' b m (rd + 1) M ct) := by
  have HW := hidden (wayFor_leaf w b m rd root M ct f cs h hr hr1 hM hl g hrd hr0 ht none 0 0 [] (fun u _ => Sl.nil_any _ _ _ (fun _ => rfl)))
  clear h hM hl g ht
  go_enter Tryz.func47, Tryz.ntmps47
  go_wp2_with (first | (go_at_call 19; refine HW.out.mono ?_; rintro e w1 ⟨g, c, rfl, HQ⟩))
  go_ret
  obtain ⟨a, r, _, _, h3, h4, _⟩ := HQ.out
  exact ⟨rfl, hidden ⟨h3, h4⟩⟩
end Go.Proofs.YtfcbfombobelmaaGreatDoor

/- Layer 12: afford, isSized. -/

namespace Go.Proofs.YtfcbfombobelmaaGreatDoor
open Go.RowKit

set_option maxRecDepth 100000 in
theorem nilSpare (b : Nat) (w : World) : (nilAhead 348 25 (pB b) "Spare").run Tryz.prog w = .ok (some false) w := by kernel_rfl
set_option maxRecDepth 100000 in
set_option maxHeartbeats 2000000 in
theorem afford_any (w : World) (b m : Nat) (rd' root H : Int) (M : Int → Option Pf) (ct : Nat) (hct : ct < 1000000) (hs : needH H ≤ 38 - (ct : Int))
    (hh : ∀ u, Below w.heap.size w u → Calls Tryz.prog 47 #[iB b, .int .i64 root] u fun e w' => e = .returned (.int .i64 H) ∧ Hid (Cf (Bo b m) u w' ∧ Bq w' b m rd' M ct)) :
    Calls Tryz.prog 31 #[iB b, .int .i64 root] w fun e w' => e = .returned (.tuple #[]) ∧ Hid (Cf (Bo b m) w w' ∧ Bq w' b m rd' M ct) := by
  have hmf : ∀ (fn : Fn) (first cap : Array Value) (w : World), (Instr.makeFunc fn first cap).run Tryz.prog w = .ok (.func fn first cap) w := fun _ _ _ _ => rfl
  have n1 := fun u => nilSpare b u
  have HH : Hid (∀ u, Below w.heap.size w u → Calls Tryz.prog 47 #[iB b, .int .i64 root] u fun e w' => e = .returned (.int .i64 H) ∧ Hid (Cf (Bo b m) w w' ∧ Bq w' b m rd' M ct)) := hidden fun u hu => (hh u hu).mono (by
    rintro e w' ⟨rfl, HQ⟩
    exact ⟨rfl, hidden ⟨(Cf.of_below hu).go HQ.out.1, HQ.out.2⟩⟩)
  have HN := hidden (fun u => need_any H u)
  have hd : decide (needH H ≤ 38 - (ct : Int)) = true := decide_eq_true hs
  have HS : Hid (∀ u v, Hid (Cf (Bo b m) w u ∧ Bq u b m rd' M ct) → Below u.heap.size u v → Calls Tryz.prog 212 #[pB b, .int .i64 (needH H)] v fun e w' => e = .returned (.bool true) ∧ Hid (Cf (Bo b m) w w' ∧ Bq w' b m rd' M ct)) := hidden fun u v hu hv => by
    refine (spare_any (hu.out.2.on hv) (needH H) (by omega) (by omega) hct).mono ?_
    rintro e w' ⟨rfl, q, rfl⟩
    have e1 : decide (needH H ≤ (40 : Int) - 2 - (ct : Int)) = true := by rw [decide_eq_true]; omega
    rw [e1]
    exact ⟨rfl, hidden ⟨hu.out.1.go (Cf.of_below (bl_dr hv q)), hu.out.2.on (bl_dr hv q)⟩⟩
  clear hh hs hd
  go_enter Tryz.func31, Tryz.ntmps31
  go_upto_region 0 with fail
  go_cut [13] from 4 to 13 (fun v u => v = .bool false ∧ Hid (Cf (Bo b m) w u ∧ Bq u b m rd' M ct))
  case first =>
    go_wp2_with fail
    go_region_with (first
      | (go_at_call 212; refine (HS.out w1 _ HQ1 (by first | exact Below.refl _ _ | exact (Below.refl _ _).drew | exact bl_dr (Below.refl _ _) _)).mono ?_; rintro e w2 ⟨rfl, HQ2⟩)
      | (go_at_call 6; refine same_call (HN.out _) ?_)
      | (go_at_call 47; refine (HH.out _ (by first | exact Below.refl _ _ | exact (Below.refl _ _).drew | exact bl_dr (Below.refl _ _) _)).mono ?_; rintro e w1 ⟨rfl, HQ1⟩))
    all_goals (try go_wp2_with fail)
    all_goals go_meet
    all_goals exact ⟨by simp, by first | exact HQ2 | exact hidden ⟨HQ2.out.1.go (Cf.of_below (bl_dr (Below.refl _ _) _)), HQ2.out.2.on (bl_dr (Below.refl _ _) _)⟩⟩
  obtain ⟨rfl, HQ2⟩ := hcut
  obtain ⟨w2, hw2⟩ : ∃ w2, w2 = wc := ⟨_, rfl⟩
  subst hw2
  go_wp2
  go_returns
  exact ⟨rfl, HQ2⟩
end Go.Proofs.YtfcbfombobelmaaGreatDoor

/- Layer 8: MostKey, MostValue. -/

namespace Go.Proofs.YtfcbfombobelmaaGreatDoor
open Go.RowKit

set_option maxRecDepth 100000 in
theorem nmostKey_any (p : Int) (w : World) : Calls Tryz.prog 43 #[.int .i64 p] w fun e w' => e = .returned (.int .i64 (if pw p then p / 8 else 0)) ∧ w' = w := by
  cases h : decide (pw p) with
  | false =>
    rw [if_neg (by simpa using h)]
    go_enter Tryz.func43, Tryz.ntmps43
    go_wp2_with (first | (go_at_call 54; refine same_call (isSize_any _ _) ?_; rw [h]))
    go_ret
    exact ⟨rfl, rfl⟩
  | true =>
    have hp : pw p := by simpa using h
    rw [if_pos hp]
    have h1 := pw_le hp
    have HM := hidden (mostKey_any p w (by omega) (by omega))
    clear hp h1
    go_enter Tryz.func43, Tryz.ntmps43
    go_wp2_with (first | (go_at_call 54; refine same_call (isSize_any _ _) ?_; rw [h]) | (go_at_call 44; refine same_call HM.out ?_))
    go_ret
    exact ⟨rfl, rfl⟩
set_option maxRecDepth 100000 in
theorem nmostValue_any (p : Int) (w : World) : Calls Tryz.prog 42 #[.int .i64 p] w fun e w' => e = .returned (.int .i64 (if pw p then p / 16 * 3 else 0)) ∧ w' = w := by
  cases h : decide (pw p) with
  | false =>
    rw [if_neg (by simpa using h)]
    go_enter Tryz.func42, Tryz.ntmps42
    go_wp2_with (first | (go_at_call 54; refine same_call (isSize_any _ _) ?_; rw [h]))
    go_ret
    exact ⟨rfl, rfl⟩
  | true =>
    have hp : pw p := by simpa using h
    rw [if_pos hp]
    have h1 := pw_le hp
    have HM := hidden (mostValue_any p w (by omega) (by omega))
    clear hp h1
    go_enter Tryz.func42, Tryz.ntmps42
    go_wp2_with (first | (go_at_call 54; refine same_call (isSize_any _ _) ?_; rw [h]) | (go_at_call 55; refine same_call HM.out ?_))
    go_ret
    exact ⟨rfl, rfl⟩
end Go.Proofs.YtfcbfombobelmaaGreatDoor
