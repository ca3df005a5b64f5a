/- PackedLists: the law's held. -/
import Derived.Test.YtbefpojdopfeeaaGreatDoorJ47
import Derived.Test.YtbefpojdopfeeaaGreatDoorJ14
namespace Go.Proofs.YtbefpojdopfeeaaGreatDoor
open Go.RowKit

set_option maxRecDepth 100000 in
theorem OwnB.sl8 {w : World} {B : Nat} {ao : Option Addr} {n c : Nat} {l : List Int} (h : OwnB w B (.slice ao n c) l) (hw : Wf l) (hl : l.length ≤ 140737488355328) : Sl w ao n c l := by
  obtain ⟨ao', c', e, hs, _⟩ := h.sl hw hl
  injection e with e1 e2 e3
  subst e1 e3
  rw [← e2] at hs
  exact hs
set_option maxRecDepth 100000 in
theorem Fnd.self {cs : List Cl} {j r : Nat} {c : Cl} (hr : Rs cs) (hc : cs[j]? = some c) (hf : Fnd cs c.key r) : r = j := by
  have hjl := (List.getElem?_eq_some_iff.1 hc).1
  have hself : ¬ kl c.key c.key := by
    unfold kl
    rw [ordL_self]
    decide
  rcases Nat.lt_trichotomy r j with h | h | h
  · obtain ⟨d, hd⟩ : ∃ d, cs[r]? = some d := ⟨_, List.getElem?_eq_getElem (by omega)⟩
    exact absurd (rs_at hr h hd hc) (hf.hi r d (Nat.le_refl _) hd)
  · exact h
  · exact absurd (hf.lo j c h hc) hself
set_option maxRecDepth 100000 in
set_option maxHeartbeats 4000000 in
theorem held_any (w0 w : World) (K : Nat → Prop) (a : Nat) (k : Int) (n : Nat) (s : Qs) (hP : Pk w K a k n s) (hn : pw n) (hb : Below w0.heap.size w0 w) (ao : Option Addr) (N cap : Nat) (hs : SrK w0 w ao N cap s.cs) (hint : Int) :
    Calls Tryz.prog 20 #[.pointer (some ⟨a, 0, none⟩), .slice ao N cap, .int .i64 hint] w fun e w' => e = .returned (.bool true) ∧ Hid (Below w.heap.size w w') := by
  have hn2 := pw_nat hn
  have hlen := hs.hlen
  have hfq := filQ_eq k s
  have hfit := hP.ok.fit
  have hzq := szQ_eq k s.P.length s.cs
  have HA : Hid (∀ u, Below w.heap.size w u → Asks u a k n s) := hidden fun u hu => (hP.go hu).asks hn
  have HS : Hid (∀ u, Below w.heap.size w u → SrK w0 u ao N cap s.cs ∧ Below w0.heap.size w0 u) := hidden fun u hu => ⟨hs.on hu, hb.trans (hu.mono hb.size)⟩
  have HR := hidden hP.ok.rs
  have HLEN := hidden hlen
  have HLN : Hid (Calls Tryz.prog 26 #[.pointer (some ⟨a, 0, none⟩)] w fun e w' => e = .returned (.int .i64 (N : Int)) ∧ w' = w) := hidden (by rw [← hlen]; exact (HA.out w (Below.refl _ _)).len)
  obtain ⟨U, hU⟩ : ∃ U, szQ k s.P.length s.cs = U := ⟨_, rfl⟩
  obtain ⟨W, hW⟩ : ∃ W, s.ws = W := ⟨_, rfl⟩
  have HUS : Hid (∀ u, Below w.heap.size w u → Calls Tryz.prog 17 #[.pointer (some ⟨a, 0, none⟩)] u fun e w' => e = .returned (.int .i64 (U : Int)) ∧ Hid (Below w.heap.size w w')) := hidden fun u hu => by
    refine (HA.out u hu).used.mono ?_
    rintro e w' ⟨rfl, HB⟩
    rw [hU]
    exact ⟨rfl, hidden (bl_go hu (Nat.le_refl _) HB.out)⟩
  have HWS : Hid (∀ u, Below w.heap.size w u → Calls Tryz.prog 16 #[.pointer (some ⟨a, 0, none⟩)] u fun e w' => e = .returned (.int .i64 (W : Int)) ∧ w' = u) := hidden fun u hu => by rw [← hW]; exact (HA.out u hu).waste
  have NI : (N : Int) ≤ 65536 := by omega
  have UI : (U : Int) ≤ 65536 := by omega
  have WI : (W : Int) ≤ 65536 := by omega
  have U10 : 10 ≤ (U : Int) + (W : Int) := by omega
  clear hP hs hb hlen hfq hfit hzq hU hW hn hn2
  go_enter Tryz.func20, Tryz.ntmps20
  go_wp2_with (first | (go_at_call 26; refine same_call HLN.out ?_))
  go_loopw [7] (fun i wr => ∃ j : Nat, j ≤ N ∧ i = .int .i64 j ∧ Hid (Below w.heap.size w wr)) (fun i _ => N - (intOf i).toNat)
  case atStart => exact ⟨0, by omega, rfl, hidden (Below.refl _ _)⟩
  case round =>
    obtain ⟨j, hj, rfl, HB⟩ := hrel
    have bj : (j : Int) ≤ 65536 := by omega
    by_cases hlt : j < N
    · have hltI : (j : Int) < (N : Int) := by omega
      obtain ⟨b, off, c, ka, kc, va, vc, rfl, hbl, hci, c0, c1, c2, c3, c4, hk, hv⟩ := (HS.out wr HB.out).1.item j hlt
      have HKV : Hid (∀ u, Below w.heap.size w u → Sl u ka c.key.length kc c.key ∧ Sl u va c.val.length vc c.val) := hidden fun u hu => ⟨hk.on (Nat.le_refl _) (HS.out u hu).2, hv.on (Nat.le_refl _) (HS.out u hu).2⟩
      have HCE : Hid (Calls Tryz.prog 58 #[.pointer (some ⟨a, 0, none⟩), .int .i64 (j : Int)] wr fun e w' => ∃ ao2 a2 bo2 b2, e = .returned (.tuple #[.agg #[.slice ao2 c.key.length a2, .int .i64 c.kd, .slice bo2 c.val.length b2, .int .i64 c.pg, .int .i64 c.ct], .int .i64 0]) ∧ Hid (Sl w' ao2 c.key.length a2 c.key ∧ Sl w' bo2 c.val.length b2 c.val) ∧ Hid (Below wr.heap.size wr w')) := hidden (by
        have hce := (HA.out wr HB.out).cell (j : Int)
        have e1 : (0 ≤ (j : Int) ∧ (j : Int) < (s.cs.length : Int)) := by have := HLEN.out; omega
        unfold cellQ at hce
        rw [if_pos e1, if_pos e1, Int.toNat_natCast, hci, Option.getD_some] at hce
        refine hce.mono ?_
        rintro e w' ⟨ao2, a2, bo2, b2, rfl, HO, HB2⟩
        exact ⟨ao2, a2, bo2, b2, rfl, hidden ⟨HO.out.1.sl8 hk.wf hk.hroom, HO.out.2.1.sl8 hv.wf hv.hroom⟩, HB2⟩)
      have HCC : Hid (∀ u, Below wr.heap.size wr u → u.cell? ⟨b, off + j * 5, none⟩ = some (.slice ka c.key.length kc) ∧ u.cell? ⟨b, off + j * 5 + 1, none⟩ = some (.int .i64 c.kd) ∧ u.cell? ⟨b, off + j * 5 + 2, none⟩ = some (.slice va c.val.length vc) ∧ u.cell? ⟨b, off + j * 5 + 3, none⟩ = some (.int .i64 c.pg) ∧ u.cell? ⟨b, off + j * 5 + 4, none⟩ = some (.int .i64 c.ct)) := hidden fun u hu => ⟨(hu.cell (p := ⟨b, off + j * 5, none⟩) hbl).trans c0, (hu.cell (p := ⟨b, off + j * 5 + 1, none⟩) hbl).trans c1, (hu.cell (p := ⟨b, off + j * 5 + 2, none⟩) hbl).trans c2, (hu.cell (p := ⟨b, off + j * 5 + 3, none⟩) hbl).trans c3, (hu.cell (p := ⟨b, off + j * 5 + 4, none⟩) hbl).trans c4⟩
      have HFI : Hid (∀ u, Below wr.heap.size wr u → Calls Tryz.prog 25 #[.pointer (some ⟨a, 0, none⟩), .slice ka c.key.length kc] u fun e w' => e = .returned (.tuple #[.int .i64 (j : Int), .bool true]) ∧ w'.cell? ⟨b, off + j * 5, none⟩ = some (.slice ka c.key.length kc) ∧ Hid (Below wr.heap.size wr w')) := hidden fun u hu => by
        have hwu := bl_go HB.out (Nat.le_refl _) hu
        refine ((HA.out u hwu).find ka _ kc c.key (HKV.out u hwu).1).mono ?_
        rintro e w' ⟨r, is, rfl, HB2, HQ⟩
        obtain rfl : r = j := Fnd.self HR.out hci HQ.out.1
        obtain rfl : is = true := HQ.out.2.2 ⟨c, hci, rfl⟩
        have hb2 := bl_go hu (Nat.le_refl _) HB2.out
        exact ⟨rfl, (HCC.out w' hb2).1, hidden hb2⟩
      have HNE : Hid (∀ u, Below wr.heap.size wr u → Calls Tryz.prog 60 #[.pointer (some ⟨a, 0, none⟩), .slice ka c.key.length kc, .int .i64 hint] u fun e w' => e = .returned (.tuple #[.int .i64 (j : Int), .bool true]) ∧ w'.cell? ⟨b, off + j * 5, none⟩ = some (.slice ka c.key.length kc) ∧ Hid (Below wr.heap.size wr w')) := hidden fun u hu => by
        have hwu := bl_go HB.out (Nat.le_refl _) hu
        refine ((HA.out u hwu).near ka _ kc c.key hint (HKV.out u hwu).1).mono ?_
        rintro e w' ⟨r, is, rfl, HB2, HQ⟩
        obtain rfl : r = j := Fnd.self HR.out hci HQ.out.1
        obtain rfl : is = true := HQ.out.2.2 ⟨c, hci, rfl⟩
        have hb2 := bl_go hu (Nat.le_refl _) HB2.out
        exact ⟨rfl, (HCC.out w' hb2).1, hidden hb2⟩
      clear hk hv hci c0 c1 c2 c3 c4 hbl
      go_wp2_with (first | (go_at_call 58; refine HCE.out.mono ?_; rintro e u1 ⟨ao2, a2, bo2, b2, rfl, HQ1, HB1⟩; refine Hid.out ?_))
      apply hidden
      obtain ⟨x, hx⟩ : ∃ x, u1.alloc (.cells #[.slice ao2 c.key.length a2, .int .i64 c.kd, .slice bo2 c.val.length b2, .int .i64 c.pg, .int .i64 c.ct] 39) = x := ⟨_, rfl⟩
      have hbx : Below u1.heap.size u1 x := by rw [← hx]; exact bl_al (Below.refl _ _) (Nat.le_refl _) _
      have HX1 : Hid (Below wr.heap.size wr x) := hidden (bl_go HB1.out (Nat.le_refl _) hbx)
      have HX : Hid (Below w.heap.size w x) := hidden (bl_go HB.out (Nat.le_refl _) HX1.out)
      have hc5 : C5 x u1.heap.size (.slice ao2 c.key.length a2) (.int .i64 c.kd) (.slice bo2 c.val.length b2) (.int .i64 c.pg) (.int .i64 c.ct) := by rw [← hx]; exact C5.box _ _ _ _ _ _
      obtain ⟨z0, z1, z2, z3, z4⟩ := hc5.cells
      obtain ⟨d0, d1, d2, d3, d4⟩ := HCC.out x HX1.out
      have HSM : Hid (∀ u, Below x.heap.size x u → Calls Tryz.prog 59 #[.agg #[.slice ao2 c.key.length a2, .int .i64 c.kd, .slice bo2 c.val.length b2, .int .i64 c.pg, .int .i64 c.ct], .agg #[.slice ka c.key.length kc, .int .i64 c.kd, .slice va c.val.length vc, .int .i64 c.pg, .int .i64 c.ct]] u fun e w' => e = .returned (.bool true) ∧ Hid (Below x.heap.size x w')) := hidden fun u hu => by
        have hwu := bl_go HX.out (Nat.le_refl _) hu
        have h1u := bl_go hbx (Nat.le_refl _) hu
        refine (same_self c ao2 ka bo2 va a2 kc b2 vc u (HQ1.out.1.on (Nat.le_refl _) h1u) (HKV.out u hwu).1 (HQ1.out.2.on (Nat.le_refl _) h1u) (HKV.out u hwu).2).mono ?_
        rintro e w' ⟨rfl, hb2⟩
        exact ⟨rfl, hidden (bl_go hu (Nat.le_refl _) hb2)⟩
      clear hbx hc5 HCE
      go_upto_region 7 with fail
      go_cut [10] from 34 to 39 (fun v u => v = .bool true ∧ Hid (Below x.heap.size x u))
      case first =>
        go_wp2_with fail
        go_region_with (first | (go_at_call 59; refine (HSM.out _ (by first | exact Below.refl _ _ | exact (Below.refl _ _).drew | exact bl_dr (Below.refl _ _) _)).mono ?_; rintro e w2 ⟨rfl, HB2⟩))
        all_goals (try go_wp2_with fail)
        all_goals go_meet
        all_goals exact ⟨rfl, by first | exact HB2 | exact hidden HB2.out.drew | exact hidden (bl_dr HB2.out _)⟩
      obtain ⟨rfl, HB2⟩ := hcut
      obtain ⟨w2, hw2⟩ : ∃ w2, w2 = wc := ⟨_, rfl⟩
      subst hw2
      have HX2 : Hid (Below wr.heap.size wr w2) := hidden (bl_go HX1.out (Nat.le_refl _) HB2.out)
      clear z0 z1 z2 z3 z4 d0 d1 d2 d3 d4 HSM hx
      obtain ⟨d0, d1, d2, d3, d4⟩ := HCC.out w2 HX2.out
      go_wp2_with (first | (go_at_call 25; refine (HFI.out _ HX2.out).mono ?_; rintro e w3 ⟨rfl, e0, HB3⟩) | (go_at_call 60; refine (HNE.out _ HB3.out).mono ?_; rintro e w4 ⟨rfl, f0, HB4⟩))
      go_roundw
      case rel => exact ⟨j + 1, by omega, by go_num, hidden (bl_go HB.out (Nat.le_refl _) HB4.out)⟩
      case measure => simp [intOf]; omega
    · obtain rfl : j = N := by omega
      have hlI : ¬ (j : Int) < (j : Int) := by omega
      have HCE : Hid (Calls Tryz.prog 58 #[.pointer (some ⟨a, 0, none⟩), .int .i64 (j : Int)] wr fun e w' => ∃ ao2 a2 bo2 b2, e = .returned (.tuple #[.agg #[.slice ao2 0 a2, .int .i64 0, .slice bo2 0 b2, .int .i64 0, .int .i64 0], .int .i64 64]) ∧ Hid (Below wr.heap.size wr w')) := hidden (by
        have hce := (HA.out wr HB.out).cell (j : Int)
        have e1 : ¬ (0 ≤ (j : Int) ∧ (j : Int) < (s.cs.length : Int)) := by have := HLEN.out; omega
        unfold cellQ at hce
        rw [if_neg e1, if_neg e1] at hce
        refine hce.mono ?_
        rintro e w' ⟨ao2, a2, bo2, b2, rfl, HO, HB2⟩
        exact ⟨ao2, a2, bo2, b2, rfl, HB2⟩)
      go_wp2_with (first | (go_at_call 58; refine HCE.out.mono ?_; rintro e u1 ⟨ao2, a2, bo2, b2, rfl, HB1⟩; refine Hid.out ?_))
      apply hidden
      clear HCE
      go_upto_region 13 with fail
      obtain ⟨x, hx⟩ : ∃ x, u1.alloc (.cells #[.slice ao2 0 a2, .int .i64 0, .slice bo2 0 b2, .int .i64 0, .int .i64 0] 39) = x := ⟨_, rfl⟩
      have HX : Hid (Below w.heap.size w x) := hidden (by
        have hbx : Below u1.heap.size u1 x := by rw [← hx]; exact bl_al (Below.refl _ _) (Nat.le_refl _) _
        exact bl_go (bl_go HB.out (Nat.le_refl _) HB1.out) (Nat.le_refl _) hbx)
      rw [hx]
      clear hx
      go_wp2_with (first | (go_at_call 17; refine (HUS.out _ HX.out).mono ?_; rintro e w3 ⟨rfl, HB3⟩) | (go_at_call 16; refine same_call (HWS.out _ HB3.out) ?_))
      go_ret
      exact ⟨by first | rfl | (simp; omega), HB3⟩
end Go.Proofs.YtbefpojdopfeeaaGreatDoor

/- PackedLists: New; a script; the law's state. -/

namespace Go.Proofs.YtbefpojdopfeeaaGreatDoor
open Go.RowKit

set_option maxRecDepth 100000 in
theorem newQ7_any (k n : Int) (w : World) : Calls Tryz.prog 6 #[.int .i64 k, .int .i64 n] w fun e w' => NewQ k n w e w' := by
  cases h1 : decide (isKd k) with
  | false =>
    have hk : ¬ isKd k := by simpa using h1
    go_enter Tryz.func6, Tryz.ntmps6
    go_wp2_with (first | (go_at_call 27; refine same_call (isKind_any _ _) ?_; rw [h1]))
    go_ret2
    exact ⟨none, 1, rfl, Below.refl _ _, .inl ⟨rfl, rfl, fun h => hk h.1⟩⟩
  | true =>
    have hk : isKd k := by simpa using h1
    cases h2 : decide (pw n) with
    | false =>
      have hn : ¬ pw n := by simpa using h2
      have HN := hidden hn
      have HK := hidden hk
      clear hn hk
      go_enter Tryz.func6, Tryz.ntmps6
      go_wp2_with (first | (go_at_call 27; refine same_call (isKind_any _ _) ?_; rw [h1]) | (go_at_call 28; refine same_call (isSize_any _ _) ?_; rw [h2]))
      go_ret2
      exact ⟨none, 1, rfl, Below.refl _ _, .inl ⟨rfl, rfl, fun h => HN.out h.2⟩⟩
    | true =>
      have hn : pw n := by simpa using h2
      have HN := hidden hn
      have HK := hidden hk
      clear hn hk
      go_enter Tryz.func6, Tryz.ntmps6
      go_wp2_with (first | (go_at_call 27; refine same_call (isKind_any _ _) ?_; rw [h1]) | (go_at_call 28; refine same_call (isSize_any _ _) ?_; rw [h2]))
      go_ret2
      exact ⟨_, 0, rfl, (Below.refl _ _).alloc (Nat.le_refl _) _, .inr ⟨rfl, rfl, HK.out, HN.out, heap_alloc_last w _⟩⟩
/-- A step in plain words. -/
structure Op7 where
  q : Int
  x : Int
  c : Cl
  key : List Int
/-- A step in a row. -/
def OAt7 (w : World) (b off : Nat) (o : Op7) : Prop :=
  ∃ ka kc va vc qa qc, w.cell? ⟨b, off, none⟩ = some (.int .i64 o.q) ∧ w.cell? ⟨b, off + 1, none⟩ = some (.int .i64 o.x) ∧ w.cell? ⟨b, off + 2, none⟩ = some (.slice ka o.c.key.length kc) ∧ w.cell? ⟨b, off + 3, none⟩ = some (.int .i64 o.c.kd) ∧ w.cell? ⟨b, off + 4, none⟩ = some (.slice va o.c.val.length vc) ∧ w.cell? ⟨b, off + 5, none⟩ = some (.int .i64 o.c.pg) ∧ w.cell? ⟨b, off + 6, none⟩ = some (.int .i64 o.c.ct) ∧ w.cell? ⟨b, off + 7, none⟩ = some (.slice qa o.key.length qc) ∧ Sl w ka o.c.key.length kc o.c.key ∧ Sl w va o.c.val.length vc o.c.val ∧ Sl w qa o.key.length qc o.key
/-- THE SLICE VALUE READS AS THE SCRIPT os. -/
structure SlO7 (w : World) (ao : Option Addr) (n cap : Nat) (os : List Op7) : Prop where
  hlen : os.length = n
  hcap : n ≤ cap
  hat : n = 0 ∨ ∃ b off, ao = some ⟨b, off, none⟩ ∧ b < w.heap.size ∧ ∀ i o, os[i]? = some o → OAt7 w b (off + i * 8) o
/-- A step in a block of its own. -/
def O8 (w : World) (g : Nat) (x0 x1 x2 x3 x4 x5 x6 x7 : Value) : Prop := w.heap[g]? = some (.cells #[x0, x1, x2, x3, x4, x5, x6, x7] 41 (0, 0))
set_option maxRecDepth 100000 in
theorem O8.cells {w : World} {g : Nat} {x0 x1 x2 x3 x4 x5 x6 x7 : Value} (h : O8 w g x0 x1 x2 x3 x4 x5 x6 x7) :
    w.cell? ⟨g, 0, none⟩ = some x0 ∧ w.cell? ⟨g, 1, none⟩ = some x1 ∧ w.cell? ⟨g, 2, none⟩ = some x2 ∧ w.cell? ⟨g, 3, none⟩ = some x3 ∧ w.cell? ⟨g, 4, none⟩ = some x4 ∧ w.cell? ⟨g, 5, none⟩ = some x5 ∧ w.cell? ⟨g, 6, none⟩ = some x6 ∧ w.cell? ⟨g, 7, none⟩ = some x7 := by
  unfold O8 at h
  refine ⟨?_, ?_, ?_, ?_, ?_, ?_, ?_, ?_⟩ <;> (rw [cell_of_row _ _ _ _ _ _ h]; rfl)
set_option maxRecDepth 100000 in
theorem O8.box (w : World) (x0 x1 x2 x3 x4 x5 x6 x7 : Value) : O8 (w.alloc (.cells #[x0, x1, x2, x3, x4, x5, x6, x7] 41)) w.heap.size x0 x1 x2 x3 x4 x5 x6 x7 := heap_alloc_last w _
set_option maxRecDepth 100000 in
theorem O8.cf {w w' : World} {g : Nat} {x0 x1 x2 x3 x4 x5 x6 x7 : Value} {F : Nat → Prop} (h : O8 w g x0 x1 x2 x3 x4 x5 x6 x7) (hc : Cf F w w') (hg : ¬ F g) : O8 w' g x0 x1 x2 x3 x4 x5 x6 x7 := (hc.block g (lt_some h) hg).trans h
set_option maxRecDepth 100000 in
theorem OwK.take {w0 w : World} {B g n c : Nat} {cs : List Cl} (h : OwK w0 B w (.slice (some ⟨g, 0, none⟩) n c) cs) (i : Nat) (hi : i ≤ n) : OwK w0 B w (.slice (some ⟨g, 0, none⟩) i c) (cs.take i) := by
  obtain ⟨vs, h1, h2⟩ := h
  rcases h1.2 with ⟨h3, _⟩ | ⟨g', cap, cur, e, hg, hh, hnc, hm, hs, ht⟩
  · cases h3
  · injection e with e1 e2 e3
    injection e1 with e1
    injection e1 with e1
    subst e1 e3
    have hl : (cs.take i).length = i := by rw [List.length_take]; omega
    have hvl := h2.len
    refine ⟨vs.take (i * 5), ⟨by rw [hl, List.length_take]; omega, .inr ⟨g, c, cur, by rw [hl], hg, hh, by rw [hl]; omega, hm, hs, ?_⟩⟩, h2.take i⟩
    rw [hl, ← ht, List.take_take, Nat.min_eq_left (by omega)]
set_option maxRecDepth 100000 in
theorem PutR.ok {k : Int} {n : Nat} {s t : Qs} {i j : Nat} {c : Cl} {code : Int} (h : PutR k n s i j c code t) : (code = 0 ∧ t.cs = spl s.cs i j c) ∨ (¬ code = 0 ∧ t = s) := by
  rcases h with ⟨_, h1, h2⟩ | ⟨_, _, h1, h2⟩ | ⟨_, _, ⟨_, h1, h2⟩ | ⟨_, ⟨_, h1, h2⟩ | ⟨_, h1, h2⟩⟩⟩
  · exact .inr ⟨by omega, h2⟩
  · exact .inr ⟨by omega, h2⟩
  · exact .inl ⟨h1, by rw [h2]⟩
  · exact .inl ⟨h1, by rw [h2]⟩
  · exact .inr ⟨by omega, h2⟩
set_option maxRecDepth 100000 in
theorem InsR.ok {k : Int} {n : Nat} {s t : Qs} {I : Int} {c : Cl} {code : Int} (h : InsR k n s I c code t) : (code = 0 ∧ ∃ i : Nat, I = (i : Int) ∧ i ≤ s.cs.length ∧ t.cs = spl s.cs i i c) ∨ (¬ code = 0 ∧ t = s) := by
  rcases h with ⟨_, h1, h2⟩ | ⟨i, h1, h2, h3⟩
  · exact .inr ⟨by omega, h2⟩
  · rcases h3.ok with ⟨h4, h5⟩ | h4
    · exact .inl ⟨h4, i, h1, h2, h5⟩
    · exact .inr h4
set_option maxRecDepth 100000 in
theorem SetR.ok {k : Int} {n : Nat} {s t : Qs} {I : Int} {c : Cl} {code : Int} (h : SetR k n s I c code t) : (code = 0 ∧ ∃ i : Nat, I = (i : Int) ∧ i < s.cs.length ∧ t.cs = spl s.cs i (i + 1) c) ∨ (¬ code = 0 ∧ t = s) := by
  rcases h with ⟨_, h1, h2⟩ | ⟨i, h1, h2, h3⟩
  · exact .inr ⟨by omega, h2⟩
  · rcases h3.ok with ⟨h4, h5⟩ | h4
    · exact .inl ⟨h4, i, h1, h2, h5⟩
    · exact .inr h4
set_option maxRecDepth 100000 in
theorem RemR.ok {k : Int} {n : Nat} {s t : Qs} {I : Int} {code : Int} (hn : 10 ≤ n) (h : RemR k n s I code t) : (code = 0 ∧ ∃ i : Nat, I = (i : Int) ∧ i < s.cs.length ∧ t.cs = s.cs.take i ++ s.cs.drop (i + 1)) ∨ (code = 64 ∧ ¬ (0 ≤ I ∧ I < (s.cs.length : Int)) ∧ t = s) ∨ (code = 61 ∧ I = 0 ∧ k = 3 ∧ 1 < s.cs.length ∧ n < szQ k (shP k (s.cs.drop 1)).length (s.cs.drop 1) ∧ t = s) := by
  rcases h with ⟨h1, h2, h3⟩ | ⟨i, d, h1, hd, ⟨h2, ⟨_, h3, h4⟩ | ⟨h5, h3, h4⟩⟩ | ⟨h2, h3, h4⟩⟩
  · exact .inr (.inl ⟨h2, h1, h3⟩)
  · exact .inl ⟨h3, i, h1, (List.getElem?_eq_some_iff.1 hd).1, by rw [h4]⟩
  · have hil := (List.getElem?_eq_some_iff.1 hd).1
    by_cases h6 : s.cs.length = 1
    · exfalso
      apply h5
      have e : s.cs.take i ++ s.cs.drop (i + 1) = [] := by
        apply List.eq_nil_of_length_eq_zero
        simp
        omega
      rw [e]
      have : szQ k (shP k []).length [] = 10 := by
        rw [shP_nil (by unfold ktl; split <;> rfl)]
        rfl
      omega
    · rcases h2 with ⟨h7, h8⟩ | h7
      · subst h8
        refine .inr (.inr ⟨h3, h1, h7, by omega, ?_, h4⟩)
        simpa using h5
      · exact absurd h7 h6
  · exact .inl ⟨h3, i, h1, (List.getElem?_eq_some_iff.1 hd).1, by rw [h4]⟩
/-- THE LAW'S STATE: the page and the list say the same. -/
structure Ls (w0 w : World) (K : Nat → Prop) (a : Nat) (k : Int) (n : Nat) (s : Qs) (v : Value) : Prop where
  pk : Pk w K a k n s
  ow : OwK w0 w0.heap.size w v s.cs
  out : ∀ g, v.ownBlock = some g → ¬ K g
  low : ∀ b, K b → w0.heap.size ≤ b
  be : Below w0.heap.size w0 w
set_option maxRecDepth 100000 in
theorem Ls.go {w0 w w' : World} {K : Nat → Prop} {a : Nat} {k : Int} {n : Nat} {s : Qs} {v : Value} (h : Ls w0 w K a k n s v) (hb : Below w.heap.size w w') : Ls w0 w' K a k n s v := ⟨h.pk.go hb, h.ow.go hb, h.out, h.low, bl_go h.be (Nat.le_refl _) hb⟩
set_option maxRecDepth 100000 in
/-- Behind a change of the page alone. -/
theorem Ls.ch {w0 w w' : World} {K : Nat → Prop} {a : Nat} {k : Int} {n : Nat} {s t : Qs} {v : Value} (h : Ls w0 w K a k n s v) (hp : Pk w' (Zk K w w') a k n t) (hc : Cf K w w') : Pk w' (Zk K w w') a k n t ∧ OwK w0 w0.heap.size w' v s.cs ∧ (∀ g, v.ownBlock = some g → ¬ Zk K w w' g) ∧ (∀ b, Zk K w w' b → w0.heap.size ≤ b) ∧ Below w0.heap.size w0 w' := by
  refine ⟨hp, h.ow.keep hc h.out, fun g e => ?_, fun b e => ?_, ?_⟩
  · have h1 := (h.ow.blk e).2
    rintro (h2 | h2)
    · exact h.out g e h2
    · omega
  · rcases e with e | e
    · exact h.low b e
    · exact Nat.le_trans h.be.size e.1
  · have h1 : Below w0.heap.size w w' := hc.below h.be.size (fun b hb e => by have := h.low b e; omega)
    exact h.be.trans h1
set_option maxRecDepth 100000 in
theorem Ls.same {w0 w w' : World} {K : Nat → Prop} {a : Nat} {k : Int} {n : Nat} {s t : Qs} {v : Value} (h : Ls w0 w K a k n s v) (hp : Pk w' (Zk K w w') a k n t) (hc : Cf K w w') (ht : t.cs = s.cs) : Ls w0 w' (Zk K w w') a k n t v := by
  obtain ⟨h1, h2, h3, h4, h5⟩ := h.ch hp hc
  exact ⟨h1, by rw [ht]; exact h2, h3, h4, h5⟩
set_option maxRecDepth 100000 in
/-- And of the list, which is new. -/
theorem Ls.both {w0 w w' u : World} {K : Nat → Prop} {a : Nat} {k : Int} {n : Nat} {t : Qs} {v : Value} (hp : Pk w K a k n t) (hl : ∀ b, K b → w0.heap.size ≤ b) (hb0 : Below w0.heap.size w0 w) (hb : Below w.heap.size w w') (hu : w.heap.size ≤ u.heap.size) (ho : OwK w0 u.heap.size w' v t.cs) : Ls w0 w' K a k n t v := by
  refine ⟨hp.go hb, ho.low (Nat.le_trans hb0.size hu), fun g e h1 => ?_, hl, bl_go hb0 (Nat.le_refl _) hb⟩
  have h2 := (ho.blk e).1
  have h3 := hp.kl g h1
  omega
set_option maxRecDepth 100000 in
theorem Sl.outk {w0 w : World} {K : Nat → Prop} {ao : Option Addr} {n cap : Nat} {l : List Int} (h : Sl w0 ao n cap l) (hl : ∀ b, K b → w0.heap.size ≤ b) (_ : Below w0.heap.size w0 w) : OutK K ao n := by
  rcases h.hat with h0 | ⟨b, off, e, hlt, _⟩
  · exact .inl h0
  · refine .inr fun p hp hk => ?_
    rw [e] at hp
    injection hp with hp
    subst hp
    have := hl _ hk
    simp only at this
    omega
end Go.Proofs.YtbefpojdopfeeaaGreatDoor
