import Derived.Test.YtoejadhlkamcjaaDoorJ05
import Derived.Laws.AppendOwnNone
import Derived.Maps.AppendAt
import Derived.Lib.LazyBuf
namespace Go.Proofs.YtoejadhlkamcjaaDoor
set_option maxRecDepth 100000
open Go.RowKit
structure Gr (w : World) (v : Value) (w' : World) (v' : Value) : Prop where
 grow : w.grownBy w' v.ownBlock
 own : v'.ownBlock = v.ownBlock ∨ ∃ k, v'.ownBlock = some k ∧ w.heap.size ≤ k
theorem Gr.ofBelow {w w' : World} (v : Value) (h : Below w.heap.size w w') : Gr w v w' v := ⟨⟨h.os, h.tape, h.output, h.size, fun k hk _ => h.block k hk⟩, .inl rfl⟩
theorem Gr.refl (w : World) (v : Value) : Gr w v w v := Gr.ofBelow v (Below.refl _ _)
theorem Gr.below {w w' : World} {v v' : Value} {B : Nat} {l : List Int} (h : Gr w v w' v') (hown : OwnB w B v l) (hB : B ≤ w.heap.size) : Below B w w' := own_below hown hB h.grow
def Far (ao : Option Addr) (n : Nat) (v : Value) : Prop := n = 0 ∨ ∀ p, ao = some p → v.ownBlock ≠ some p.block
theorem Sl.gr {w w' : World} {v v' : Value} {ao : Option Addr} {n cap : Nat} {l : List Int} (h : Sl w ao n cap l) (hg : Gr w v w' v') (hf : Far ao n v) : Sl w' ao n cap l := by
 refine ⟨h.hlen, h.hcap, h.hroom, h.wf, h.hnil, ?_⟩
 rcases h.hat with h0 | ⟨b, off, e, hlt, hc⟩
 ·exact .inl h0
 ·rcases hf with h0 | hf
  ·exact .inl h0
  ·refine .inr ⟨b, off, e, Nat.lt_of_lt_of_le hlt hg.grow.size, fun i hi => ?_⟩
   rw [← hc i hi]
   exact World.cell?_of_block (hg.grow.block b hlt (fun e2 => hf _ e e2.symm))
theorem OwnB.low {w : World} {B C : Nat} {v : Value} {l : List Int} (h : OwnB w C v l) (hB : B ≤ C) : OwnB w B v l := by
 unfold OwnB at *
 rcases h.2 with h2 | ⟨g, cap, cur, e, hg, rest⟩
 ·exact ⟨h.1, .inl h2⟩
 ·exact ⟨h.1, .inr ⟨g, cap, cur, e, Nat.le_trans hB hg, rest⟩⟩
theorem app_sl {ops : Array Oper} {rest : List Oper} {o : Oper} {a : Act} {Q : Exit → Act → World → Prop} (w : World) (hgd : o.guard = none) (s x : Operand)
  (ho : o.op = .call { callee := .builtin .append, args := #[s, x], argTypes := #[33, 33] }) (B : Nat) (l news : List Int) (v : Value) (ao : Option Addr) (n c : Nat) (hs : a.eval s = v) (hx : a.eval x = .slice ao n c)
  (hown : OwnB w B v l) (hsl : Sl w ao n c news) (hb : l.length + n ≤ 140737488355328) (hbase : B ≤ w.heap.size)
  (h : ∀ v' w', OwnB w' B v' (l ++ news) → Gr w v w' v' → wpList Tryd.prog ops Q rest (a.put o.dst v') w') : wpList Tryd.prog ops Q (o :: rest) a w := by
 obtain ⟨i0, hi, hz0, hz1, hz2⟩ := info_parts info5
 have hlen := hsl.hlen
 cases ao with
 | none =>
  have : n = 0 := by have := hsl.hnil rfl; have := hsl.hcap; omega
  subst this
  have hc0 := hsl.hnil rfl
  subst hc0
  obtain rfl : news = [] := List.eq_nil_of_length_eq_zero hlen
  exact wpList_append_own_none hgd s x 33 ho B 5 i0 1 Tryd.underlying33 hi v l.length (By l) hs hown hx (h v w (by simpa using hown) (Gr.refl _ _))
 | some ad =>
  refine wpList_append_own_at w hgd s x 33 ho B 5 i0 (.int .u8 0) 1 1 Tryd.underlying33 hi hz0 hz1 hz2 rfl (by decide) v l.length (By l) hs hown ad n c (By news) hx (by simp [By, hlen])
   (fun j u hu => by
    obtain ⟨h1, h2⟩ := getElem?_By news j u hu
    rw [h2]
    rcases hsl.hat with h0 | ⟨b, off, e, _, hc⟩
    ·omega
    ·injection e with e
     subst e
     rw [Addr.add_lit]
     exact hc j (by omega)) (By_one news) (by unfold maxLen; omega) (by omega) hbase ?_
  intro v' w' h1 h2 _ h4
  refine h v' w' ?_ ⟨h2, h4.imp id fun e => ⟨_, e, Nat.le_refl _⟩⟩
  unfold OwnB
  rw [By_append, List.length_append, hlen]
  exact h1
theorem equal6 (ao bo : Option Addr) (n m c d : Nat) (la lb : List Int) (w : World) (ha : Sl w ao n c la) (hb : Sl w bo m d lb) :
  Calls Tryd.prog 43 #[.slice ao n c, .slice bo m d] w fun e w' => e = .returned (.bool (decide (la = lb))) ∧ w' = w := by
 have h1 := conv_sl ha
 have h2 := conv_sl hb
 have h3 := str_beq ha.wf hb.wf
 clear ha hb
 go_enter Tryd.func43, Tryd.ntmps43
 go_wp2
 go_ret
 exact ⟨rfl, rfl⟩
set_option maxHeartbeats 1000000 in
theorem clone_any (a : Addr) (n cap : Nat) (l : List Int) (w : World) (hs : Sl w (some a) n cap l) :
  Calls Tryd.prog 36 #[.slice (some a) n cap] w fun e w' => ∃ g c, e = .returned (.slice (some ⟨g, 0, none⟩) n c) ∧ Hid (OwnB w' w.heap.size (.slice (some ⟨g, 0, none⟩) n c) l ∧ w.heap.size ≤ g ∧ g < w'.heap.size) ∧ Hid (Below w.heap.size w w') := by
 obtain ⟨x, hx⟩ : ∃ x, w.alloc (.cells #[] 5) = x := ⟨_, rfl⟩
 have hbx : Below w.heap.size w x := by rw [← hx]; exact bl_al (Below.refl _ _) (Nat.le_refl _) _
 have HS := hidden (hs.on (Nat.le_refl _) hbx)
 have hroom := hs.hroom
 have HLN := hidden hs.hlen
 have HO : Hid (OwnB x w.heap.size (.slice (some ⟨w.heap.size, 0, none⟩) 0 0) []) := hidden (by
  refine ⟨rfl, .inr ⟨w.heap.size, 0, #[], rfl, Nat.le_refl _, ?_, Nat.le_refl _, Nat.zero_le _, rfl, rfl⟩⟩
  rw [← hx]
  exact heap_alloc_last w _)
 have HBX := hidden hbx
 have hxs : w.heap.size ≤ x.heap.size := hbx.size
 have he : (binOp .eql 33 (.slice (some a) n cap) (.slice none 0 0)).run Tryd.prog w = .ok (.bool false) w := run_eql_slice_nil (P := Tryd.prog) w 33 5 (some a) n cap Tryd.underlying33
 clear hs hbx
 go_enter Tryd.func36, Tryd.ntmps36
 go_wp2_with (at_builtin; refine app_sl _ rfl _ _ rfl w.heap.size [] l _ (some a) n cap rfl rfl HO.out HS.out (by simp; omega) hxs ?_; refine Hid.out ?_)
 apply hidden
 intro v1 w1 ho1 g1
 replace ho1 : OwnB w1 w.heap.size v1 l := by simpa using ho1
 have HB : Hid (Below w.heap.size w w1) := hidden (HBX.out.trans (g1.below HO.out hxs))
 obtain ⟨g, c, rfl, hg, hgl⟩ : ∃ g c, v1 = .slice (some ⟨g, 0, none⟩) n c ∧ w.heap.size ≤ g ∧ g < w1.heap.size := by
  have hb := ho1
  unfold OwnB at hb
  rcases hb.2 with ⟨e, _⟩ | ⟨g, c, cur, e, hg, hh, _⟩
  ·have := g1.own
   rw [e] at this
   simp [Value.ownBlock] at this
  ·exact ⟨g, c, by rw [e, HLN.out], hg, lt_some hh⟩
 have HO1 := hidden ho1
 clear ho1 g1
 go_wp2
 go_ret
 exact ⟨g, c, rfl, hidden ⟨HO1.out, hg, hgl⟩, HB⟩
theorem numberAt_any (ao : Option Addr) (n cap : Nat) (l : List Int) (p : Nat) (w : World) (hs : Sl w ao n cap l) (hp : p + 4 ≤ n) : Calls Tryd.prog 42 #[.slice ao n cap, .int .i64 (p : Int)] w fun e w' => e = .returned (.int .i64 (rdN l p 4)) ∧ w' = w := by
 have hr := readFixed_ok ao n cap l (p : Int) 4 w hs (by omega) (by omega) (by omega) (by omega)
 have hb := rdN_bound l hs.wf p 4
 rw [Int.toNat_natCast, show ((4 : Int)).toNat = 4 from rfl, show rdB ((l.drop p).take 4) = rdN l p 4 from rfl] at hr
 have hb2 : rdN l p 4 < 4294967296 := by simpa using hb.2
 generalize rdN l p 4 = r at *
 have hw : IntKind.i64.wrap r = r := by rw [IntKind.wrap_i64]; omega
 clear hs
 go_enter Tryd.func42, Tryd.ntmps42
 go_wp2_with (go_at_call 60; refine same_call hr ?_)
 go_ret
 exact ⟨rfl, rfl⟩
end Go.Proofs.YtoejadhlkamcjaaDoor

namespace Go.Proofs.YtoejadhlkamcjaaDoor
set_option maxRecDepth 100000
open Go.RowKit
theorem EncS.shape {n : Int} {d : List Int} {p : Int} {w w' : World} {e : Ending} (h : EncS n d p w e w') : ∃ ao sn k, e = .returned (.tuple #[.slice ao sn sn, .int .i64 k]) ∧ Hid (Below w.heap.size w w') ∧
  Hid ((spE n d p = 0 ∧ k = 0 ∧ ∃ g, ao = some ⟨g, 0, none⟩ ∧ sn = p.toNat ∧ w.heap.size ≤ g ∧ Bk w' g (spB n d p.toNat)) ∨ (spE n d p = k ∧ k ≠ 0 ∧ ao = none ∧ sn = 0)) := by
 obtain ⟨hb, ⟨hz, g, rfl, hg, hk⟩ | ⟨hz, rfl⟩⟩ := h
 ·exact ⟨_, _, _, rfl, hidden hb, hidden (.inl ⟨hz, rfl, g, rfl, rfl, hg, hk⟩)⟩
 ·exact ⟨_, _, _, rfl, hidden hb, hidden (.inr ⟨rfl, hz, rfl, rfl⟩)⟩
def DecS (l : List Int) (w : World) (e : Ending) (w' : World) : Prop :=
 ∃ n ao dn c k, e = .returned (.tuple #[.int .i64 n, .slice ao dn c, .int .i64 k]) ∧ Hid (Below w.heap.size w w') ∧ Hid ((spD l = none ∧ n = 0 ∧ ao = none ∧ dn = 0 ∧ c = 0 ∧ k = 60) ∨
  ∃ d, spD l = some (n, d) ∧ k = 0 ∧ dn = d.length ∧ ∃ g, ao = some ⟨g, 0, none⟩ ∧ w.heap.size ≤ g ∧ OwnB w' w.heap.size (.slice ao dn c) d)
theorem DecS.no {l : List Int} {w w' : World} (h : ¬ spIs l) (hb : Below w.heap.size w w') : DecS l w (.returned (.tuple #[.int .i64 0, .slice none 0 0, .int .i64 60])) w' :=
 ⟨_, _, _, _, _, rfl, hidden hb, hidden (.inl ⟨by unfold spD; rw [if_neg h], rfl, rfl, rfl, rfl, rfl⟩)⟩
theorem spD_no {l : List Int} (h : ¬ spIs l) : spD l = none := by unfold spD; rw [if_neg h]
theorem spD_yes {l : List Int} (h : spIs l) : spD l = some (rdN l 4 4, spT l) := by unfold spD; rw [if_pos h]
theorem Sl.cut9 {w : World} {b off n cap : Nat} {l : List Int} (h : Sl w (some ⟨b, off, none⟩) n cap l) (k c : Nat) (hk : k + c ≤ n) : Sl w (some ⟨b, off + k, none⟩) c (cap - k) ((l.drop k).take c) := by
 have h1 := h.hlen
 have h2 := h.hcap
 have h3 := h.hroom
 refine ⟨by rw [List.length_take, List.length_drop]; omega, by omega, by omega, (h.wf.drop _).take _, (by intro h; cases h), ?_⟩
 rcases h.hat with h0 | ⟨b', o', e, hlt, hc⟩
 ·left; omega
 ·cases e
  refine .inr ⟨b, off + k, rfl, hlt, fun i hi => ?_⟩
  rw [Nat.add_assoc, hc (k + i) (by omega)]
  simp [List.getD, hi]
set_option maxHeartbeats 2000000 in
theorem decS_any (ao : Option Addr) (n cap : Nat) (l : List Int) (w : World) (hs : Sl w ao n cap l) (ht : Tab w) (h0 : 0 < w.heap.size) :
  Calls Tryd.prog 16 #[.slice ao n cap] w fun e w' => DecS l w e w' := by
 have hl := hs.hlen
 have hr := hs.hroom
 have HI := fun u => isSize_any (n : Int) u
 by_cases hp : pw (n : Int)
 ·have e1 : decide (pw (n : Int)) = true := by simpa using hp
  have hpl := pw_le hp
  rcases hs.hat with h | ⟨b, off, rfl, hlt, hc⟩
  ·omega
  have HN4 : Hid (Calls Tryd.prog 42 #[.slice (some ⟨b, off, none⟩) n cap, .int .i64 4] w fun e w' => e = .returned (.int .i64 (rdN l 4 4)) ∧ w' = w) := hidden (numberAt_any _ n cap l 4 w hs (by omega))
  have HN8 : Hid (Calls Tryd.prog 42 #[.slice (some ⟨b, off, none⟩) n cap, .int .i64 8] w fun e w' => e = .returned (.int .i64 (rdN l 8 4)) ∧ w' = w) := hidden (numberAt_any _ n cap l 8 w hs (by omega))
  have r4 := rdN_bound l hs.wf 4 4
  have r8 := rdN_bound l hs.wf 8 4
  simp only [Int.reducePow] at r4 r8
  have HH := fun u => hold_any (n : Int) u (by omega) (by omega)
  obtain ⟨cnt, hcnt⟩ : ∃ cnt : Nat, rdN l 8 4 = (cnt : Int) := ⟨(rdN l 8 4).toNat, by omega⟩
  have HS := hidden hs
  have HT := hidden ht
  have hcap := hs.hcap
  have HPW : Hid (pw (l.length : Int)) := hidden (by rw [hl]; exact hp)
  have HL := hidden hl
  have HCN := hidden hcnt
  obtain ⟨nx, hnx⟩ : ∃ nx, rdN l 4 4 = nx := ⟨_, rfl⟩
  have HNX := hidden hnx
  rw [hnx] at HN4 r4
  rw [hcnt] at HN8 r8
  have hcI : (n : Int) ≤ 65536 := by omega
  have hnI : 512 ≤ (n : Int) := by omega
  have hc2 : ¬ cap = 12 := by omega
  have hc3 : (12 : Int) ≤ (cap : Int) := by omega
  clear hs ht hp hc hl hcnt hnx hpl
  by_cases hq : (n : Int) - 16 < (cnt : Int)
  ·have HNO : Hid (¬ spIs l) := hidden (by
    rintro ⟨_, h2, _⟩
    rw [HCN.out, HL.out] at h2
    omega)
   go_enter Tryd.func16, Tryd.ntmps16
   go_wp2_with (first
    | (go_at_call 37; refine same_call (HI _) ?_; rw [e1])
    | (go_at_call 42; refine same_call HN4.out ?_; refine Hid.out ?_))
   apply hidden
   go_wp2_with (first
    | (go_at_call 42; refine same_call HN8.out ?_)
    | (go_at_call 39; refine same_call (HH _) ?_))
   go_returns
   exact DecS.no HNO.out (Below.refl _ _)
  ·have hq2 : (cnt : Int) ≤ (n : Int) - 16 := by omega
   have hq3 : 12 + cnt ≤ n := by omega
   have HD : Hid (Sl w (some ⟨b, off + 12, none⟩) cnt (cap - 12) (spT l)) := hidden (by
    have := HS.out.cut9 12 cnt hq3
    unfold spT
    rw [HCN.out, Int.toNat_natCast]
    exact this)
   have HE := hidden (encS_any nx (n : Int) _ cnt (cap - 12) (spT l) w HD.out HT.out h0)
   obtain ⟨z, hz⟩ : ∃ z, 12 + cnt = z := ⟨_, rfl⟩
   have hzI : 12 + (cnt : Int) = (z : Int) := by omega
   have z1 : (z : Int) ≤ (cap : Int) := by omega
   have z2 : (12 : Int) ≤ (z : Int) := by omega
   have z3 : z - 12 = cnt := by omega
   have z4 : z ≤ cap := by omega
   have z5 : 12 ≤ z := by omega
   clear hz
   go_enter Tryd.func16, Tryd.ntmps16
   go_wp2_with (first
    | (go_at_call 37; refine same_call (HI _) ?_; rw [e1])
    | (go_at_call 42; refine same_call HN4.out ?_; refine Hid.out ?_))
   apply hidden
   go_wp2_with (first
    | (go_at_call 42; refine same_call HN8.out ?_)
    | (go_at_call 39; refine same_call (HH _) ?_)
    | (go_at_call 15; refine HE.out.mono ?_; intro e w1 hE9; obtain ⟨eo, en, ek, rfl, HB1, HK⟩ := hE9.shape; clear hE9; refine Hid.out ?_))
   apply hidden
   clear HE HN4 HN8 HI HH e1
   rcases HK.out with ⟨hz, rfl, g, rfl, hen, hg, hk⟩ | ⟨hz, hk0, rfl, rfl⟩
   ·rw [Int.toNat_natCast] at hk hen
    rw [hen]
    clear hen
    have hd16 : (spT l).length + 16 ≤ n := by
     have := HD.out.hlen
     omega
    have HSP : Hid (Sl w1 (some ⟨g, 0, none⟩) n n (spB nx (spT l) n)) := hidden (hk.sl (spB_length _ _ _ hd16) (spB_wf n HD.out.wf) hr)
    have HS1 : Hid (Sl w1 (some ⟨b, off, none⟩) n cap l) := hidden (HS.out.on (Nat.le_refl _) HB1.out)
    have HD1 : Hid (Sl w1 (some ⟨b, off + 12, none⟩) cnt (cap - 12) (spT l)) := hidden (HD.out.on (Nat.le_refl _) HB1.out)
    have HEQ := hidden (equal6 _ _ n n n cap _ l w1 HSP.out HS1.out)
    have HCL := hidden (clone_any ⟨b, off + 12, none⟩ cnt (cap - 12) (spT l) w1 HD1.out)
    have HIS : Hid (spIs l ↔ spB nx (spT l) n = l) := hidden (by
     unfold spIs
     rw [HNX.out, HCN.out, HL.out]
     exact ⟨fun h => h.2.2.2, fun h => ⟨by have := HPW.out; rwa [HL.out] at this, by omega, hz, h⟩⟩)
    have HLT : Hid ((spT l).length = cnt) := hidden HD.out.hlen
    clear hk hd16 HK hz
    cases hq5 : decide (spB nx (spT l) n = l) with
    | false =>
     rw [hq5] at HEQ
     have HNO : Hid (¬ spIs l) := hidden (by rw [HIS.out]; simpa using hq5)
     clear hq5 HCL HIS HSP HS1 HD1 HD
     go_wp2_with (first
      | (go_at_call 43; refine same_call HEQ.out ?_))
     go_returns
     exact DecS.no HNO.out HB1.out
    | true =>
     rw [hq5] at HEQ
     have HYE : Hid (spIs l) := hidden (by rw [HIS.out]; simpa using hq5)
     clear hq5 HIS HSP HS1 HD1 HD
     go_wp2_with (first
      | (go_at_call 43; refine same_call HEQ.out ?_)
      | (go_at_call 36; refine HCL.out.mono ?_; rintro e w2 ⟨g2, c2, rfl, HO, HB2⟩))
     go_returns
     refine ⟨_, _, _, _, _, rfl, hidden (bl_go HB1.out (Nat.le_refl _) HB2.out), hidden (.inr ⟨spT l, ?_, rfl, HLT.out.symm, g2, rfl, Nat.le_trans HB1.out.size HO.out.2.1, HO.out.1.low HB1.out.size⟩)⟩
     rw [spD_yes HYE.out, HNX.out]
   ·have HNO : Hid (¬ spIs l) := hidden (by
     rintro ⟨_, _, h3, _⟩
     rw [HNX.out, HL.out, hz] at h3
     exact hk0 h3)
    have hz2 : (ek == 0) = false := by rw [beq_eq_false_iff_ne]; exact hk0
    clear HD HK hz
    go_wp2
    go_returns
    exact DecS.no HNO.out HB1.out
 ·have e1 : decide (pw (n : Int)) = false := by simpa using hp
  have HNO : Hid (¬ spIs l) := hidden (by
   rintro ⟨h1, _⟩
   rw [hl] at h1
   exact hp h1)
  clear hs ht hp
  go_enter Tryd.func16, Tryd.ntmps16
  go_wp2_with (first
   | (go_at_call 37; refine same_call (HI _) ?_; rw [e1]))
  go_returns
  exact DecS.no HNO.out (Below.refl _ _)
end Go.Proofs.YtoejadhlkamcjaaDoor
