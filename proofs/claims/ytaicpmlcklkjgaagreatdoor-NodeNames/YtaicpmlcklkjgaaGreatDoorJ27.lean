/- packed.entry: withKey, key. -/
import Derived.Test.YtaicpmlcklkjgaaGreatDoorJ26
import Derived.Deep.RegionLaw
import Derived.Laws.OwnMore
import Derived.Deep.RegionWith
import Derived.Laws.MakeOwn
namespace Go.Proofs.YtaicpmlcklkjgaaGreatDoor
open Go.RowKit

set_option maxRecDepth 100000 in
/-- 'append(out, x...)' as it runs. -/
theorem run_app_sl (w : World) (ty : TypeId) (B : Nat) (l news : List Int) (v : Value) (ao : Option Addr) (n c : Nat) (hown : OwnB w B v l) (hsl : Sl w ao n c news) (hb : l.length + n ≤ 140737488355328) (hbase : B ≤ w.heap.size) :
    ∃ v' w', (Builtin.append_ #[41, 41] ty #[v, .slice ao n c]).run Tryz.prog w = .ok v' w' ∧ OwnB w' B v' (l ++ news) ∧ Gr w v w' v' := by
  obtain ⟨i0, hi, hz0, hz1, hz2⟩ := info_parts info5
  have hlen := hsl.hlen
  cases ao with
  | none =>
    have : n = 0 := by have := hsl.hnil rfl; have := hsl.hcap; omega
    subst this
    have hc0 := hsl.hnil rfl
    subst hc0
    obtain rfl : news = [] := List.eq_nil_of_length_eq_zero hlen
    exact ⟨v, w, run_append_owned_none (P := Tryz.prog) (w := w) B 41 ty 5 i0 1 Tryz.underlying41 hi v l.length (By l) hown, by simpa using hown, Gr.refl _ _⟩
  | some ad =>
    obtain ⟨v', w', hr, h1, h2, _, h4⟩ := run_append_own_at (P := Tryz.prog) w B 41 ty 5 i0 (.int .u8 0) 1 1 Tryz.underlying41 hi hz0 hz1 hz2 rfl (by decide) v l.length (By l) hown ad n c (By news) (by simp [By, hlen])
      (fun j u hu => by
        obtain ⟨h1, h2⟩ := getElem?_By news j u hu
        rw [h2]
        rcases hsl.hat with h0 | ⟨b, off, e, _, hc⟩
        · omega
        · injection e with e
          subst e
          rw [Addr.add_lit]
          exact hc j (by omega)) (By_one news) (by unfold maxLen; omega) (by omega) hbase
    refine ⟨v', w', hr, ?_, ⟨h2, h4.imp id fun e => ⟨_, e, Nat.le_refl _⟩⟩⟩
    unfold OwnB
    rw [By_append, List.length_append, hlen]
    exact h1
set_option maxRecDepth 100000 in
/-- 'append(out, x...)' at a step of a region that draws its order. -/
theorem step_sl {ops : Array Oper} {o : Oper} {a : Act} {w : World} {K : Act → World → Prop} {Q : Exit → Act → World → Prop} {E : Prop} (hgd : o.guard = none) (s x : Operand)
    (ho : o.op = .call { callee := .builtin .append, args := #[s, x], argTypes := #[41, 41] }) (B : Nat) (l news : List Int) (v : Value) (ao : Option Addr) (n c : Nat) (hs : a.eval s = v) (hx : a.eval x = .slice ao n c)
    (hown : OwnB w B v l) (hsl : Sl w ao n c news) (hb : l.length + n ≤ 140737488355328) (hbase : B ≤ w.heap.size)
    (h : ∀ v' w', OwnB w' B v' (l ++ news) → Gr w v w' v' → K (a.put o.dst v') w') :
    if Region.wanted o (yielded ops a.tmps) = true then Oper.wp Tryz.prog o a w K Q else E := by
  have hw : Region.wanted o (yielded ops a.tmps) = true := by simp [Region.wanted, hgd]
  rw [if_pos hw]
  obtain ⟨v', w', hr, h1, h2⟩ := run_app_sl w o.type B l news v ao n c hown hsl hb hbase
  have hfin := h v' w' h1 h2
  unfold Oper.wp
  simp [execOp, ho, resolve, invoke, builtin, hs, hx, hr, Result.andThen]
  exact hfin
set_option maxRecDepth 100000 in
set_option maxHeartbeats 1000000 in
theorem withKey_any (v : Value) (B : Nat) (l : List Int) (ho : Option Addr) (hn hc : Nat) (ko : Option Addr) (kn kc : Nat) (kd : Int) (vo : Option Addr) (vn vc : Nat) (pg ct : Int) (h key : List Int) (w : World) (hown : OwnB w B v l) (hB : B ≤ w.heap.size)
    (hh : Sl w ho hn hc h) (hk : Sl w ko kn kc key) (fh : Far ho hn v) (fk : Far ko kn v) (hl : l.length + hn + kn ≤ 140737488355328) :
    Calls Tryz.prog 232 #[.agg (eV ho hn hc ko kn kc kd vo vn vc pg ct), v] w fun e w' => ∃ v', e = .returned v' ∧ Hid (OwnB w' B v' (l ++ h ++ key)) ∧ Hid (Gr w v w' v') := by
  unfold eV
  obtain ⟨x, hx⟩ : ∃ x, w.alloc (.cells #[.slice ho hn hc, .slice ko kn kc, .int .i64 kd, .slice vo vn vc, .int .i64 pg, .int .i64 ct] 159) = x := ⟨_, rfl⟩
  have hbx : Below w.heap.size w x := by rw [← hx]; exact bl_al (Below.refl _ _) (Nat.le_refl _) _
  have hb6 : E6 x w.heap.size (.slice ho hn hc) (.slice ko kn kc) (.int .i64 kd) (.slice vo vn vc) (.int .i64 pg) (.int .i64 ct) := by rw [← hx]; exact E6.box w _ _ _ _ _ _
  obtain ⟨s, hs⟩ : ∃ s, w.heap.size = s := ⟨_, rfl⟩
  rw [hs] at hb6
  have HB6 := hidden hb6
  obtain ⟨b0, b1, b2, b3, b4, b5⟩ := hb6.cells
  have HO : Hid (OwnB x B v l) := hidden (hown.on (Nat.le_refl _) hbx)
  have HK : Hid (Sl x ko kn kc key) := hidden (hk.on (Nat.le_refl _) hbx)
  have HH : Hid (Sl x ho hn hc h) := hidden (hh.on (Nat.le_refl _) hbx)
  have HG : Hid (Gr w v x v) := hidden (Gr.ofBelow v hbx)
  have hBx : B ≤ x.heap.size := Nat.le_trans hB hbx.size
  have HFH := hidden fh
  have HFK := hidden fk
  have HAP := hidden (HO.out.apart6 hb6)
  have hlh : h.length = hn := hh.hlen
  clear hown hh hk fh fk hbx hb6
  go_enter Tryz.func232, Tryz.ntmps232
  go_wp2_with fail
  go_region_law (first
    | (refine step_sl rfl (.tmp 5) (.tmp 7) rfl B l h v ho hn hc rfl rfl (by first | exact HO.out | exact HO.out.on (Nat.le_refl _) (Below.refl _ _).drew | exact HO.out.on (Nat.le_refl _) (bl_dr (Below.refl _ _) _)) (by first | exact HH.out | exact HH.out.on (Nat.le_refl _) (Below.refl _ _).drew | exact HH.out.drewN _) (by omega) (by first | exact hBx | simpa using hBx) ?_; intro v1 w1 ho1 g1; have hg1 : Gr x v w1 v1 := (Gr.ofBelow v (by first | exact Below.refl _ _ | exact (Below.refl _ _).drew | exact bl_dr (Below.refl _ _) _)).trans g1; have HO1 := hidden ho1; have HK1 := hidden (HK.out.gr hg1 HFK.out); have HG1 := hidden (HG.out.trans hg1); have hB1 : B ≤ w1.heap.size := Nat.le_trans hBx hg1.grow.size; obtain ⟨y0, y1, y2, y3, y4, y5⟩ := (HB6.out.gr hg1 HAP.out).cells; clear ho1 g1 hg1)
    | (refine step_sl rfl (.tmp 8) (.tmp 11) rfl B (l ++ h) key v1 ko kn kc rfl rfl (by first | exact HO1.out | exact HO1.out.on (Nat.le_refl _) (Below.refl _ _).drew | exact HO1.out.on (Nat.le_refl _) (bl_dr (Below.refl _ _) _)) (by first | exact HK1.out | exact HK1.out.on (Nat.le_refl _) (Below.refl _ _).drew | exact HK1.out.drewN _) (by rw [List.length_append]; omega) (by first | exact hB1 | simpa using hB1) ?_; intro v2 w2 ho2 g2; have HO2 := hidden ho2; have HG2 := hidden (HG1.out.trans ((Gr.ofBelow v1 (by first | exact Below.refl _ _ | exact (Below.refl _ _).drew | exact bl_dr (Below.refl _ _) _)).trans g2)); clear ho2 g2))
  all_goals
    go_wp2
    go_ret
    exact ⟨v2, rfl, HO2, HG2⟩
end Go.Proofs.YtaicpmlcklkjgaaGreatDoor

/- packed.entry: key. -/

namespace Go.Proofs.YtaicpmlcklkjgaaGreatDoor
open Go.RowKit

set_option maxRecDepth 100000 in
theorem made_run (N : Nat) (hN : N ≤ 281474976710656) (u : World) : (Instr.makeSlice 41 (.int .i64 0) (.int .i64 (N : Int))).run Tryz.prog u = .ok (.slice (some ⟨u.heap.size, 0, none⟩) 0 N) (u.alloc (.cells (madeCells #[.int .u8 0] N) 5)) := by
  obtain ⟨i0, hi, hz0, hz1, hz2⟩ := info_parts info5
  have hr := run_make (P := Tryz.prog) u 41 5 i0 (.int .u8 0) Tryz.underlying41 hi hz0 .i64 .i64 0 N (Int.le_refl _) (by omega) (by rw [hz2]; omega) (by omega)
  simp only [Int.toNat_zero, Int.toNat_natCast, hz1, Nat.mul_one] at hr
  exact hr
set_option maxRecDepth 100000 in
theorem own_made (N B : Nat) (hN : N ≤ 281474976710656) (u : World) (hB : B ≤ u.heap.size) : OwnB (u.alloc (.cells (madeCells #[.int .u8 0] N) 5)) B (.slice (some ⟨u.heap.size, 0, none⟩) 0 N) [] :=
  World.ownsRow_made u _ N hB (by unfold maxLen; omega) (by rw [Nat.mul_one]; exact size_madeCells _ _)
set_option maxRecDepth 100000 in
set_option maxHeartbeats 2000000 in
theorem keyq_any (ho : Option Addr) (hn hc : Nat) (ko : Option Addr) (kn kc : Nat) (kd : Int) (vo : Option Addr) (vn vc : Nat) (pg ct : Int) (h key : List Int) (w : World)
    (hh : Sl w ho hn hc h) (hk : Sl w ko kn kc key) (hl : hn + kn ≤ 140737488355328) :
    Calls Tryz.prog 203 #[.agg (eV ho hn hc ko kn kc kd vo vn vc pg ct)] w fun e w' => ∃ v', e = .returned v' ∧ Hid (OwnB w' w.heap.size v' (h ++ key)) ∧ Hid (Below w.heap.size w w') := by
  unfold eV
  obtain ⟨x, hx⟩ : ∃ x, w.alloc (.cells #[.slice ho hn hc, .slice ko kn kc, .int .i64 kd, .slice vo vn vc, .int .i64 pg, .int .i64 ct] 159) = x := ⟨_, rfl⟩
  have hbx : Below w.heap.size w x := by rw [← hx]; exact bl_al (Below.refl _ _) (Nat.le_refl _) _
  have hb6 : E6 x w.heap.size (.slice ho hn hc) (.slice ko kn kc) (.int .i64 kd) (.slice vo vn vc) (.int .i64 pg) (.int .i64 ct) := by rw [← hx]; exact E6.box w _ _ _ _ _ _
  obtain ⟨s, hs⟩ : ∃ s, w.heap.size = s := ⟨_, rfl⟩
  have hsx : s < x.heap.size := by rw [← hs]; exact lt_some hb6
  rw [hs] at hb6
  obtain ⟨b0, b1, b2, b3, b4, b5⟩ := hb6.cells
  obtain ⟨N, hN⟩ : ∃ N, hn + kn = N := ⟨_, rfl⟩
  have hNI : (hn : Int) + (kn : Int) = (N : Int) := by omega
  have hNb : N ≤ 140737488355328 := by omega
  have i1 : (hn : Int) ≤ 140737488355328 := by omega
  have i2 : (kn : Int) ≤ 140737488355328 := by omega
  have hwN : IntKind.i64.wrap (N : Int) = (N : Int) := by rw [IntKind.wrap_i64]; omega
  have hmk := made_run N (by omega)
  have HW : Hid (∀ u g, Below x.heap.size x u → OwnB u x.heap.size (.slice (some ⟨g, 0, none⟩) 0 N) [] → Calls Tryz.prog 232 #[.agg #[.slice ho hn hc, .slice ko kn kc, .int .i64 kd, .slice vo vn vc, .int .i64 pg, .int .i64 ct], .slice (some ⟨g, 0, none⟩) 0 N] u fun e w' => ∃ v', e = .returned v' ∧ Hid (OwnB w' w.heap.size v' (h ++ key)) ∧ Hid (Below w.heap.size w w')) := by
    refine hidden fun u g hu hown => ?_
    have hg : x.heap.size ≤ g := (World.ownsRow.lt hown g rfl).1
    have far : ∀ (ao : Option Addr) (n cap : Nat) (l : List Int), Sl x ao n cap l → Far ao n (.slice (some ⟨g, 0, none⟩) 0 N) := by
      intro ao n cap l hsl
      rcases hsl.hat with h0 | ⟨b, off, e, hlt, _⟩
      · exact .inl h0
      · refine .inr fun p hp e2 => ?_
        rw [e] at hp
        injection hp with hp
        subst hp
        injection e2 with e2
        have e3 : g = b := e2
        omega
    have hhx := hh.on (Nat.le_refl _) hbx
    have hkx := hk.on (Nat.le_refl _) hbx
    refine (withKey_any _ x.heap.size [] ho hn hc ko kn kc kd vo vn vc pg ct h key u hown hu.size (hhx.on (Nat.le_refl _) hu) (hkx.on (Nat.le_refl _) hu) (far _ _ _ _ hhx) (far _ _ _ _ hkx) (by simp; omega)).mono ?_
    rintro e w' ⟨v', rfl, HO, HG⟩
    refine ⟨v', rfl, hidden ?_, hidden (hbx.trans ((hu.trans (HG.out.below hown hu.size)).mono hbx.size))⟩
    have := HO.out.low (B := w.heap.size) hbx.size
    simpa using this
  clear hh hk hbx hb6 hN
  go_enter Tryz.func203, Tryz.ntmps203
  go_wp2_with fail
  go_region_with (first | (go_at_call 232; refine (HW.out _ _ ?_ ?_).mono ?_; (repeat (first | exact Below.refl _ _ | apply Below.drew | apply below_drewN | refine bl_al ?_ (Nat.le_refl _) _)); (first | exact own_made N _ (by omega) _ (by simp) | exact (own_made N _ (by omega) _ (by simp)).on (Nat.le_refl _) (Below.refl _ _).drew | exact (own_made N _ (by omega) _ (by simp)).on (Nat.le_refl _) (bl_dr (Below.refl _ _) _)); rintro e w1 ⟨v1, rfl, HO1, HB1⟩))
  all_goals
    go_wp2
    go_ret
    exact ⟨v1, rfl, HO1, HB1⟩
end Go.Proofs.YtaicpmlcklkjgaaGreatDoor
