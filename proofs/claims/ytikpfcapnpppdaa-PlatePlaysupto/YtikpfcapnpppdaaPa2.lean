/- Arm. -/
import Derived.Test.YtikpfcapnpppdaaPa1
import Derived.Deep.RegionHeld3
namespace Go.Proofs.Ytikpfcapnpppdaa
open Go.RowKit

set_option maxRecDepth 100000 in
theorem Dv.set9 {w : World} {F : Nat → Prop} {a : Nat} {d : D} (h : Dv w F a d) (x : Bool) : Dv (w.setCell ⟨a, 9, none⟩ (.bool x)) F a { d with armed := x } := by
  obtain ⟨bs, bl, vL, vK, ha, hr⟩ := h
  exact ⟨bs, bl, vL, vK, heap_setCell_self ha, hr.self (lt_of_some ha) 9 _⟩
set_option maxRecDepth 100000 in
theorem Dv.set10 {w : World} {F : Nat → Prop} {a : Nat} {d : D} (h : Dv w F a d) (x : Int) : Dv (w.setCell ⟨a, 10, none⟩ (.int .i64 x)) F a { d with left := x } := by
  obtain ⟨bs, bl, vL, vK, ha, hr⟩ := h
  exact ⟨bs, bl, vL, vK, heap_setCell_self ha, hr.self (lt_of_some ha) 10 _⟩

set_option maxRecDepth 100000 in
/-- The plan is laid into the device. -/
theorem Dv.plan {u : World} {F G : Nat → Prop} {a : Nat} {d : D} {ao : Option Addr} {n c : Nat} {ks : List Int} {tn ta : Int} (h : Dv u F a d) (hG : ∀ k, F k → G k) (hk : Kf u (fun k => G k ∧ ¬ F k) ao n c ks) : Dv (((u.setCell ⟨a, 11, none⟩ (.slice ao n c)).setCell ⟨a, 12, none⟩ (.int .i64 tn)).setCell ⟨a, 13, none⟩ (.int .i64 ta)) G a { d with torn := tn, tat := ta, keep := ks } := by
  obtain ⟨bs, bl, vL, vK, ha, hr⟩ := h
  have hal := lt_of_some ha
  have hz : (((u.setCell ⟨a, 11, none⟩ (.slice ao n c)).setCell ⟨a, 12, none⟩ (.int .i64 tn)).setCell ⟨a, 13, none⟩ (.int .i64 ta)).heap.size = u.heap.size := by simp [World.setCell]
  have hb : ∀ k, k ≠ a → (((u.setCell ⟨a, 11, none⟩ (.slice ao n c)).setCell ⟨a, 12, none⟩ (.int .i64 tn)).setCell ⟨a, 13, none⟩ (.int .i64 ta)).heap[k]? = u.heap[k]? := fun k hk => by
    rw [Below.heap_setCell _ _ _ _ hk, Below.heap_setCell _ _ _ _ hk, Below.heap_setCell _ _ _ _ hk]
  have hr' := hr.keep (G := G) (w' := ((u.setCell ⟨a, 11, none⟩ (.slice ao n c)).setCell ⟨a, 12, none⟩ (.int .i64 tn)).setCell ⟨a, 13, none⟩ (.int .i64 ta)) (fun k hk _ => hG k hk) hal (by rw [hz]; exact Nat.le_refl _) fun k _ hk _ => hb k hk
  refine ⟨bs, bl, vL, .slice ao n c, heap_setCell_self (heap_setCell_self (heap_setCell_self ha)), ⟨hr'.fa, hr'.fs, hr'.fl, hr'.n1, hr'.n2, hr'.n3, hr'.hs, hr'.hl, hr'.ns, hr'.nl, hr'.ws, hr'.p1, hr'.p2, hr'.q1, hr'.q2, hr'.q3, hr'.lo, ?_, hr'.lst, hr'.few⟩⟩
  obtain ⟨k1, k2, k3, k4, k5⟩ := hk
  refine ⟨ao, n, c, rfl, k1, k2, by omega, k4, ?_⟩
  rcases k5 with k5 | ⟨g, off, e, ⟨g1, g2⟩, g3, g4⟩
  · exact .inl k5
  · have ga : g ≠ a := fun e => g2 (e ▸ hr.fa)
    refine .inr ⟨g, off, e, g1, ga, fun e => g2 (e ▸ hr.fs), fun e => g2 (e ▸ hr.fl), fun e => g2 (hr.lo.own g e).1, by rw [hz]; exact g3, fun i hi => ?_⟩
    rw [World.cell?_of_block (w := u) (a := ⟨g, off + i, none⟩) (hb g ga)]
    exact g4 i hi

def D.arm (d : D) (acts : Int) (ks : List Int) (tn ta : Int) : D := { d with armed := true, left := acts, torn := tn, tat := ta, keep := ks }

set_option maxRecDepth 100000 in
set_option maxHeartbeats 2000000 in
theorem Arm_up (w : World) (F : Nat → Prop) (a : Nat) (d : D) (acts : Int) (ao : Option Addr) (n c : Nat) (ks : List Int) (tn ta : Int) (h : Dv w F a d) (hF : ∀ k, F k → k < w.heap.size) (hd : d.down = false) (h0 : 0 ≤ acts) (hk : Ks w ao n ks) (hn : n ≤ 17592186044416) (hnil : ao = none → n = 0 ∧ c = 0) (hkF : n = 0 ∨ ∀ g, ao = some g → ¬ F g.block) :
    Calls Try.prog 54 #[.pointer (some ⟨a, 0, none⟩), .int .i64 acts, .agg #[.slice ao n c, .int .i64 tn, .int .i64 ta]] w fun e u => e = .returned (.tuple #[]) ∧ Dv u (fun k => F k ∨ (w.heap.size ≤ k ∧ k < u.heap.size)) a (d.arm acts ks tn ta) ∧ Ch F w u := by
  obtain ⟨bs, bl, vL, vK, hc, hf, hr, ha⟩ := h.c
  have c8 : w.cell? ⟨a, 8, none⟩ = some (.bool d.down) := hc 8
  rw [hd] at c8
  have hal := lt_of_some ha
  have hane : ¬ a = w.heap.size := by omega
  clear hc hf hr ha bs bl vL vK
  have HB : Hid (∀ o, Below w.heap.size w (w.alloc o)) := hidden fun o => (Below.refl _ _).alloc (Nat.le_refl _) o
  have HD0 := hidden (fun o => disarm_any (w.alloc o) F a d (h.on (Nat.le_refl _) (HB.out o)))
  have HK := hidden hk
  have HF := hidden hF
  have HNIL := hidden hnil
  have HKF := hidden hkF
  clear h hk hF hnil hkF
  go_enter Try.func54, Try.ntmps54
  go_wp2_with (go_at_call 60; refine (HD0.out _).mono ?_; rintro e w2 ⟨rfl, hD2, hC2, hz2⟩; have HD2 := hidden hD2; have HC2 := hidden hC2; have HZ2 := hidden hz2; clear hD2 hC2 hz2; refine Hid.out ?_)
  apply hidden
  clear HD0 c8
  obtain ⟨bs, bl, vL, vK, hc, hf, hr, ha⟩ := HD2.out.c
  have f9 := hf 9
  have f10 := hf 10
  obtain ⟨y9, c9⟩ : ∃ y, w2.cell? ⟨a, 9, none⟩ = some y := ⟨_, hc 9⟩
  obtain ⟨y10, c10⟩ : ∃ y, w2.cell? ⟨a, 10, none⟩ = some y := ⟨_, hc 10⟩
  have hnF : ¬ F w.heap.size := fun e => by have := HF.out _ e; omega
  have hbx : w2.heap[w.heap.size]? = some (.cells #[.slice ao n c, .int .i64 tn, .int .i64 ta] 38 (0, 0)) := by
    rw [HC2.out.block w.heap.size (by simp) hnF]
    show (w.heap.push _)[w.heap.size]? = _
    simp
  have HBX := hidden hbx
  clear hc hf hr ha bs bl vL vK hbx
  go_wp2_with fail
  have hD3 : Dv ((w2.setCell ⟨a, 9, none⟩ (.bool true)).setCell ⟨a, 10, none⟩ (.int .i64 acts)) F a { d with armed := true, left := acts, torn := 0, tat := 0, keep := [] } := (HD2.out.set9 true).set10 acts
  have hC3 : Ch F w ((w2.setCell ⟨a, 9, none⟩ (.bool true)).setCell ⟨a, 10, none⟩ (.int .i64 acts)) := (((Ch.of_below (HB.out _)).trans HC2.out fun _ _ h => h).trans (Ch.setCell (F := F) w2 HD2.out.fa _) fun _ _ h => h).trans (Ch.setCell (F := F) _ HD2.out.fa _) fun _ _ h => h
  have hX3 : ((w2.setCell ⟨a, 9, none⟩ (.bool true)).setCell ⟨a, 10, none⟩ (.int .i64 acts)).heap[w.heap.size]? = some (.cells #[.slice ao n c, .int .i64 tn, .int .i64 ta] 38 (0, 0)) := by
    rw [Below.heap_setCell _ _ _ _ (fun e => hane e.symm), Below.heap_setCell _ _ _ _ (fun e => hane e.symm)]; exact HBX.out
  clear HD2 HC2 HZ2 HBX c9 c10 f9 f10 HB
  generalize ((w2.setCell ⟨a, 9, none⟩ (.bool true)).setCell ⟨a, 10, none⟩ (.int .i64 acts)) = w3 at hD3 hC3 hX3 ⊢
  have b0 : w3.cell? ⟨w.heap.size, 0, none⟩ = some (.slice ao n c) := by simp [World.cell?, hX3]
  have b1 : w3.cell? ⟨w.heap.size, 1, none⟩ = some (.int .i64 tn) := by simp [World.cell?, hX3]
  have b2 : w3.cell? ⟨w.heap.size, 2, none⟩ = some (.int .i64 ta) := by simp [World.cell?, hX3]
  have hl3 : w.heap.size < w3.heap.size := lt_of_some hX3
  have hK3 : Ks w3.drew ao n ks := by
    refine ⟨HK.out.hlen, HK.out.hroom, ?_⟩
    rcases HKF.out with h0 | hkF
    · exact .inl h0
    rcases HK.out.hat with h0 | ⟨b, off, e, hlt, hc⟩
    · exact .inl h0
    · refine .inr ⟨b, off, e, by show b < w3.heap.size; omega, fun i hi => ?_⟩
      rw [← hc i hi]
      exact World.cell?_of_block (w := w) (a := ⟨b, off + i, none⟩) (hC3.block b hlt (hkF _ e))
  have HCL : Hid (Calls Try.prog 61 #[.slice ao n c] w3.drew fun e u => ∃ ao' c', e = .returned (.slice ao' n c') ∧ Hid (Kf u (fun k => w3.heap.size ≤ k) ao' n c' ks) ∧ Hid (Below w3.heap.size w3 u) ∧ u.cell? ⟨w.heap.size, 0, none⟩ = some (.slice ao n c) ∧ u.cell? ⟨w.heap.size, 1, none⟩ = some (.int .i64 tn) ∧ u.cell? ⟨w.heap.size, 2, none⟩ = some (.int .i64 ta) ∧
      (∃ y, u.cell? ⟨a, 11, none⟩ = some y) ∧ (∃ y, u.cell? ⟨a, 12, none⟩ = some y) ∧ (∃ y, u.cell? ⟨a, 13, none⟩ = some y) ∧ u.frozen? ⟨a, 11, none⟩ = false ∧ u.frozen? ⟨a, 12, none⟩ = false ∧ u.frozen? ⟨a, 13, none⟩ = false) := hidden (by
    refine (Clone_any w3.drew ao n c ks hK3 hn HNIL.out).mono ?_
    rintro e u ⟨ao', c', rfl, hkf, hb⟩
    have hb' : Below w3.heap.size w3 u := ⟨hb.os, hb.tape, hb.output, hb.size, hb.block⟩
    obtain ⟨bs, bl, vL, vK, hc, hf, hr, ha⟩ := (hD3.on (Nat.le_refl _) hb').c
    exact ⟨ao', c', rfl, hidden hkf, hidden hb', (hb'.cell (p := ⟨w.heap.size, 0, none⟩) hl3).trans b0, (hb'.cell (p := ⟨w.heap.size, 1, none⟩) hl3).trans b1, (hb'.cell (p := ⟨w.heap.size, 2, none⟩) hl3).trans b2, ⟨_, hc 11⟩, ⟨_, hc 12⟩, ⟨_, hc 13⟩, hf 11, hf 12, hf 13⟩)
  have HD3 := hidden hD3
  have HC3 := hidden hC3
  have hwa : ¬ w.heap.size = a := fun e => hane e.symm
  clear hD3 hC3 hX3 hK3 HK HKF HNIL
  go_region_held3 (fun u => u.cell? ⟨w.heap.size, 0, none⟩ = some (.slice ao n c) ∧ u.cell? ⟨w.heap.size, 1, none⟩ = some (.int .i64 tn) ∧ u.cell? ⟨w.heap.size, 2, none⟩ = some (.int .i64 ta)) (go_keep)
    (first | (go_at_call 61; refine HCL.out.mono ?_; rintro e u ⟨ao', c', rfl, KF, BU, u0, u1, u2, ⟨y11, x11⟩, ⟨y12, x12⟩, ⟨y13, x13⟩, z11, z12, z13⟩))
  go_end0
  have hDU := HD3.out.on (Nat.le_refl _) BU.out
  have hz : (((u.setCell ⟨a, 11, none⟩ (.slice ao' n c')).setCell ⟨a, 12, none⟩ (.int .i64 tn)).setCell ⟨a, 13, none⟩ (.int .i64 ta)).heap.size = u.heap.size := by simp [World.setCell]
  have hfa := HD3.out.fa
  refine ⟨rfl, hDU.plan (fun k hk => .inl hk) ?_, ((((HC3.out.trans (Ch.of_below (F := F) BU.out) fun _ _ h => h).trans (Ch.setCell (F := F) u hfa _) fun _ _ h => h).trans (Ch.setCell (F := F) _ hfa _) fun _ _ h => h).trans (Ch.setCell (F := F) _ hfa _) fun _ _ h => h)⟩
  obtain ⟨k1, k2, k3, k4, k5⟩ := KF.out
  refine ⟨k1, k2, k3, k4, ?_⟩
  rcases k5 with k5 | ⟨g, off, e, g1, g2, g3⟩
  · exact .inl k5
  · exact .inr ⟨g, off, e, ⟨.inr ⟨by omega, by rw [hz]; exact g2⟩, fun hf => by have := HF.out g hf; omega⟩, g2, g3⟩
end Go.Proofs.Ytikpfcapnpppdaa
