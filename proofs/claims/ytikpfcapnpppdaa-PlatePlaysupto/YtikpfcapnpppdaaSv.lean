/- Arm and Crash of both. -/
import Derived.Test.YtikpfcapnpppdaaSo
import Derived.Test.YtikpfcapnpppdaaRw
import Derived.Test.YtikpfcapnpppdaaRq
namespace Go.Proofs.Ytikpfcapnpppdaa
open Go.RowKit

/-- The numbers of a plan lie outside F. -/
structure Pl_ (w : World) (F : Nat → Prop) (ao : Option Addr) (n c : Nat) (ks : List Int) : Prop where
  ks : Ks w ao n ks
  le : n ≤ 17592186044416
  nil : ao = none → n = 0 ∧ c = 0
  out : n = 0 ∨ ∀ g, ao = some g → ¬ F g.block
set_option maxRecDepth 100000 in
theorem Dv.fn {w u : World} {F : Nat → Prop} {a : Nat} {d : D} (h : Dv u F a d) : Dv u (Fn F w u) a d := h.keep (fun _ f _ => .inl f) (Nat.le_refl _) fun _ _ _ => rfl
set_option maxRecDepth 100000 in
theorem Rv.fn {w u : World} {F : Nat → Prop} {a : Nat} {r : R} (h : Rv u F a r) : Rv u (Fn F w u) a r := h.keep_ (fun _ f _ => .inl f) (Nat.le_refl _) fun _ _ _ => rfl
set_option maxRecDepth 100000 in
theorem arm_both {d : D} {r : R} (F G : Nat → Prop) (pa ra t : Nat) (acts : Int) (ha : acts ≤ 9223372036854775807) (ks : List Int) (tn ta : Int) (h : Tw d r) (n2 : d.loose.length ≤ t) (n6 : d.armed = true → 0 ≤ d.left ∧ d.left ≤ 9223372036854775807) :
    ∃ (d' : D) (r' : R), Tw d' r' ∧ d'.loose.length ≤ t ∧ d'.cr = d.cr ∧ d'.cw = d.cw ∧ d'.cs = d.cs ∧ (d'.armed = true → 0 ≤ d'.left ∧ d'.left ≤ 9223372036854775807)
      ∧ (∀ w ao n c, Dv w F pa d → (∀ k, F k → k < w.heap.size) → Pl_ w F ao n c ks → Calls Try.prog 54 #[.pointer (some ⟨pa, 0, none⟩), .int .i64 acts, .agg #[.slice ao n c, .int .i64 tn, .int .i64 ta]] w fun e u => e = .returned (.tuple #[]) ∧ Dv u (Fn F w u) pa d' ∧ Ch F w u)
      ∧ (∀ w ao n c, Rv w G ra r → (∀ k, G k → k < w.heap.size) → Pl_ w G ao n c ks → Calls Try.prog 55 #[.pointer (some ⟨ra, 0, none⟩), .int .i64 acts, .agg #[.slice ao n c, .int .i64 tn, .int .i64 ta]] w fun e u => e = .returned (.tuple #[]) ∧ Rv u (Fn G w u) ra r' ∧ Ch G w u) := by
  cases hd : d.down
  case true =>
    refine ⟨d, r, h, n2, rfl, rfl, rfl, n6, fun w ao n c hD hF hp => ?_, fun w ao n c hR hG hp => ?_⟩
    · refine (Arm_down w F pa d acts ao n c tn ta hD hd).mono ?_
      rintro e u ⟨rfl, hb⟩
      exact ⟨rfl, (hD.on (Nat.le_refl _) hb).fn, Ch.of_below hb⟩
    · refine (rArm_down w G ra r acts ao n c tn ta hR (h.down.trans hd)).mono ?_
      rintro e u ⟨rfl, hb⟩
      exact ⟨rfl, (hR.ch (Ch.of_below (F := fun _ => False) hb) fun _ _ _ h => h).fn, Ch.of_below hb⟩
  case false =>
    by_cases h0 : 0 ≤ acts
    · refine ⟨d.arm acts ks tn ta, r.arm acts ks tn ta, h.arm acts h0 ks tn ta, n2, rfl, rfl, rfl, fun _ => ⟨h0, ha⟩, fun w ao n c hD hF hp => ?_, fun w ao n c hR hG hp => ?_⟩
      · exact Arm_up w F pa d acts ao n c ks tn ta hD hF hd h0 hp.ks hp.le hp.nil hp.out
      · exact rArm_up w G ra r acts ao n c ks tn ta hR hG (h.down.trans hd) hp.ks hp.le hp.nil hp.out
    · refine ⟨{ d with armed := false, left := 0, torn := 0, tat := 0, keep := [] }, r.arm acts ks tn ta, h.off acts (by omega) ks tn ta, n2, rfl, rfl, rfl, (fun e => by cases e), fun w ao n c hD hF hp => ?_, fun w ao n c hR hG hp => ?_⟩
      · refine (Arm_off w F pa d acts ao n c tn ta hD hd (by omega)).mono ?_
        rintro e u ⟨rfl, hD2, hc⟩
        exact ⟨rfl, hD2.fn, hc⟩
      · exact rArm_up w G ra r acts ao n c ks tn ta hR hG (h.down.trans hd) hp.ks hp.le hp.nil hp.out
set_option maxRecDepth 100000 in
theorem crash_both {d : D} {r : R} (F G : Nat → Prop) (pa ra t : Nat) (ks : List Int) (tn ta : Int) (h : Tw d r) (n2 : d.loose.length ≤ t) (n6 : d.armed = true → 0 ≤ d.left ∧ d.left ≤ 9223372036854775807) :
    ∃ (d' : D) (r' : R), Tw d' r' ∧ d'.loose.length ≤ t ∧ d'.cr = d.cr ∧ d'.cw = d.cw ∧ d'.cs = d.cs ∧ (d'.armed = true → 0 ≤ d'.left ∧ d'.left ≤ 9223372036854775807)
      ∧ (∀ w ao n c, Dv w F pa d → (∀ k, F k → k < w.heap.size) → Pl_ w F ao n c ks → Calls Try.prog 21 #[.pointer (some ⟨pa, 0, none⟩), .agg #[.slice ao n c, .int .i64 tn, .int .i64 ta]] w fun e u => e = .returned (.tuple #[]) ∧ Dv u (Fn F w u) pa d' ∧ Ch F w u)
      ∧ (∀ w ao n c, Rv w G ra r → (∀ k, G k → k < w.heap.size) → Pl_ w G ao n c ks → Calls Try.prog 56 #[.pointer (some ⟨ra, 0, none⟩), .agg #[.slice ao n c, .int .i64 tn, .int .i64 ta]] w fun e u => e = .returned (.tuple #[]) ∧ Rv u (Fn G w u) ra r' ∧ Ch G w u) := by
  cases hd : d.down
  case true =>
    refine ⟨d, r, h, n2, rfl, rfl, rfl, n6, fun w ao n c hD hF hp => ?_, fun w ao n c hR hG hp => ?_⟩
    · refine (Crash_down w F pa d ao n c tn ta hD hd).mono ?_
      rintro e u ⟨rfl, hb⟩
      exact ⟨rfl, (hD.on (Nat.le_refl _) hb).fn, Ch.of_below hb⟩
    · refine (rCrash_down w G ra r ao n c tn ta hR (h.down.trans hd)).mono ?_
      rintro e u ⟨rfl, hb⟩
      exact ⟨rfl, (hR.ch (Ch.of_below (F := fun _ => False) hb) fun _ _ _ h => h).fn, Ch.of_below hb⟩
  case false =>
    refine ⟨d.fallen ks tn ta, r.fallen ks tn ta, h.fallen ks tn ta, Nat.zero_le _, rfl, rfl, rfl, (fun e => by cases e), fun w ao n c hD hF hp => ?_, fun w ao n c hR hG hp => ?_⟩
    · refine (Crash_up w F pa d ao n c ks tn ta hD hp.ks hF hd).mono ?_
      rintro e u ⟨rfl, hD2, hc⟩
      exact ⟨rfl, hD2.fn, hc⟩
    · refine (rCrash_up w G ra r ao n c ks tn ta hR hp.ks hG (h.down.trans hd) hp.out).mono ?_
      rintro e u ⟨rfl, hD2, hc⟩
      exact ⟨rfl, hD2.fn, hc⟩
end Go.Proofs.Ytikpfcapnpppdaa
