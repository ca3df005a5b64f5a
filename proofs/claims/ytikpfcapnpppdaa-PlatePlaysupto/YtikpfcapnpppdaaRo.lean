/- The document's device: Crash, Arm, Safe. -/
import Derived.Test.YtikpfcapnpppdaaRk
namespace Go.Proofs.Ytikpfcapnpppdaa
open Go.RowKit

set_option maxRecDepth 100000 in
theorem rCrash_up (w : World) (F : Nat → Prop) (a : Nat) (r : R) (ao : Option Addr) (kn kc : Nat) (ks : List Int) (tn ta : Int) (h : Rv w F a r) (hk : Ks w ao kn ks) (hF : ∀ k, F k → k < w.heap.size) (hd : r.down = false) (hkF : kn = 0 ∨ ∀ g, ao = some g → ¬ F g.block) :
    Calls Try.prog 56 #[.pointer (some ⟨a, 0, none⟩), .agg #[.slice ao kn kc, .int .i64 tn, .int .i64 ta]] w fun e w' => e = .returned (.tuple #[]) ∧ Rv w' F a (r.fallen ks tn ta) ∧ Ch F w w' := by
  obtain ⟨vL, vW, vK, qs, hc, hf, hr, ha⟩ := h.c
  have c3 : w.cell? ⟨a, 3, none⟩ = some (.bool r.down) := hc 3
  rw [hd] at c3
  have hal := lt_of_some ha
  have hane : ¬ a = w.heap.size := by omega
  have HB : Hid (∀ o, Below w.heap.size w (w.alloc o)) := hidden fun o => (Below.refl _ _).alloc (Nat.le_refl _) o
  have hkq : kn = 0 ∨ ∀ g, ao = some g → g.block ∉ qs := hkF.imp (fun h => h) fun hk g hg hm => by
    obtain ⟨i, hi⟩ := List.getElem?_of_mem hm
    exact hk g hg (hr.hq i _ hi).1
  have HG := hidden (fun o => rfall_at (w.alloc o) F a r vL vW vK qs (((HB.out o).block a hal).trans ha) (hr.keep_ (fun _ f _ => f) hal (HB.out o).size fun k _ _ hk => (HB.out o).block k hk) (fun k hk => by have := hF k hk; simp; omega) ao kn kc ks tn ta (hk.on (HB.out o)) hkq)
  clear hc hf hr ha h hk hF hkq hkF
  go_enter Try.func56, Try.ntmps56
  go_wp2_with (go_at_call 53; refine (HG.out _).mono ?_; rintro e w2 ⟨rfl, hD2, hC2⟩; replace hD2 := hidden hD2; replace hC2 := hidden hC2; refine Hid.out ?_)
  apply hidden
  clear HG
  go_wp2
  go_end0
  exact ⟨rfl, hD2.out, (Ch.of_below (HB.out _)).trans hC2.out fun _ _ h => h⟩
set_option maxRecDepth 100000 in
theorem rCrash_down (w : World) (F : Nat → Prop) (a : Nat) (r : R) (ao : Option Addr) (kn kc : Nat) (tn ta : Int) (h : Rv w F a r) (hd : r.down = true) :
    Calls Try.prog 56 #[.pointer (some ⟨a, 0, none⟩), .agg #[.slice ao kn kc, .int .i64 tn, .int .i64 ta]] w fun e w' => e = .returned (.tuple #[]) ∧ Below w.heap.size w w' := by
  obtain ⟨vL, vW, vK, qs, hc, hf, hr, ha⟩ := h.c
  have c3 : w.cell? ⟨a, 3, none⟩ = some (.bool r.down) := hc 3
  rw [hd] at c3
  have hal := lt_of_some ha
  have hane : ¬ a = w.heap.size := by omega
  clear hc hf hr ha h
  go_enter Try.func56, Try.ntmps56
  go_wp2
  go_end0
  exact ⟨rfl, (Below.refl _ _).alloc (Nat.le_refl _) _⟩

/-- The pages one behind the other. -/
def flatR (L : List (List Int)) : Nat → List Int
  | 0 => []
  | k + 1 => flatR L k ++ L.getD k []
set_option maxRecDepth 100000 in
theorem RRest.flat {w : World} {F : Nat → Prop} {a page : Nat} {L : List (List Int)} {wild : List (Nat × List Int)} {keep : List Int} {vL vW vK : Value} {qs : List Nat} (h : RRest w F a page L wild keep vL vW vK qs) : ∀ k, k ≤ L.length → (flatR L k).length = k * page ∧ Wf (flatR L k)
  | 0, _ => by
    refine ⟨?_, Wf.nil⟩
    simp [flatR]
  | k + 1, hk => by
    obtain ⟨h1, h2⟩ := h.flat k (by omega)
    obtain ⟨_, _, _, _, _, _, _, _, _, _, _, _, _, _, _, h3, h4, _⟩ := h.rowi (n := k) (by omega)
    refine ⟨?_, h2.append h4⟩
    show (flatR L k ++ L.getD k []).length = _
    rw [List.length_append, h1, h3, Nat.succ_mul]

set_option maxRecDepth 100000 in
set_option maxHeartbeats 1000000 in
theorem rSafe_any (w : World) (F : Nat → Prop) (a : Nat) (r : R) (h : Rv w F a r) : Calls Try.prog 36 #[.pointer (some ⟨a, 0, none⟩)] w fun e w' => ∃ ao c, e = .returned (.slice ao (r.L.length * r.page) c) ∧ Sl w' ao (r.L.length * r.page) c (flatR r.L r.L.length) ∧ Below w.heap.size w w' := by
  obtain ⟨vL, vW, vK, qs, hc, hf, hr, ha⟩ := h.c
  obtain ⟨aL, cL, eL, _⟩ := own_val hr.oL
  obtain ⟨n, hn⟩ : ∃ n, r.L.length = n := ⟨_, rfl⟩
  have c1 : w.cell? ⟨a, 1, none⟩ = some (.slice aL n cL) := by rw [← hn, ← eL]; exact hc 1
  have hal := lt_of_some ha
  have HR := hidden hr
  have HN := hidden hn
  have HEL := hidden eL
  have HFL := hidden hr.flat
  have hq2 : n ≤ 65536 := by rw [← hn]; exact hr.q2
  have hp2 := hr.p2
  clear hc hf hr ha h eL
  go_enter Try.func36, Try.ntmps36
  go_wp2_with fail
  go_loopw [3, 4] (fun v i wr => ∃ k : Nat, k ≤ n ∧ i = .int .i64 k ∧ Hid (OwnB wr w.heap.size v (flatR r.L k)) ∧ Hid (Below w.heap.size w wr)) (fun _ i _ => n - (intOf i).toNat)
  case atStart => exact ⟨0, by omega, rfl, hidden (OwnB.nil _ _), hidden (Below.refl _ _)⟩
  case round =>
    obtain ⟨k, hk, rfl, OK, BK⟩ := hrel
    have x1 : wr.cell? ⟨a, 1, none⟩ = some (.slice aL n cL) := (BK.out.cell (p := ⟨a, 1, none⟩) hal).trans c1
    by_cases hlt : k < n
    · have hlt' : (k : Int) < (n : Int) := by omega
      obtain ⟨g, c, q, e1, _, cg, _, _, _, hgl, _, _, _, _, hrow, hlen, hwf, _⟩ := HR.out.rowi (n := k) (by rw [HN.out]; exact hlt)
      rw [HEL.out, HN.out] at e1
      have hao : aL = some ⟨g, 0, none⟩ := by injection e1
      subst hao
      have y1 := (BK.out.cell (p := ⟨g, k, none⟩) hgl).trans cg
      obtain ⟨rk, hrk⟩ : ∃ l, r.L.getD k [] = l := ⟨_, rfl⟩
      rw [hrk] at hrow hlen
      have HFS : Hid (flatR r.L (k + 1) = flatR r.L k ++ rk) := hidden (by rw [← hrk]; rfl)
      have HQC : Hid (∀ j, j < r.page → wr.cell? ((⟨q, 0, none⟩ : Addr).add j) = some (.int .u8 (rk.getD j 0))) := hidden fun j hj => by
        rw [Addr.add_lit, Nat.zero_add]
        exact (BK.out.cell (p := ⟨q, j, none⟩) (lt_of_some hrow)).trans ((cell_of_row hrow).trans (getD_By _ _ (by omega)))
      have HL := hidden hlen
      have hfl : (flatR r.L k).length + r.page ≤ 140737488355328 := by
        rw [(HFL.out k (by rw [HN.out]; omega)).1]
        have : k * r.page ≤ 65536 * 65536 := Nat.mul_le_mul (by omega) hp2
        omega
      have HFLB := hidden hfl
      have hbs : w.heap.size ≤ wr.heap.size := BK.out.size
      clear cg hrow hlen hwf e1 hfl hrk
      go_wp2_with (refine app_bytes _ rfl _ _ rfl w.heap.size (flatR r.L k) _ rfl OK.out ⟨q, 0, none⟩ r.page r.page rk rfl HL.out HQC.out HFLB.out hbs ?_)
      intro v2 w2 o2 b2
      have O2 : Hid (OwnB w2 w.heap.size v2 (flatR r.L (k + 1))) := hidden (by rw [HFS.out]; exact o2)
      have B2 := hidden (BK.out.trans b2)
      clear o2 b2 HQC OK
      go_wp2
      go_roundw
      case rel => exact ⟨k + 1, by omega, by go_num, O2, B2⟩
      case measure => simp [intOf]; omega
    · have hge : ¬ ((k : Int) < (n : Int)) := by omega
      obtain rfl : k = n := by omega
      obtain ⟨l1, l2⟩ := HFL.out k (by rw [HN.out]; exact Nat.le_refl _)
      have hkp : k * r.page ≤ 65536 * 65536 := Nat.mul_le_mul (by omega) hp2
      obtain ⟨ao, cap, hu, hsl, _⟩ := OK.out.sl l2 (by omega)
      rw [l1] at hu hsl
      subst hu
      have HSL := hidden hsl
      clear hsl OK l1 l2 hkp
      go_wp2
      go_ret
      exact ⟨ao, cap, rfl, HSL.out, BK.out⟩
end Go.Proofs.Ytikpfcapnpppdaa
