/- Safe; Image of a device without loose writes; Load. -/
import Derived.Test.YtbnjojplfbibkaaGreatDoorPl12
namespace Go.Proofs.YtbnjojplfbibkaaGreatDoor
open Go.RowKit

set_option maxRecDepth 100000 in
theorem sl_src {w : World} {ao : Option Addr} {n c : Nat} {l : List Int} (h : Sl w ao n c l) (h0 : 0 < n) : ∃ b off, ao = some ⟨b, off, none⟩ ∧ b < w.heap.size ∧ ∀ j v, (By l)[j]? = some v → w.cell? ((⟨b, off, none⟩ : Addr).add j) = some v := by
  rcases h.hat with h1 | ⟨b, off, e, hb, hc⟩
  · omega
  · refine ⟨b, off, e, hb, fun j v hv => ?_⟩
    obtain ⟨h1, rfl⟩ := getElem?_By l j v hv
    rw [Addr.add_lit]
    exact hc j (by rw [← h.hlen]; exact h1)

set_option maxRecDepth 100000 in
theorem below_setRow {w w' : World} (h : Below w.heap.size w w') {g : Nat} (hg : w.heap.size ≤ g) (cs : Array Value) : Below w.heap.size w (w'.setRow g cs) :=
  h.trans ((Ch.setRow (F := fun k => k = g) w' rfl cs).below h.size fun k hk e => by omega)

set_option maxRecDepth 100000 in
theorem Load_page (w : World) (ao : Option Addr) (n c : Nat) (x : Int) (h : pgs x = false) : Calls Tryz.prog 25 #[.slice ao n c, .int .i64 x] w fun e w' => e = .returned (.tuple #[.pointer none, .int .i64 32]) ∧ w' = w := by
  have hp := isPageSize_any x
  rw [h] at hp
  go_enter Tryz.func25, Tryz.ntmps25
  go_wp2_with (go_at_call 37; refine same_call (hp _) ?_)
  go_ret2
  exact ⟨rfl, rfl⟩
set_option maxRecDepth 100000 in
theorem Load_rest (w : World) (ao : Option Addr) (n c : Nat) (x : Nat) (hn : n ≤ 140737488355328) (h : pgs x = true) (hm : n % x ≠ 0) : Calls Tryz.prog 25 #[.slice ao n c, .int .i64 (x : Int)] w fun e w' => e = .returned (.tuple #[.pointer none, .int .i64 32]) ∧ w' = w := by
  have hp := isPageSize_any x
  rw [h] at hp
  simp only [pgs, decide_eq_true_eq] at h
  have h1 : (512 : Int) ≤ x := by omega
  have h2 : (x : Int) ≤ 65536 := by omega
  have hmi : ¬ ((n : Int) % (x : Int) = 0) := by omega
  clear h hm
  go_enter Tryz.func25, Tryz.ntmps25
  go_wp2_with (go_at_call 37; refine same_call (hp _) ?_)
  go_ret2
  exact ⟨rfl, rfl⟩
set_option maxRecDepth 100000 in
theorem Load_dev (w : World) (ao : Option Addr) (n c : Nat) (x y : Nat) (hn : n ≤ 140737488355328) (h : pgs x = true) (hm : n = x * y) (hd : dev x y = false) : Calls Tryz.prog 25 #[.slice ao n c, .int .i64 (x : Int)] w fun e w' => e = .returned (.tuple #[.pointer none, .int .i64 32]) ∧ w' = w := by
  have hp := isPageSize_any x
  rw [h] at hp
  have hN := New_no x y w hd
  simp only [pgs, decide_eq_true_eq] at h
  have h1 : (512 : Int) ≤ x := by omega
  have h2 : (x : Int) ≤ 65536 := by omega
  have hm0 : (n : Int) % (x : Int) = 0 := by rw [hm]; simp
  have hq : (n : Int) / (x : Int) = (y : Int) := by rw [hm, Int.natCast_mul]; exact Int.mul_ediv_cancel_left _ (by omega)
  have hyb : (y : Int) ≤ 140737488355328 := by
    have : y ≤ x * y := Nat.le_mul_of_pos_left _ (by omega)
    omega
  clear h hm
  go_enter Tryz.func25, Tryz.ntmps25
  go_wp2_with (first | (go_at_call 37; refine same_call (hp _) ?_) | (go_at_call 38; refine same_call hN ?_))
  go_ret2
  exact ⟨rfl, rfl⟩

set_option maxRecDepth 100000 in
theorem Rest.laid {w w' : World} {F : Nat → Prop} {a page pages : Nat} {safe safe' : List Int} {loose : List (Nat × List Int)} {last keep : List Int} {bs bl : Nat} {vL vK : Value} (h : Rest w F a page pages safe loose last keep bs bl vL vK) (hu : w' = w.setRow bs (By safe').toArray) (hl : safe'.length = page * pages) (hw : Wf safe') : Rest w' F a page pages safe' loose last keep bs bl vL vK := by
  subst hu
  exact h.resafe (Ch.setRow (F := fun j => j = bs) _ rfl _) (setRow_heap _ _ _ _ _ _ h.hs) hl hw

set_option maxRecDepth 100000 in
set_option maxHeartbeats 1000000 in
theorem Load_yes (w : World) (ao : Option Addr) (n c : Nat) (l : List Int) (x y : Nat) (hs : Sl w ao n c l) (hm : n = x * y) (hd : dev x y = true) : Calls Tryz.prog 25 #[.slice ao n c, .int .i64 (x : Int)] w fun e w' => ∃ a, e = .returned (.tuple #[.pointer (some ⟨a, 0, none⟩), .int .i64 0]) ∧ Dv w' (fun k => w.heap.size ≤ k ∧ k < w'.heap.size) a { d0 x y with safe := l } ∧ Below w.heap.size w w' := by
  obtain ⟨i0, hi, hz0, hz1, hz2⟩ := info_parts info5
  have hsz : (Tryz.prog.info? 5).map (·.size) = some 1 := by rw [hi]; simp [hz1]
  have h : pgs x = true := by simp only [dev, decide_eq_true_eq] at hd; exact hd.1
  have hp := isPageSize_any x
  rw [h] at hp
  have hN := New_yes x y w hd
  have hroom := hs.hroom
  have h4 : 4 ≤ y := by simp only [dev, decide_eq_true_eq] at hd; omega
  simp only [pgs, decide_eq_true_eq] at h
  have h1 : (512 : Int) ≤ x := by omega
  have h2 : (x : Int) ≤ 65536 := by omega
  have hm0 : (n : Int) % (x : Int) = 0 := by rw [hm]; simp
  have hq : (n : Int) / (x : Int) = (y : Int) := by rw [hm, Int.natCast_mul]; exact Int.mul_ediv_cancel_left _ (by omega)
  have hyb : (y : Int) ≤ 140737488355328 := by
    have : y ≤ x * y := Nat.le_mul_of_pos_left _ (by omega)
    omega
  have hn0 : 0 < n := by rw [hm]; exact Nat.mul_pos (by omega) (by omega)
  have HLEN := hidden hs.hlen
  have HWF := hidden hs.wf
  obtain ⟨b, off, rfl, hbl, hsrc⟩ := sl_src hs hn0
  have HSR := hidden hsrc
  have HM := hidden hm
  clear h hm hs hsrc hi hz0 hz1 hz2 hd
  go_enter Tryz.func25, Tryz.ntmps25
  go_wp2_with (first | (go_at_call 37; refine same_call (hp _) ?_) | (go_at_call 38; refine hN.mono ?_; rintro e w1 ⟨a, rfl, hD, hb⟩; have HD := hidden hD; have HB := hidden hb; clear hD hb; refine Hid.out ?_))
  apply hidden
  clear hN hp hm0 hq
  obtain ⟨bs, bl, vL, vK, hc, hf, hr, ha⟩ := HD.out.c
  have c2 : w1.cell? ⟨a, 2, none⟩ = some (.slice (some ⟨bs, 0, none⟩) n n) := by rw [HM.out]; exact hc 2
  have HR := hidden hr
  have HA := hidden ha
  have HSRC : Hid (∀ j v, (By l)[j]? = some v → w1.cell? ((⟨b, off, none⟩ : Addr).add j) = some v) := hidden fun j v hv => by
    have := HSR.out j v hv
    rw [Addr.add_lit] at this ⊢
    exact (HB.out.cell (p := ⟨b, off + j, none⟩) hbl).trans this
  have HCL : Hid ((By (d0 x y).safe).length = n) := hidden (by rw [By_length, HM.out]; simp [d0])
  have HS := hidden hr.hs
  clear hc hf hr ha HSR HD
  go_wp2_with (refine copy_row rfl _ _ 28 28 rfl 5 Tryz.underlying28 hsz bs 0 n n ⟨b, off, none⟩ n c rfl rfl (By (d0 x y).safe) 5 HS.out (By l) (by rw [By_length, HLEN.out]; exact (Nat.min_self _).symm) HSRC.out (by rw [By_length, HLEN.out, HCL.out]; omega) (By_one _) ?_; intro u3 HU; refine Hid.out ?_)
  apply hidden
  go_wp2
  go_ret2
  have hu : u3 = w1.setRow bs (By l).toArray := by rw [HU.out, splice_all _ _ (by rw [HCL.out, By_length, HLEN.out])]
  have hz : u3.heap.size = w1.heap.size := by rw [hu]; simp [World.setRow]
  have hr' := HR.out.laid hu (by rw [HLEN.out, HM.out]; rfl) HWF.out
  refine ⟨a, rfl, ⟨bs, bl, vL, vK, ?_, hr'.keep (fun k hk _ => by rw [hz]; exact hk) (by rw [hz]; exact lt_of_some HA.out) (Nat.le_refl _) (fun _ _ _ _ => rfl)⟩, ?_⟩
  · rw [hu, setRow_other _ _ _ _ (fun e => HR.out.n1 e.symm)]
    exact HA.out
  · rw [hu]
    exact below_setRow HB.out HR.out.fs.1 _
end Go.Proofs.YtbnjojplfbibkaaGreatDoor
