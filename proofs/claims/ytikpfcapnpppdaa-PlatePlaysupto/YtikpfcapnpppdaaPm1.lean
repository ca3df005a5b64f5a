/- Safe; Image of a device without loose writes; Load. -/
import Derived.Test.YtikpfcapnpppdaaPl12
namespace Go.Proofs.Ytikpfcapnpppdaa
open Go.RowKit

set_option maxRecDepth 100000 in
theorem sl_src {w : World} {ao : Option Addr} {n c : Nat} {l : List Int} (h : Sl w ao n c l) (h0 : 0 < n) : ∃ b off, ao = some ⟨b, off, none⟩ ∧ b < w.heap.size ∧ ∀ j v, (By l)[j]? = some v → w.cell? ((⟨b, off, none⟩ : Addr).add j) = some v := by
  rcases h.hat with h1 | ⟨b, off, e, hb, hc⟩
  · omega
  · refine ⟨b, off, e, hb, fun j v hv => ?_⟩
    obtain ⟨h1, rfl⟩ := getElem?_By l j v hv
    rw [Addr.add_lit]
    exact hc j (by rw [← h.hlen]; exact h1)

set_option maxRecDepth 100000 in
theorem below_setRow {w w' : World} (h : Below w.heap.size w w') {g : Nat} (hg : w.heap.size ≤ g) (cs : Array Value) : Below w.heap.size w (w'.setRow g cs) :=
  h.trans ((Ch.setRow (F := fun k => k = g) w' rfl cs).below h.size fun k hk e => by omega)

set_option maxRecDepth 100000 in
theorem Safe_any (w : World) (F : Nat → Prop) (a : Nat) (d : D) (h : Dv w F a d) : Calls Try.prog 34 #[.pointer (some ⟨a, 0, none⟩)] w fun e w' => e = .returned (.slice (some ⟨w.heap.size, 0, none⟩) (d.page * d.pages) (d.page * d.pages)) ∧ w'.heap[w.heap.size]? = some (.cells (By d.safe).toArray 5 (0, 0)) ∧ Below w.heap.size w w' := by
  obtain ⟨i0, hi, hz0, hz1, hz2⟩ := info_parts info5
  have hsz : (Try.prog.info? 5).map (·.size) = some 1 := by rw [hi]; simp [hz1]
  obtain ⟨bs, bl, vL, vK, hc, hf, hr, ha⟩ := h.c
  obtain ⟨N, hN⟩ : ∃ N, d.page * d.pages = N := ⟨_, rfl⟩
  have c2 : w.cell? ⟨a, 2, none⟩ = some (.slice (some ⟨bs, 0, none⟩) N N) := by rw [← hN]; exact hc 2
  have hq := hr.q3
  rw [hN] at hq ⊢
  have hns : d.safe.length = N := by rw [← hN]; exact hr.ns
  have HNS := hidden hns
  have hal := lt_of_some ha
  have HS := hidden hr.hs
  have hbl := lt_of_some hr.hs
  clear hc hf hr ha h hns
  go_enter Try.func34, Try.ntmps34
  go_wp2_with (at_make; refine wpList_make_full _ rfl _ _ 35 rfl 0 5 i0 (.int .u8 0) 1 Try.underlying35 hi hz0 hz1 .i64 .i64 N N N rfl rfl rfl rfl (by rw [hz2]; omega) (by unfold maxLen; omega) (Nat.zero_le _) ?_)
  intro w1 hown1 hg1
  have hr1 := made_row hown1
  have hb1 : Below w.heap.size w w1 := (Below.refl _ _).grown hg1 (Nat.le_refl _) (fun k hk => by cases hk)
  have c2' : w1.cell? ⟨a, 2, none⟩ = some (.slice (some ⟨bs, 0, none⟩) N N) := (hb1.cell (p := ⟨a, 2, none⟩) hal).trans c2
  have HR1 := hidden hr1
  have HB1 := hidden hb1
  have HSRC := hidden (row_cells ((hb1.block bs hbl).trans HS.out))
  clear hown1 hg1 hr1 hb1 c2
  go_wp2_with (refine copy_row rfl _ _ 35 35 rfl 5 Try.underlying35 hsz w.heap.size 0 N N ⟨bs, 0, none⟩ N N rfl rfl (List.replicate N (.int .u8 0)) 5 HR1.out (By d.safe) (by rw [By_length, HNS.out]; exact (Nat.min_self _).symm) HSRC.out (by rw [By_length, HNS.out]; simp) (By_one _) ?_; intro u3 HU; refine Hid.out ?_)
  apply hidden
  go_wp2
  go_ret
  have hu := HU.out
  subst hu
  refine ⟨rfl, ?_, below_setRow HB1.out (Nat.le_refl _) _⟩
  rw [setRow_heap _ _ _ _ _ _ HR1.out, splice_all _ _ (by simp [By_length, HNS.out])]

set_option maxRecDepth 100000 in
theorem Image_calm (w : World) (F : Nat → Prop) (a : Nat) (d : D) (h : Dv w F a d) (h0 : ∀ n, d.last.getD n 0 = 0) : Calls Try.prog 33 #[.pointer (some ⟨a, 0, none⟩)] w fun e w' => e = .returned (.slice (some ⟨w.heap.size, 0, none⟩) (d.page * d.pages) (d.page * d.pages)) ∧ w'.heap[w.heap.size]? = some (.cells (By d.safe).toArray 5 (0, 0)) ∧ Below w.heap.size w w' := by
  obtain ⟨bs, bl, vL, vK, hc, hf, hr, ha⟩ := h.c
  have hal := lt_of_some ha
  have c4 : w.cell? ⟨a, 4, none⟩ = some (.slice (some ⟨bl, 0, none⟩) d.pages d.pages) := hc 4
  have hl0 : ∀ k, k < d.pages → w.cell? ⟨bl, k, none⟩ = some (.int .i64 0) := fun k hk => (cell_of_row hr.hl).trans ((getD_In _ _ (by rw [hr.nl]; exact hk)).trans (by rw [h0]))
  have hbl := lt_of_some hr.hl
  have hq2 := hr.q2
  have hS := Safe_any w F a d h
  have HL0 := hidden hl0
  generalize hN : d.page * d.pages = N at hS ⊢
  generalize hP : d.pages = P at *
  clear hc hf hr ha h h0 hN hP hl0
  go_enter Try.func33, Try.ntmps33
  go_wp2_with (go_at_call 34; refine hS.mono ?_; rintro e w1 ⟨rfl, hr1, hb1⟩; have HR1 := hidden hr1; have HB1 := hidden hb1; clear hr1 hb1; refine Hid.out ?_)
  apply hidden
  have c4' : w1.cell? ⟨a, 4, none⟩ = some (.slice (some ⟨bl, 0, none⟩) P P) := (HB1.out.cell (p := ⟨a, 4, none⟩) hal).trans c4
  clear hS c4
  go_wp2_with fail
  go_loop [12] (fun i => ∃ k : Nat, k ≤ P ∧ i = .int .i64 k) (fun i => P - (intOf i).toNat)
  case atStart => exact ⟨0, by omega, rfl⟩
  case round =>
    obtain ⟨k, hk, rfl⟩ := hrel
    by_cases hlt : k < P
    · have hlt' : (k : Int) < (P : Int) := by omega
      have ck : w1.cell? ⟨bl, k, none⟩ = some (.int .i64 0) := (HB1.out.cell (p := ⟨bl, k, none⟩) hbl).trans (HL0.out k hlt)
      go_wp2
      go_round
      case rel => exact ⟨k + 1, by omega, by go_num⟩
      case measure => simp [intOf]; omega
    · have hge : ¬ ((k : Int) < (P : Int)) := by omega
      go_wp2
      go_ret
      exact ⟨rfl, HR1.out, HB1.out⟩

set_option maxRecDepth 100000 in
theorem Load_page (w : World) (ao : Option Addr) (n c : Nat) (x : Int) (h : pgs x = false) : Calls Try.prog 57 #[.slice ao n c, .int .i64 x] w fun e w' => e = .returned (.tuple #[.pointer none, .int .i64 32]) ∧ w' = w := by
  have hp := isPageSize_any x
  rw [h] at hp
  go_enter Try.func57, Try.ntmps57
  go_wp2_with (go_at_call 49; refine same_call (hp _) ?_)
  go_ret2
  exact ⟨rfl, rfl⟩
set_option maxRecDepth 100000 in
theorem Load_rest (w : World) (ao : Option Addr) (n c : Nat) (x : Nat) (hn : n ≤ 140737488355328) (h : pgs x = true) (hm : n % x ≠ 0) : Calls Try.prog 57 #[.slice ao n c, .int .i64 (x : Int)] w fun e w' => e = .returned (.tuple #[.pointer none, .int .i64 32]) ∧ w' = w := by
  have hp := isPageSize_any x
  rw [h] at hp
  simp only [pgs, decide_eq_true_eq] at h
  have h1 : (512 : Int) ≤ x := by omega
  have h2 : (x : Int) ≤ 65536 := by omega
  have hmi : ¬ ((n : Int) % (x : Int) = 0) := by omega
  clear h hm
  go_enter Try.func57, Try.ntmps57
  go_wp2_with (go_at_call 49; refine same_call (hp _) ?_)
  go_ret2
  exact ⟨rfl, rfl⟩
set_option maxRecDepth 100000 in
theorem Load_dev (w : World) (ao : Option Addr) (n c : Nat) (x y : Nat) (hn : n ≤ 140737488355328) (h : pgs x = true) (hm : n = x * y) (hd : dev x y = false) : Calls Try.prog 57 #[.slice ao n c, .int .i64 (x : Int)] w fun e w' => e = .returned (.tuple #[.pointer none, .int .i64 32]) ∧ w' = w := by
  have hp := isPageSize_any x
  rw [h] at hp
  have hN := New_no x y w hd
  simp only [pgs, decide_eq_true_eq] at h
  have h1 : (512 : Int) ≤ x := by omega
  have h2 : (x : Int) ≤ 65536 := by omega
  have hm0 : (n : Int) % (x : Int) = 0 := by rw [hm]; simp
  have hq : (n : Int) / (x : Int) = (y : Int) := by rw [hm, Int.natCast_mul]; exact Int.mul_ediv_cancel_left _ (by omega)
  have hyb : (y : Int) ≤ 140737488355328 := by
    have : y ≤ x * y := Nat.le_mul_of_pos_left _ (by omega)
    omega
  clear h hm
  go_enter Try.func57, Try.ntmps57
  go_wp2_with (first | (go_at_call 49; refine same_call (hp _) ?_) | (go_at_call 6; refine same_call hN ?_))
  go_ret2
  exact ⟨rfl, rfl⟩

set_option maxRecDepth 100000 in
theorem Rest.laid {w w' : World} {F : Nat → Prop} {a page pages : Nat} {safe safe' : List Int} {loose : List (Nat × List Int)} {last keep : List Int} {bs bl : Nat} {vL vK : Value} (h : Rest w F a page pages safe loose last keep bs bl vL vK) (hu : w' = w.setRow bs (By safe').toArray) (hl : safe'.length = page * pages) (hw : Wf safe') : Rest w' F a page pages safe' loose last keep bs bl vL vK := by
  subst hu
  exact h.resafe (Ch.setRow (F := fun j => j = bs) _ rfl _) (setRow_heap _ _ _ _ _ _ h.hs) hl hw

set_option maxRecDepth 100000 in
set_option maxHeartbeats 1000000 in
theorem Load_yes (w : World) (ao : Option Addr) (n c : Nat) (l : List Int) (x y : Nat) (hs : Sl w ao n c l) (hm : n = x * y) (hd : dev x y = true) : Calls Try.prog 57 #[.slice ao n c, .int .i64 (x : Int)] w fun e w' => ∃ a, e = .returned (.tuple #[.pointer (some ⟨a, 0, none⟩), .int .i64 0]) ∧ Dv w' (fun k => w.heap.size ≤ k ∧ k < w'.heap.size) a { d0 x y with safe := l } ∧ Below w.heap.size w w' := by
  obtain ⟨i0, hi, hz0, hz1, hz2⟩ := info_parts info5
  have hsz : (Try.prog.info? 5).map (·.size) = some 1 := by rw [hi]; simp [hz1]
  have h : pgs x = true := by simp only [dev, decide_eq_true_eq] at hd; exact hd.1
  have hp := isPageSize_any x
  rw [h] at hp
  have hN := New_yes x y w hd
  have hroom := hs.hroom
  have h4 : 4 ≤ y := by simp only [dev, decide_eq_true_eq] at hd; omega
  simp only [pgs, decide_eq_true_eq] at h
  have h1 : (512 : Int) ≤ x := by omega
  have h2 : (x : Int) ≤ 65536 := by omega
  have hm0 : (n : Int) % (x : Int) = 0 := by rw [hm]; simp
  have hq : (n : Int) / (x : Int) = (y : Int) := by rw [hm, Int.natCast_mul]; exact Int.mul_ediv_cancel_left _ (by omega)
  have hyb : (y : Int) ≤ 140737488355328 := by
    have : y ≤ x * y := Nat.le_mul_of_pos_left _ (by omega)
    omega
  have hn0 : 0 < n := by rw [hm]; exact Nat.mul_pos (by omega) (by omega)
  have HLEN := hidden hs.hlen
  have HWF := hidden hs.wf
  obtain ⟨b, off, rfl, hbl, hsrc⟩ := sl_src hs hn0
  have HSR := hidden hsrc
  have HM := hidden hm
  clear h hm hs hsrc hi hz0 hz1 hz2 hd
  go_enter Try.func57, Try.ntmps57
  go_wp2_with (first | (go_at_call 49; refine same_call (hp _) ?_) | (go_at_call 6; refine hN.mono ?_; rintro e w1 ⟨a, rfl, hD, hb⟩; have HD := hidden hD; have HB := hidden hb; clear hD hb; refine Hid.out ?_))
  apply hidden
  clear hN hp hm0 hq
  obtain ⟨bs, bl, vL, vK, hc, hf, hr, ha⟩ := HD.out.c
  have c2 : w1.cell? ⟨a, 2, none⟩ = some (.slice (some ⟨bs, 0, none⟩) n n) := by rw [HM.out]; exact hc 2
  have HR := hidden hr
  have HA := hidden ha
  have HSRC : Hid (∀ j v, (By l)[j]? = some v → w1.cell? ((⟨b, off, none⟩ : Addr).add j) = some v) := hidden fun j v hv => by
    have := HSR.out j v hv
    rw [Addr.add_lit] at this ⊢
    exact (HB.out.cell (p := ⟨b, off + j, none⟩) hbl).trans this
  have HCL : Hid ((By (d0 x y).safe).length = n) := hidden (by rw [By_length, HM.out]; simp [d0])
  have HS := hidden hr.hs
  clear hc hf hr ha HSR HD
  go_wp2_with (refine copy_row rfl _ _ 35 35 rfl 5 Try.underlying35 hsz bs 0 n n ⟨b, off, none⟩ n c rfl rfl (By (d0 x y).safe) 5 HS.out (By l) (by rw [By_length, HLEN.out]; exact (Nat.min_self _).symm) HSRC.out (by rw [By_length, HLEN.out, HCL.out]; omega) (By_one _) ?_; intro u3 HU; refine Hid.out ?_)
  apply hidden
  go_wp2
  go_ret2
  have hu : u3 = w1.setRow bs (By l).toArray := by rw [HU.out, splice_all _ _ (by rw [HCL.out, By_length, HLEN.out])]
  have hz : u3.heap.size = w1.heap.size := by rw [hu]; simp [World.setRow]
  have hr' := HR.out.laid hu (by rw [HLEN.out, HM.out]; rfl) HWF.out
  refine ⟨a, rfl, ⟨bs, bl, vL, vK, ?_, hr'.keep (fun k hk _ => by rw [hz]; exact hk) (by rw [hz]; exact lt_of_some HA.out) (Nat.le_refl _) (fun _ _ _ _ => rfl)⟩, ?_⟩
  · rw [hu, setRow_other _ _ _ _ (fun e => HR.out.n1 e.symm)]
    exact HA.out
  · rw [hu]
    exact below_setRow HB.out HR.out.fs.1 _
end Go.Proofs.Ytikpfcapnpppdaa
