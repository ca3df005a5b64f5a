/- The device: Sync while the power is armed; Arm that does nothing, or disarms. -/
import Derived.Test.YtikpfcapnpppdaaRu
namespace Go.Proofs.Ytikpfcapnpppdaa
open Go.RowKit

set_option maxRecDepth 100000 in
set_option maxHeartbeats 1000000 in
theorem Sync_go (w : World) (F : Nat → Prop) (a : Nat) (d0 d : D) (h : Dv w F a d0) (hd : d0.down = false) (h1 : 0 ≤ d0.cs) (h2 : d0.cs < 4611686018427387904) (hfail : ∀ u, Dv u F a { d0 with cs := d0.cs + 1 } → Calls Try.prog 44 #[.pointer (some ⟨a, 0, none⟩)] u fun e u' => e = .returned (.bool false) ∧ Dv u' F a d ∧ Ch F u u') :
    Calls Try.prog 20 #[.pointer (some ⟨a, 0, none⟩)] w fun e w' => e = .returned (.int .i64 0) ∧ Dv w' F a { d.synced with cs := d.cs } ∧ Ch F w w' := by
  obtain ⟨i0, hi, hz0, hz1, hz2⟩ := info_parts info5
  have hsz : (Try.prog.info? 5).map (·.size) = some 1 := by rw [hi]; simp [hz1]
  obtain ⟨bs, bl, vL, vK, hc, hf, hr, ha⟩ := h.c
  have c8 : w.cell? ⟨a, 8, none⟩ = some (.bool d0.down) := hc 8
  rw [hd] at c8
  have c7 : w.cell? ⟨a, 7, none⟩ = some (.int .i64 d0.cs) := hc 7
  have f7 := hf 7
  have H := hidden h
  clear hc hf hr ha h hi hz0 hz1 hz2
  go_enter Try.func20, Try.ntmps20
  go_wp2_with fail
  go_region
  have hD1 : Dv (w.setCell ⟨a, 7, none⟩ (.int .i64 (d0.cs + 1))).drew F a { d0 with cs := d0.cs + 1 } := (H.out.set7 _).dr
  have hC1 : Ch F w (w.setCell ⟨a, 7, none⟩ (.int .i64 (d0.cs + 1))).drew := (Ch.setCell w (p := ⟨a, 7, none⟩) H.out.fa _).trans (Ch.dr F _) fun _ _ h => h
  generalize (w.setCell ⟨a, 7, none⟩ (.int .i64 (d0.cs + 1))).drew = v0 at hD1 hC1 ⊢
  have hcalm := hfail v0 hD1
  have HDa := hidden hD1
  have HCa := hidden hC1
  clear hD1 hC1 c7 c8 f7 H h1 h2 bs bl vL vK
  go_wp2_with (go_at_call 44; refine hcalm.mono ?_; rintro e u ⟨rfl, hD2, hC2⟩; have HD1 := hidden hD2; have HC1 := hidden (HCa.out.trans hC2 fun _ _ h => h); clear hD2 hC2; refine Hid.out ?_)
  apply hidden
  clear hcalm HDa HCa hfail
  obtain ⟨bs, bl, vL, vK, hc, hf, hr, ha⟩ := HD1.out.c
  obtain ⟨ao, c, eL, hLc⟩ := hr.lo.val
  obtain ⟨L, hL⟩ : ∃ L, d.loose.length = L := ⟨_, rfl⟩
  have c3 : u.cell? ⟨a, 3, none⟩ = some (.slice ao L c) := by
    rw [← hL, ← show vL = .slice ao d.loose.length c from eL]; exact hc 3
  have hfew : L ≤ 4398046511103 := by rw [← hL]; exact hr.few
  replace hLc : L ≤ c := by rw [← hL]; exact hLc
  have HR : Hid (Rest u F a d.page d.pages d.safe d.loose d.last d.keep bs bl vL vK) := hidden hr
  have HA := hidden ha
  have HL := hidden hL
  have HC := hidden hc
  have HE : Hid (vL = .slice ao L c) := by rw [← hL]; exact hidden eL
  clear hc hf hr ha hL eL HD1
  go_wp2_with fail
  go_loopw [25] (fun i wr => ∃ k : Nat, k ≤ L ∧ i = .int .i64 k ∧ Hid (Ch (fun j => j = bs) u wr) ∧ Hid (wr.heap[bs]? = some (.cells (By (lay d.page d.loose (fun _ => d.page) d.safe k)).toArray 5 (0, 0)))) (fun i _ => L - (intOf i).toNat)
  case atStart => exact ⟨0, by omega, rfl, hidden (Ch.refl _ _), hidden HR.out.hs⟩
  case round =>
    obtain ⟨k, hk, rfl, HB, HW⟩ := hrel
    have hr := HR.out
    by_cases hlt : k < L
    · have hlt' : (k : Int) < (L : Int) := by omega
      obtain ⟨g, c', q, e, h1, g0, g1, fg, fq, n1, n2, n3, n4, n5, n6, n7, n8, h4, h5, h6, h7⟩ := hr.lo.item (k := k) (by rw [HL.out]; exact hlt)
      rw [HE.out] at e
      have hao : ao = some ⟨g, 0, none⟩ := by injection e
      subst hao
      have hal := lt_of_some HA.out
      have hB := HB.out
      have b0 := (World.cell?_of_block (a := ⟨g, k * 2, none⟩) (hB.block g n8 n5)).trans g0
      have b1 := (World.cell?_of_block (a := ⟨g, k * 2 + 1, none⟩) (hB.block g n8 n5)).trans g1
      have hal' : a < wr.heap.size := Nat.lt_of_lt_of_le hal hB.size
      have hq4 := (hB.block q (lt_of_some h4) n2).trans h4
      have hql : q < wr.heap.size := lt_of_some hq4
      have hbsl : bs < wr.heap.size := lt_of_some HW.out
      have a0 : wr.cell? ⟨a, 0, none⟩ = some (.int .i64 d.page) := (World.cell?_of_block (a := ⟨a, 0, none⟩) (hB.block a hal (Ne.symm hr.n1))).trans (HC.out 0)
      have a2 : wr.cell? ⟨a, 2, none⟩ = some (.slice (some ⟨bs, 0, none⟩) (d.page * d.pages) (d.page * d.pages)) := (World.cell?_of_block (a := ⟨a, 2, none⟩) (hB.block a hal (Ne.symm hr.n1))).trans (HC.out 2)
      obtain ⟨p, hP⟩ : ∃ p, (d.loose.getD k (0, [])).1 = p := ⟨_, rfl⟩
      obtain ⟨l, hLl⟩ : ∃ l, (d.loose.getD k (0, [])).2 = l := ⟨_, rfl⟩
      rw [hP] at b0 h5
      rw [hLl] at hq4 h6 h7
      have hx : p * d.page + d.page ≤ d.page * d.pages := by
        rw [Nat.mul_comm d.page d.pages, ← Nat.succ_mul]; exact Nat.mul_le_mul_right _ h5
      obtain ⟨lk1, lk2⟩ := lay_ok hr (fun _ => d.page) k (by rw [HL.out]; omega)
      have hp1 := hr.p1
      have hq2 := hr.q2
      have hq3 := hr.q3
      have HP := hidden hP
      have HLl := hidden hLl
      have HX := hidden hx
      obtain ⟨x, hxw⟩ : ∃ x, wr.alloc (Obj.cells #[Value.int IntKind.i64 (p : Int), Value.slice (some ⟨q, 0, none⟩) d.page d.page] 71 (0, 0)) = x := ⟨_, rfl⟩
      have x0 : x.cell? ⟨wr.heap.size, 0, none⟩ = some (.int .i64 (p : Int)) := by rw [← hxw]; simp
      have x1 : x.cell? ⟨wr.heap.size, 1, none⟩ = some (.slice (some ⟨q, 0, none⟩) d.page d.page) := by rw [← hxw]; simp
      have xb : ∀ k, k < wr.heap.size → x.heap[k]? = wr.heap[k]? := fun k hk => by rw [← hxw]; exact Below.heap_alloc _ _ _ hk
      have xa0 := (World.cell?_of_block (a := ⟨a, 0, none⟩) (xb a hal')).trans a0
      have xa2 := (World.cell?_of_block (a := ⟨a, 2, none⟩) (xb a hal')).trans a2
      have HXS := hidden ((xb bs hbsl).trans HW.out)
      have HXQ := hidden ((xb q hql).trans hq4)
      have HXC : Hid (Ch (fun j => j = bs) u x) := hidden (by rw [← hxw]; exact hB.trans (Ch.alloc (fun j => j = bs) _ _) fun _ _ h => h)
      have HG := hidden (fun v (hv0 : v.cell? ⟨a, 0, none⟩ = x.cell? ⟨a, 0, none⟩) (hv2 : v.cell? ⟨a, 2, none⟩ = x.cell? ⟨a, 2, none⟩) => ground_any v a bs d.page (d.page * d.pages) p (p * d.page) (hv0.trans xa0) (hv2.trans xa2) rfl hx (by omega) hq3 (by omega))
      have HSRC : Hid (∀ r, ∀ j v, (By l)[j]? = some v → (x.drew.drewN r).cell? ((⟨q, 0, none⟩ : Addr).add j) = some v) := by
        refine hidden fun r j v hv => ?_
        obtain ⟨j1, rfl⟩ := getElem?_By l j v hv
        rw [Addr.add_lit, Nat.zero_add]
        show x.cell? ⟨q, j, none⟩ = _
        rw [cell_of_row HXQ.out]; exact hv
      have HLEN := hidden h6
      have HMIN : Hid ((By l).length = Nat.min d.page d.page) := hidden (by rw [By_length, h6]; exact (Nat.min_self _).symm)
      have HFIT : Hid (p * d.page + (By l).length ≤ (By (lay d.page d.loose (fun _ => d.page) d.safe k)).length) := hidden (by rw [By_length, By_length, lk1, h6]; exact hx)
      clear xa0 xa2 a0 a2 hx lk1 lk2 hq4 h4 h6 h7 hB g0 g1 hr hP hLl hp1 hq2 hq3 xb e n1 n2 n3 n4 n5 n6 n7 n8 fg fq HC HXQ h5 HW HB
      go_wp2_with fail
      try rw [hxw]
      go_region_law (first | (go_simp; go_at_call 46; refine (HG.out x.drew rfl rfl).mono ?_; rintro e w2 ⟨rfl, r, rfl⟩) | (refine step_copy_row rfl _ _ 35 35 rfl 5 Try.underlying35 hsz bs (p * d.page) d.page (d.page * d.pages - p * d.page) ⟨q, 0, none⟩ d.page d.page rfl rfl (By (lay d.page d.loose (fun _ => d.page) d.safe k)) 5 HXS.out (By l) HMIN.out (HSRC.out r) HFIT.out (By_one _) ?_; intro u3 HU))
      all_goals
        have HC3 : Hid (Ch (fun j => j = bs) u u3) := hidden (by rw [HU.out]; exact (HXC.out.trans (Ch.drew (fun j => j = bs) _ (1 + r)) fun _ _ h => h).trans (Ch.setRow (F := fun j => j = bs) _ rfl _) fun _ _ h => h)
        have HW3 : Hid (u3.heap[bs]? = some (.cells (By (lay d.page d.loose (fun _ => d.page) d.safe (k + 1))).toArray 5 (0, 0))) := hidden (by
          rw [HU.out, setRow_heap _ _ _ _ _ _ (show (x.drewN (1 + r)).heap[bs]? = _ from HXS.out), By_splice]
          show _ = some (Obj.cells (By (splice (lay d.page d.loose (fun _ => d.page) d.safe k) ((d.loose.getD k (0, [])).1 * d.page) ((d.loose.getD k (0, [])).2.take d.page))).toArray _ _)
          rw [HP.out, HLl.out, List.take_of_length_le (by rw [HLEN.out]; exact Nat.le_refl _)])
        clear HU HXS HXC HSRC HMIN HFIT HG hxw x0 x1 b0 b1
        go_wp2
        go_roundw
        case rel => exact ⟨k + 1, by omega, by go_num, HC3, HW3⟩
        case measure => simp [intOf]; omega
    · have hge : ¬ ((k : Int) < (L : Int)) := by omega
      obtain rfl : k = L := by omega
      have hal := lt_of_some HA.out
      have hB := HB.out
      obtain ⟨lk1, lk2⟩ := lay_ok hr (fun _ => d.page) k (by rw [HL.out]; omega)
      have hD : Dv wr F a { d with safe := lay d.page d.loose (fun _ => d.page) d.safe k } := ⟨bs, bl, vL, vK, (hB.block a hal (Ne.symm hr.n1)).trans HA.out, hr.resafe hB HW.out lk1 lk2⟩
      have HCC : Hid (Ch F w wr) := hidden (HC1.out.trans hB fun j _ e => e ▸ hr.fs)
      have hfor := forget_any wr F a _ hD
      clear hr hB lk1 lk2 hD HB HW HC HA
      go_wp2_with (go_at_call 47; refine hfor.mono ?_; rintro e w2 ⟨rfl, hD2, hC2⟩; replace hD2 := hidden hD2; replace hC2 := hidden hC2; refine Hid.out ?_)
      apply hidden
      clear hfor
      go_wp2
      go_ret
      refine ⟨rfl, ?_, HCC.out.trans hC2.out fun _ _ h => h⟩
      have := hD2.out
      rw [← HL.out] at this
      exact this

set_option maxRecDepth 100000 in
set_option maxHeartbeats 1000000 in
theorem Sync_fall (w : World) (F : Nat → Prop) (a : Nat) (d : D) (h : Dv w F a d) (hF : ∀ k, F k → k < w.heap.size) (hd : d.down = false) (har : d.armed = true) (hl : d.left = 0) (h1 : 0 ≤ d.cs) (h2 : d.cs < 4611686018427387904) :
    Calls Try.prog 20 #[.pointer (some ⟨a, 0, none⟩)] w fun e w' => e = .returned (.int .i64 3) ∧ Dv w' F a ({ d with cs := d.cs + 1 }.fallen d.keep d.torn d.tat) ∧ Ch F w w' := by
  obtain ⟨bs, bl, vL, vK, hc, hf, hr, ha⟩ := h.c
  have c8 : w.cell? ⟨a, 8, none⟩ = some (.bool d.down) := hc 8
  rw [hd] at c8
  have c7 : w.cell? ⟨a, 7, none⟩ = some (.int .i64 d.cs) := hc 7
  have f7 := hf 7
  have H := hidden h
  clear hc hf hr ha h
  go_enter Try.func20, Try.ntmps20
  go_wp2_with fail
  go_region
  have hD1 : Dv (w.setCell ⟨a, 7, none⟩ (.int .i64 (d.cs + 1))).drew F a { d with cs := d.cs + 1 } := (H.out.set7 _).dr
  have hC1 : Ch F w (w.setCell ⟨a, 7, none⟩ (.int .i64 (d.cs + 1))).drew := (Ch.setCell w (p := ⟨a, 7, none⟩) H.out.fa _).trans (Ch.dr F _) fun _ _ h => h
  generalize (w.setCell ⟨a, 7, none⟩ (.int .i64 (d.cs + 1))).drew = u at hD1 hC1 ⊢
  have hcalm := fails_now u F a _ hD1 (fun k hk => Nat.lt_of_lt_of_le (hF k hk) hC1.size) har hl
  have HC1 := hidden hC1
  clear hD1 hC1 c7 c8 f7 H h1 h2 bs bl vL vK
  go_wp2_with (go_at_call 44; refine hcalm.mono ?_; rintro e u2 ⟨rfl, hD2, hC2⟩; have HD2 := hidden hD2; have HC2 := hidden (HC1.out.trans hC2 fun _ _ h => h); clear hD2 hC2; refine Hid.out ?_)
  apply hidden
  clear hcalm
  go_wp2
  go_ret
  exact ⟨rfl, HD2.out, HC2.out⟩

set_option maxRecDepth 100000 in
theorem Arm_down (w : World) (F : Nat → Prop) (a : Nat) (d : D) (acts : Int) (ao : Option Addr) (n c : Nat) (tn ta : Int) (h : Dv w F a d) (hd : d.down = true) : Calls Try.prog 54 #[.pointer (some ⟨a, 0, none⟩), .int .i64 acts, .agg #[.slice ao n c, .int .i64 tn, .int .i64 ta]] w fun e w' => e = .returned (.tuple #[]) ∧ Below w.heap.size w w' := by
  obtain ⟨bs, bl, vL, vK, hc, hf, hr, ha⟩ := h.c
  have c8 : w.cell? ⟨a, 8, none⟩ = some (.bool d.down) := hc 8
  rw [hd] at c8
  have hal := lt_of_some ha
  have hane : ¬ a = w.heap.size := by omega
  clear hc hf hr ha h
  go_enter Try.func54, Try.ntmps54
  go_wp2
  exact bodyPost_ret (v := .tuple #[]) (by simp [results, Try.results54, go_sem]) rfl ⟨rfl, (Below.refl _ _).alloc (Nat.le_refl _) _⟩
set_option maxRecDepth 100000 in
theorem Arm_off (w : World) (F : Nat → Prop) (a : Nat) (d : D) (acts : Int) (ao : Option Addr) (n c : Nat) (tn ta : Int) (h : Dv w F a d) (hd : d.down = false) (h0 : acts < 0) : Calls Try.prog 54 #[.pointer (some ⟨a, 0, none⟩), .int .i64 acts, .agg #[.slice ao n c, .int .i64 tn, .int .i64 ta]] w fun e w' => e = .returned (.tuple #[]) ∧ Dv w' F a { d with armed := false, left := 0, torn := 0, tat := 0, keep := [] } ∧ Ch F w w' := by
  obtain ⟨bs, bl, vL, vK, hc, hf, hr, ha⟩ := h.c
  have c8 : w.cell? ⟨a, 8, none⟩ = some (.bool d.down) := hc 8
  rw [hd] at c8
  have hal := lt_of_some ha
  have hane : ¬ a = w.heap.size := by omega
  clear hc hf hr ha bs bl vL vK
  have HB : Hid (∀ o, Below w.heap.size w (w.alloc o)) := hidden fun o => (Below.refl _ _).alloc (Nat.le_refl _) o
  have HD0 := hidden (fun o => disarm_any (w.alloc o) F a d (h.on (Nat.le_refl _) (HB.out o)))
  clear h
  go_enter Try.func54, Try.ntmps54
  go_wp2_with (go_at_call 60; refine (HD0.out _).mono ?_; rintro e w2 ⟨rfl, hD2, hC2, hz2⟩; have HD2 := hidden hD2; have HC2 := hidden ((Ch.of_below (HB.out _)).trans hC2 fun _ _ h => h); clear hD2 hC2 hz2; refine Hid.out ?_)
  apply hidden
  clear HD0 c8 HB
  go_wp2
  exact bodyPost_ret (v := .tuple #[]) (by simp [results, Try.results54, go_sem]) rfl ⟨rfl, HD2.out, HC2.out⟩
set_option maxRecDepth 100000 in
theorem Tw.off {d : D} {r : R} (h : Tw d r) (acts : Int) (h0 : acts < 0) (ks : List Int) (tn ta : Int) : Tw { d with armed := false, left := 0, torn := 0, tat := 0, keep := [] } (r.arm acts ks tn ta) :=
  ⟨h.page, h.pages, h.rows, h.ns, h.wild, h.all, h.nl, h.last, h.down, by simp only [R.arm]; exact decide_eq_false (by omega), (fun e => by cases e), h.cr, h.cw, h.cs⟩
end Go.Proofs.Ytikpfcapnpppdaa
