/- Two new devices hold the same. -/
import Derived.Test.YtikpfcapnpppdaaRt
import Derived.Test.YtikpfcapnpppdaaSm
import Derived.Lib.AppendZerosOnto
import Derived.Test.YtikpfcapnpppdaaPm3
import Derived.Test.YtikpfcapnpppdaaPm5
import Derived.Test.YtikpfcapnpppdaaPlAw
import Derived.Deep.CutRange
import Derived.Deep.DeepCutAuto
import Derived.Test.YtikpfcapnpppdaaJs
namespace Go.Proofs.Ytikpfcapnpppdaa
open Go.RowKit

set_option maxRecDepth 100000 in
theorem Tw.loaded (x y : Nat) (l : List Int) (hl : l.length = x * y) : Tw { d0 x y with safe := l } (r0 x ((List.range y).map (pgOf x l))) := by
  refine ⟨rfl, by simp [r0, d0], fun i hi => ?_, hl, rfl, (fun z hz => by cases hz), by simp [d0], fun n hn => ?_, rfl, rfl, (fun h => by cases h), rfl, rfl, rfl⟩
  · replace hi : i < y := hi
    show ((List.range y).map (pgOf x l)).getD i [] = pgOf x l i
    simp [List.getD, hi]
  · replace hn : n < y := hn
    show (List.replicate y (0 : Int)).getD n 0 = _
    simp [List.getD, hn, d0, lastW]
set_option maxRecDepth 100000 in
theorem Tw.made (x y : Nat) : Tw (d0 x y) (r0 x (List.replicate y (List.replicate x 0))) := by
  have h := Tw.loaded x y (List.replicate (x * y) 0) (by simp)
  have e : (List.range y).map (pgOf x (List.replicate (x * y) (0 : Int))) = List.replicate y (List.replicate x 0) := by
    apply List.ext_getElem?
    intro i
    by_cases hi : i < y
    · have hm : i * x + x ≤ x * y := by
        have := mul_far (p := x) hi
        rw [Nat.mul_comm x y]; exact this
      simp only [List.getElem?_map, List.getElem?_range hi, List.getElem?_replicate, if_pos hi, Option.map_some, pgOf, List.drop_replicate, List.take_replicate]
      rw [Nat.min_eq_left (by omega)]
    · rw [List.getElem?_eq_none (by simp; omega), List.getElem?_eq_none (by simp; omega)]
  rw [e] at h
  exact h
end Go.Proofs.Ytikpfcapnpppdaa

/- The document's Safe and Image: what they answer lies in memory of its own. -/

namespace Go.Proofs.Ytikpfcapnpppdaa
open Go.RowKit

set_option maxRecDepth 100000 in
set_option maxHeartbeats 1000000 in
theorem rSafe_new (w : World) (F : Nat → Prop) (a : Nat) (r : R) (h : Rv w F a r) : Calls Try.prog 36 #[.pointer (some ⟨a, 0, none⟩)] w fun e w' => ∃ ao c, e = .returned (.slice ao (r.L.length * r.page) c) ∧ Sl w' ao (r.L.length * r.page) c (flatR r.L r.L.length) ∧ Below w.heap.size w w' ∧ (∀ g, ao = some g → w.heap.size ≤ g.block) := by
  obtain ⟨vL, vW, vK, qs, hc, hf, hr, ha⟩ := h.c
  obtain ⟨aL, cL, eL, _⟩ := own_val hr.oL
  obtain ⟨n, hn⟩ : ∃ n, r.L.length = n := ⟨_, rfl⟩
  have c1 : w.cell? ⟨a, 1, none⟩ = some (.slice aL n cL) := by rw [← hn, ← eL]; exact hc 1
  have hal := lt_of_some ha
  have HR := hidden hr
  have HN := hidden hn
  have HEL := hidden eL
  have HFL := hidden hr.flat
  have hq2 : n ≤ 65536 := by rw [← hn]; exact hr.q2
  have hp2 := hr.p2
  clear hc hf hr ha h eL
  go_enter Try.func36, Try.ntmps36
  go_wp2_with fail
  go_loopw [3, 4] (fun v i wr => ∃ k : Nat, k ≤ n ∧ i = .int .i64 k ∧ Hid (OwnB wr w.heap.size v (flatR r.L k)) ∧ Hid (Below w.heap.size w wr)) (fun _ i _ => n - (intOf i).toNat)
  case atStart => exact ⟨0, by omega, rfl, hidden (OwnB.nil _ _), hidden (Below.refl _ _)⟩
  case round =>
    obtain ⟨k, hk, rfl, OK, BK⟩ := hrel
    have x1 : wr.cell? ⟨a, 1, none⟩ = some (.slice aL n cL) := (BK.out.cell (p := ⟨a, 1, none⟩) hal).trans c1
    by_cases hlt : k < n
    · have hlt' : (k : Int) < (n : Int) := by omega
      obtain ⟨g, c, q, e1, _, cg, _, _, _, hgl, _, _, _, _, hrow, hlen, hwf, _⟩ := HR.out.rowi (n := k) (by rw [HN.out]; exact hlt)
      rw [HEL.out, HN.out] at e1
      have hao : aL = some ⟨g, 0, none⟩ := by injection e1
      subst hao
      have y1 := (BK.out.cell (p := ⟨g, k, none⟩) hgl).trans cg
      obtain ⟨rk, hrk⟩ : ∃ l, r.L.getD k [] = l := ⟨_, rfl⟩
      rw [hrk] at hrow hlen
      have HFS : Hid (flatR r.L (k + 1) = flatR r.L k ++ rk) := hidden (by rw [← hrk]; rfl)
      have HQC : Hid (∀ j, j < r.page → wr.cell? ((⟨q, 0, none⟩ : Addr).add j) = some (.int .u8 (rk.getD j 0))) := hidden fun j hj => by
        rw [Addr.add_lit, Nat.zero_add]
        exact (BK.out.cell (p := ⟨q, j, none⟩) (lt_of_some hrow)).trans ((cell_of_row hrow).trans (getD_By _ _ (by omega)))
      have HL := hidden hlen
      have hfl : (flatR r.L k).length + r.page ≤ 140737488355328 := by
        rw [(HFL.out k (by rw [HN.out]; omega)).1]
        have : k * r.page ≤ 65536 * 65536 := Nat.mul_le_mul (by omega) hp2
        omega
      have HFLB := hidden hfl
      have hbs : w.heap.size ≤ wr.heap.size := BK.out.size
      clear cg hrow hlen hwf e1 hfl hrk
      go_wp2_with (refine app_bytes _ rfl _ _ rfl w.heap.size (flatR r.L k) _ rfl OK.out ⟨q, 0, none⟩ r.page r.page rk rfl HL.out HQC.out HFLB.out hbs ?_)
      intro v2 w2 o2 b2
      have O2 : Hid (OwnB w2 w.heap.size v2 (flatR r.L (k + 1))) := hidden (by rw [HFS.out]; exact o2)
      have B2 := hidden (BK.out.trans b2)
      clear o2 b2 HQC OK
      go_wp2
      go_roundw
      case rel => exact ⟨k + 1, by omega, by go_num, O2, B2⟩
      case measure => simp [intOf]; omega
    · have hge : ¬ ((k : Int) < (n : Int)) := by omega
      obtain rfl : k = n := by omega
      obtain ⟨l1, l2⟩ := HFL.out k (by rw [HN.out]; exact Nat.le_refl _)
      have hkp : k * r.page ≤ 65536 * 65536 := Nat.mul_le_mul (by omega) hp2
      obtain ⟨ao, cap, hu, hsl, hfr⟩ := OK.out.sl l2 (by omega)
      rw [l1] at hu hsl
      subst hu
      have HSL := hidden hsl
      clear hsl OK l1 l2 hkp
      have HFR := hidden hfr
      clear hfr
      go_wp2
      go_ret
      exact ⟨ao, cap, rfl, HSL.out, BK.out, HFR.out⟩

set_option maxRecDepth 100000 in
set_option maxHeartbeats 2000000 in
theorem rImage_new (w : World) (F : Nat → Prop) (a : Nat) (r : R) (h : Rv w F a r) : Calls Try.prog 35 #[.pointer (some ⟨a, 0, none⟩)] w fun e w' => ∃ ao c, e = .returned (.slice ao (r.L.length * r.page) c) ∧ Sl w' ao (r.L.length * r.page) c (imR r.page (flatR r.L r.L.length) r.wild r.wild.length) ∧ Below w.heap.size w w' ∧ (∀ g, ao = some g → w.heap.size ≤ g.block) := by
  obtain ⟨i0, hi, hz0, hz1, hz2⟩ := info_parts info5
  have hsz : (Try.prog.info? 5).map (·.size) = some 1 := by rw [hi]; simp [hz1]
  clear hi hz0 hz1 hz2
  obtain ⟨vL, vW, vK, qs, hc, hf, hr, ha⟩ := h.c
  obtain ⟨aL, cL, eL, _⟩ := own_val hr.oL
  obtain ⟨xs, hx1, _⟩ := hr.hx
  obtain ⟨aW, cW, eW, _⟩ := own_val hx1
  obtain ⟨n, hn⟩ : ∃ n, r.L.length = n := ⟨_, rfl⟩
  obtain ⟨m, hm⟩ : ∃ m, r.wild.length = m := ⟨_, rfl⟩
  have c1 : w.cell? ⟨a, 1, none⟩ = some (.slice aL n cL) := by rw [← hn, ← eL]; exact hc 1
  have c2 : w.cell? ⟨a, 2, none⟩ = some (.slice aW m cW) := by rw [← hm, ← eW]; exact hc 2
  have c0 : w.cell? ⟨a, 0, none⟩ = some (.int .i64 r.page) := hc 0
  have hal := lt_of_some ha
  have HR := hidden hr
  have HN := hidden hn
  have HM := hidden hm
  have HEL := hidden eL
  have HEW := hidden eW
  have HFL := hidden hr.flat
  have hq1 : 4 ≤ n := by rw [← hn]; exact hr.q1
  have hq2 : n ≤ 65536 := by rw [← hn]; exact hr.q2
  have hp1 := hr.p1
  have hp2 := hr.p2
  have hq3 : r.page * n ≤ 67108864 := by rw [← hn]; exact hr.q3
  have hfew : m ≤ 4398046511103 := by rw [← hm]; exact hr.few
  clear hc hf hr ha h eL eW hx1 hn hm
  go_enter Try.func35, Try.ntmps35
  go_wp2_with fail
  go_loopw [3, 4] (fun v i wr => ∃ k : Nat, k ≤ n ∧ i = .int .i64 k ∧ Hid (OwnB wr w.heap.size v (flatR r.L k)) ∧ Hid (Below w.heap.size w wr)) (fun _ i _ => n - (intOf i).toNat)
  case atStart => exact ⟨0, by omega, rfl, hidden (OwnB.nil _ _), hidden (Below.refl _ _)⟩
  case round =>
    obtain ⟨k, hk, rfl, OK, BK⟩ := hrel
    have x1 : wr.cell? ⟨a, 1, none⟩ = some (.slice aL n cL) := (BK.out.cell (p := ⟨a, 1, none⟩) hal).trans c1
    by_cases hlt : k < n
    · have hlt' : (k : Int) < (n : Int) := by omega
      obtain ⟨g, c, q, e1, _, cg, _, _, _, hgl, _, _, _, _, hrow, hlen, hwf, _⟩ := HR.out.rowi (n := k) (by rw [HN.out]; exact hlt)
      rw [HEL.out, HN.out] at e1
      have hao : aL = some ⟨g, 0, none⟩ := by injection e1
      subst hao
      have y1 := (BK.out.cell (p := ⟨g, k, none⟩) hgl).trans cg
      obtain ⟨rk, hrk⟩ : ∃ l, r.L.getD k [] = l := ⟨_, rfl⟩
      rw [hrk] at hrow hlen
      have HFS : Hid (flatR r.L (k + 1) = flatR r.L k ++ rk) := hidden (by rw [← hrk]; rfl)
      have HQC : Hid (∀ j, j < r.page → wr.cell? ((⟨q, 0, none⟩ : Addr).add j) = some (.int .u8 (rk.getD j 0))) := hidden fun j hj => by
        rw [Addr.add_lit, Nat.zero_add]
        exact (BK.out.cell (p := ⟨q, j, none⟩) (lt_of_some hrow)).trans ((cell_of_row hrow).trans (getD_By _ _ (by omega)))
      have HL := hidden hlen
      have hfl : (flatR r.L k).length + r.page ≤ 140737488355328 := by
        rw [(HFL.out k (by rw [HN.out]; omega)).1]
        have : k * r.page ≤ 65536 * 65536 := Nat.mul_le_mul (by omega) hp2
        omega
      have HFLB := hidden hfl
      have hbs : w.heap.size ≤ wr.heap.size := BK.out.size
      clear cg hrow hlen hwf e1 hfl hrk
      go_wp2_with (refine app_bytes _ rfl _ _ rfl w.heap.size (flatR r.L k) _ rfl OK.out ⟨q, 0, none⟩ r.page r.page rk rfl HL.out HQC.out HFLB.out hbs ?_)
      intro v2 w2 o2 b2
      have O2 : Hid (OwnB w2 w.heap.size v2 (flatR r.L (k + 1))) := hidden (by rw [HFS.out]; exact o2)
      have B2 := hidden (BK.out.trans b2)
      clear o2 b2 HQC OK
      go_wp2
      go_roundw
      case rel => exact ⟨k + 1, by omega, by go_num, O2, B2⟩
      case measure => simp [intOf]; omega
    · have hge : ¬ ((k : Int) < (n : Int)) := by omega
      obtain rfl : k = n := by omega
      obtain ⟨wo, hwo⟩ : ∃ wo, wo = wr := ⟨_, rfl⟩
      subst hwo
      obtain ⟨l1, l2⟩ := HFL.out k (by rw [HN.out]; exact Nat.le_refl _)
      obtain ⟨N, hN⟩ : ∃ N, k * r.page = N := ⟨_, rfl⟩
      have hN1 : 0 < N := by rw [← hN]; exact Nat.mul_pos (by omega) (by omega)
      have hN2 : N ≤ 67108864 := by rw [← hN, Nat.mul_comm]; exact hq3
      rw [hN] at l1
      have hown : wo.ownsRow w.heap.size 5 1 u3 N (By (flatR r.L k)) := by
        have := OK.out
        unfold OwnB at this
        rw [l1] at this
        exact this
      obtain ⟨go, cap, cur, hu, g1, g2, g3, g4, g5, g6⟩ : ∃ go cap cur, u3 = .slice (some ⟨go, 0, none⟩) N cap ∧ w.heap.size ≤ go ∧ wo.heap[go]? = some (.cells cur 5 (0, 0)) ∧ N ≤ cap ∧ cap ≤ maxLen ∧ cur.size = cap * 1 ∧ cur.toList.take (N * 1) = By (flatR r.L k) := by
        rcases hown.2 with ⟨_, h0⟩ | ⟨go, cap, cur, h1, h2, h3, h4, h5, h6, h7⟩
        · omega
        · exact ⟨go, cap, cur, h1, h2, h3, h4, h5, h6, h7⟩
      subst hu
      have HIM := hidden (fun j hj => HR.out.im (base := flatR r.L k) (by rw [l1, HN.out, hN]) l2 j hj)
      have HC0 : Hid (∃ cur : List Value, wo.heap[go]? = some (.cells cur.toArray 5 (0, 0)) ∧ cur.length = cap ∧ cur.take N = By (imR r.page (flatR r.L k) r.wild 0)) := hidden ⟨cur.toList, by simpa using g2, by simpa using g5, by simpa [imR] using g6⟩
      have HNN := hidden hN
      have HOG := hidden g1
      have HCM := hidden g4
      have HG2 := hidden (lt_of_some g2)
      clear g1 g2 g4 g5 g6 hown OK l1 l2 hN cur
      go_wp2_with fail
      go_loopw [5] (fun i wx => ∃ j : Nat, j ≤ m ∧ i = .int .i64 j ∧ Hid (Ch (fun b => b = go) wo wx) ∧ Hid (∃ cur : List Value, wx.heap[go]? = some (.cells cur.toArray 5 (0, 0)) ∧ cur.length = cap ∧ cur.take N = By (imR r.page (flatR r.L k) r.wild j))) (fun i _ => m - (intOf i).toNat)
      case atStart => exact ⟨0, by omega, rfl, hidden (Ch.refl _ _), HC0⟩
      case round =>
        obtain ⟨j, hj, rfl, HCx, HCu⟩ := hrel
        have hgow : w.heap.size ≤ go := HOG.out
        have hkp : ∀ b o, b < w.heap.size → wr.cell? ⟨b, o, none⟩ = w.cell? ⟨b, o, none⟩ := fun b o hb => by
          rw [World.cell?_of_block (w := wo) (a := ⟨b, o, none⟩) (HCx.out.block b (Nat.lt_of_lt_of_le hb BK.out.size) (fun e : b = go => by omega))]
          exact BK.out.cell (p := ⟨b, o, none⟩) hb
        have x2 : wr.cell? ⟨a, 2, none⟩ = some (.slice aW m cW) := (hkp a 2 hal).trans c2
        by_cases hlt : j < m
        · have hlt' : (j : Int) < (m : Int) := by omega
          obtain ⟨g, c, q', cq, e1, _, g0, g1, hcq, _, hga, hgl', _, _, hqn, hqg', hql, hdat, hpn, hdl, hdw, _⟩ := HR.out.item (k := j) (by rw [HM.out]; exact hlt)
          rw [HN.out] at hpn
          rw [HEW.out, HM.out] at e1
          have hao : aW = some ⟨g, 0, none⟩ := by injection e1
          subst hao
          obtain ⟨p, hP⟩ : ∃ p, (r.wild.getD j (0, [])).1 = p := ⟨_, rfl⟩
          obtain ⟨l, hLl⟩ : ∃ l, (r.wild.getD j (0, [])).2 = l := ⟨_, rfl⟩
          rw [hP] at g0 hpn
          rw [hLl] at hdat hdl hdw
          have x0 : wr.cell? ⟨a, 0, none⟩ = some (.int .i64 r.page) := (hkp a 0 hal).trans c0
          have y0 := (hkp g (j * 2) hgl').trans g0
          have y1 := (hkp g (j * 2 + 1) hgl').trans g1
          obtain ⟨z, hz⟩ : ∃ z, p * r.page = z := ⟨_, rfl⟩
          have hzi : (p : Int) * (r.page : Int) = (z : Int) := by rw [← hz]; simp
          have hzN : z + r.page ≤ N := by rw [← hz, ← HNN.out]; exact mul_far hpn
          have hzw : IntKind.i64.wrap (z : Int) = (z : Int) := by rw [IntKind.wrap_i64]; omega
          have hzb : (z : Int) ≤ (N : Int) := by omega
          have hzc : (z : Int) ≤ (cap : Int) := by omega
          have hzc' : ¬ (cap = z) := by omega
          obtain ⟨cur, u1, u2, u3⟩ := HCu.out
          have HSRC : Hid (∀ i v, (By l)[i]? = some v → wr.drew.cell? ((⟨q', 0, none⟩ : Addr).add i) = some v) := hidden fun i v hv => by
            obtain ⟨h1, rfl⟩ := getElem?_By l i v hv
            rw [Addr.add_lit, Nat.zero_add]
            exact (hkp q' i hql).trans (hdat i (by omega))
          have HROW := hidden u1
          have HMN : Hid ((By l).length = Nat.min r.page (N - z)) := hidden (by rw [By_length, hdl]; exact (Nat.min_eq_left (by omega)).symm)
          have HFT : Hid (z + (By l).length ≤ cur.length) := hidden (by rw [By_length, hdl, u2]; omega)
          have HNXT : Hid (∀ u, u = wr.drew.setRow go (splice cur z (By l)).toArray → Hid (Ch (fun b => b = go) wo u) ∧ Hid (∃ cur : List Value, u.heap[go]? = some (.cells cur.toArray 5 (0, 0)) ∧ cur.length = cap ∧ cur.take N = By (imR r.page (flatR r.L k) r.wild (j + 1))) ∧ u.cell? ⟨a, 0, none⟩ = some (.int .i64 r.page) ∧ u.cell? ⟨a, 2, none⟩ = some (.slice (some ⟨g, 0, none⟩) m cW) ∧ u.cell? ⟨g, j * 2, none⟩ = some (.int .i64 (p : Int)) ∧ u.cell? ⟨g, j * 2 + 1, none⟩ = some (.slice (some ⟨q', 0, none⟩) r.page cq)) := hidden fun u hu => by
            have hcu : Ch (fun b => b = go) wr u := by rw [hu]; exact (Ch.dr _ wr).trans (Ch.setRow (F := fun b => b = go) _ rfl _) fun _ _ h => h
            have hk : ∀ b o, b < w.heap.size → u.cell? ⟨b, o, none⟩ = wr.cell? ⟨b, o, none⟩ := fun b o hb => World.cell?_of_block (w := wr) (a := ⟨b, o, none⟩) (hcu.block b (by have := BK.out.size; have := HCx.out.size; omega) (fun e : b = go => by omega))
            refine ⟨hidden (HCx.out.trans hcu fun _ _ h => h), hidden ⟨splice cur z (By l), by rw [hu]; exact setRow_heap _ _ _ _ _ _ u1, ?_, ?_⟩, (hk a 0 hal).trans x0, (hk a 2 hal).trans x2, (hk g _ hgl').trans y0, (hk g _ hgl').trans y1⟩
            · rw [length_splice _ _ _ (by rw [By_length, hdl, u2]; omega), u2]
            · rw [take_splice _ _ _ _ (by rw [By_length, hdl]; omega) (by omega), u3, By_splice]
              show _ = By (splice (imR r.page (flatR r.L k) r.wild j) ((r.wild.getD j (0, [])).1 * r.page) (r.wild.getD j (0, [])).2)
              rw [hP, hLl, hz]
          clear hdat hdl hdw hP hLl hql hqn e1 hz g0 g1 u1 u2 u3 hkp hpn
          go_wp2_with fail
          go_region_held3 (fun u => u.cell? ⟨a, 0, none⟩ = some (.int .i64 r.page) ∧ u.cell? ⟨a, 2, none⟩ = some (.slice (some ⟨g, 0, none⟩) m cW) ∧ u.cell? ⟨g, j * 2, none⟩ = some (.int .i64 (p : Int)) ∧ u.cell? ⟨g, j * 2 + 1, none⟩ = some (.slice (some ⟨q', 0, none⟩) r.page cq)) (go_keep)
            (first | (refine step_copy_row rfl _ _ 35 35 rfl 5 Try.underlying35 hsz go z (N - z) (cap - z) ⟨q', 0, none⟩ r.page cq rfl rfl cur 5 HROW.out (By l) HMN.out HSRC.out HFT.out (By_one _) ?_; intro u9 HU; obtain ⟨n1, n2, n3, n4, n5, n6⟩ := HNXT.out u9 HU.out; clear HU))
          all_goals
            clear n3 n4 n5 n6 HNXT HSRC HROW HMN HFT x0 x2 y0 y1 hzi hzw
            go_wp2
            go_roundw
            case rel => exact ⟨j + 1, by omega, by go_num, n1, n2⟩
            case measure => simp [intOf]; omega
        · have hge2 : ¬ ((j : Int) < (m : Int)) := by omega
          obtain rfl : j = m := by omega
          obtain ⟨cur, u1, u2, u3⟩ := HCu.out
          obtain ⟨i1, i2⟩ := HIM.out j (by rw [HM.out]; exact Nat.le_refl _)
          rw [HN.out, HNN.out] at i1
          have HSL : Hid (Sl wr (some ⟨go, 0, none⟩) N cap (imR r.page (flatR r.L k) r.wild j)) := hidden ⟨i1, g3, by omega, i2, (by intro h; cases h), .inr ⟨go, 0, rfl, lt_of_some u1, fun i hi => by
            rw [Nat.zero_add, cell_of_row u1]
            have e : (cur.take N)[i]? = cur[i]? := by rw [List.getElem?_take, if_pos hi]
            rw [← e, u3]
            exact getD_By _ _ (by omega)⟩⟩
          have HBF : Hid (Below w.heap.size w wr) := hidden (BK.out.trans (HCx.out.below BK.out.size fun b hb e => by omega))
          clear u1 u2 u3 i1 i2 hkp
          go_wp2
          go_ret
          exact ⟨some ⟨go, 0, none⟩, cap, by first | rfl | (rw [HN.out, HNN.out]; rfl), by rw [HN.out, HM.out, HNN.out]; exact HSL.out, HBF.out, fun g hg => by injection hg with hg; rw [← hg]; exact HOG.out⟩
end Go.Proofs.Ytikpfcapnpppdaa

/- append of zeros to bytes that are owned. -/

namespace Go.Proofs.Ytikpfcapnpppdaa
open Go.RowKit

set_option maxRecDepth 100000 in
theorem zc5 (k : Nat) : Builtin.zeroCells (Value.int .u8 0).cells k = (List.replicate k (Value.int .u8 0)).toArray := by
  apply Array.ext'
  apply List.ext_getElem?
  intro j
  by_cases hj : j < k
  · simp [Builtin.zeroCells, Value.cells, hj, Nat.mod_one]
  · simp [Builtin.zeroCells, Value.cells, hj]
set_option maxRecDepth 100000 in
theorem run_zeros (w : World) (B n k : Nat) (v : Value) (l : List Int) (ty : TypeId) (hown : OwnB w B v l) (hl : l.length = n) (h0 : 0 < n) (hk : 0 < k) (hb : n + k ≤ 70368744177664) (hB : B ≤ w.heap.size) :
    ∃ v' w', (Builtin.append_ #[35, 3] ty #[v, .int .i64 (k : Int)]).run Try.prog w = .ok v' w' ∧ OwnB w' B v' (l ++ List.replicate k 0) ∧ Below B w w' := by
  obtain ⟨i0, hi, hz0, hz1, hz2⟩ := info_parts info5
  unfold OwnB at hown
  rw [hl] at hown
  have hlen : (By (l ++ List.replicate k 0)).length = (n + k) * 1 := by simp [By, hl]
  have hby : By (l ++ List.replicate k 0) = By l ++ List.replicate k (.int .u8 0) := by simp [By]
  rcases hown.2 with ⟨_, e0⟩ | ⟨g, cap, cur, rfl, g1, g2, g3, g4, g5, g6⟩
  · omega
  · by_cases hroom : n + k ≤ cap
    · have hst := run_storeCells_at Try.prog g (n * 1) 5 (List.replicate k (.int .u8 0)) 0 cur w g2 (by simp; omega) (by intro u hu; rw [List.eq_of_mem_replicate hu]; rfl)
      simp only [Nat.add_zero, Nat.mul_one, List.length_replicate] at hst
      have hw : IntKind.i64.wrap (k : Int) = k := by rw [IntKind.wrap_i64]; omega
      have h48 : ¬ (281474976710656 < (k : Int)) := by omega
      have hneg : ¬ ((k : Int) < 0) := by omega
      have hk0 : ¬ k = 0 := by omega
      refine ⟨.slice (some ⟨g, 0, none⟩) (n + k) cap, w.setRow g (cur.toList.take n ++ List.replicate k (Value.int .u8 0) ++ cur.toList.drop (n + k)).toArray, ?_, ?_, ?_⟩
      · simp [Builtin.append_, run_underlying Try.underlying35, run_underlying Try.underlying3, sizeOf, typeInfo, zeroValue, hi, hz0, hz1, hz2, asInt, asIntOf, hw, hneg, hk0, h48, hroom, zc5, Addr.add_lit, hst]
      · unfold OwnB
        refine ⟨by rw [hlen]; simp [hl], .inr ⟨g, cap, _, by simp [hl], g1, setRow_heap w g cur _ _ _ g2, by simp [hl]; omega, g4, ?_, ?_⟩⟩
        · simp
          omega
        · rw [hby, show (l ++ List.replicate k (0 : Int)).length * 1 = (By l ++ List.replicate k (Value.int .u8 0)).length by simp [By]]
          have : cur.toList.take n = By l := by simpa using g6
          rw [this]
          exact List.take_left
      · exact _root_.Go.below_setRow (Below.refl B w) g1 _
    · have holds : ∀ j u, (By l)[j]? = some u → w.drew.cell? ((⟨g, 0, none⟩ : Addr).add j) = some u := fun j u hu => hown.cells (g := g) rfl j u hu
      have hf := run_firstCells_some (P := Try.prog) w.drew i0.size n ⟨g, 0, none⟩ n cap (By l) (by simp [By_length, hl, hz1]) holds
      have hr := Lib.run_append_grow_zeros (P := Try.prog) w 35 3 ty 5 i0 (.int .u8 0) .i64 .i64 Try.underlying35 Try.underlying3 hi hz0 (some ⟨g, 0, none⟩) n cap (By l) hf k hk (by omega) (by omega) (by omega) (by rw [hz2]; omega) (growslice_fits (by omega) (by rw [hz2]; omega))
      rw [zc5] at hr
      refine ⟨_, _, hr, ?_, ?_⟩
      · have hge := grownCap_ge w (n + k) cap 5
        have hcm : grownCap w (n + k) cap 5 ≤ maxLen := grownCap_le_maxLen w (n + k) cap _ (by unfold maxLen; omega)
        unfold OwnB
        refine ⟨by rw [hlen]; simp [hl], .inr ⟨w.heap.size, _, _, by simp [hl], hB, heap_alloc_new w.drew _, by simp [hl]; exact hge, hcm, ?_, ?_⟩⟩
        · simp [size_zeroCells, By, hl, Value.cells]
          omega
        · rw [hby, show (l ++ List.replicate k (0 : Int)).length * 1 = (By l ++ List.replicate k (Value.int .u8 0)).length by simp [By]]
          simp only [Array.toList_append]
          exact List.take_left
      · exact ((Below.refl B w).drew).alloc hB _
set_option maxRecDepth 100000 in
set_option maxHeartbeats 1000000 in
theorem rSafe_own (w : World) (F : Nat → Prop) (a : Nat) (r : R) (h : Rv w F a r) : Calls Try.prog 36 #[.pointer (some ⟨a, 0, none⟩)] w fun e w' => ∃ v, e = .returned v ∧ OwnB w' w.heap.size v (flatR r.L r.L.length) ∧ Below w.heap.size w w' := by
  obtain ⟨vL, vW, vK, qs, hc, hf, hr, ha⟩ := h.c
  obtain ⟨aL, cL, eL, _⟩ := own_val hr.oL
  obtain ⟨n, hn⟩ : ∃ n, r.L.length = n := ⟨_, rfl⟩
  have c1 : w.cell? ⟨a, 1, none⟩ = some (.slice aL n cL) := by rw [← hn, ← eL]; exact hc 1
  have hal := lt_of_some ha
  have HR := hidden hr
  have HN := hidden hn
  have HEL := hidden eL
  have HFL := hidden hr.flat
  have hq2 : n ≤ 65536 := by rw [← hn]; exact hr.q2
  have hp2 := hr.p2
  clear hc hf hr ha h eL
  go_enter Try.func36, Try.ntmps36
  go_wp2_with fail
  go_loopw [3, 4] (fun v i wr => ∃ k : Nat, k ≤ n ∧ i = .int .i64 k ∧ Hid (OwnB wr w.heap.size v (flatR r.L k)) ∧ Hid (Below w.heap.size w wr)) (fun _ i _ => n - (intOf i).toNat)
  case atStart => exact ⟨0, by omega, rfl, hidden (OwnB.nil _ _), hidden (Below.refl _ _)⟩
  case round =>
    obtain ⟨k, hk, rfl, OK, BK⟩ := hrel
    have x1 : wr.cell? ⟨a, 1, none⟩ = some (.slice aL n cL) := (BK.out.cell (p := ⟨a, 1, none⟩) hal).trans c1
    by_cases hlt : k < n
    · have hlt' : (k : Int) < (n : Int) := by omega
      obtain ⟨g, c, q, e1, _, cg, _, _, _, hgl, _, _, _, _, hrow, hlen, hwf, _⟩ := HR.out.rowi (n := k) (by rw [HN.out]; exact hlt)
      rw [HEL.out, HN.out] at e1
      have hao : aL = some ⟨g, 0, none⟩ := by injection e1
      subst hao
      have y1 := (BK.out.cell (p := ⟨g, k, none⟩) hgl).trans cg
      obtain ⟨rk, hrk⟩ : ∃ l, r.L.getD k [] = l := ⟨_, rfl⟩
      rw [hrk] at hrow hlen
      have HFS : Hid (flatR r.L (k + 1) = flatR r.L k ++ rk) := hidden (by rw [← hrk]; rfl)
      have HQC : Hid (∀ j, j < r.page → wr.cell? ((⟨q, 0, none⟩ : Addr).add j) = some (.int .u8 (rk.getD j 0))) := hidden fun j hj => by
        rw [Addr.add_lit, Nat.zero_add]
        exact (BK.out.cell (p := ⟨q, j, none⟩) (lt_of_some hrow)).trans ((cell_of_row hrow).trans (getD_By _ _ (by omega)))
      have HL := hidden hlen
      have hfl : (flatR r.L k).length + r.page ≤ 140737488355328 := by
        rw [(HFL.out k (by rw [HN.out]; omega)).1]
        have : k * r.page ≤ 65536 * 65536 := Nat.mul_le_mul (by omega) hp2
        omega
      have HFLB := hidden hfl
      have hbs : w.heap.size ≤ wr.heap.size := BK.out.size
      clear cg hrow hlen hwf e1 hfl hrk
      go_wp2_with (refine app_bytes _ rfl _ _ rfl w.heap.size (flatR r.L k) _ rfl OK.out ⟨q, 0, none⟩ r.page r.page rk rfl HL.out HQC.out HFLB.out hbs ?_)
      intro v2 w2 o2 b2
      have O2 : Hid (OwnB w2 w.heap.size v2 (flatR r.L (k + 1))) := hidden (by rw [HFS.out]; exact o2)
      have B2 := hidden (BK.out.trans b2)
      clear o2 b2 HQC OK
      go_wp2
      go_roundw
      case rel => exact ⟨k + 1, by omega, by go_num, O2, B2⟩
      case measure => simp [intOf]; omega
    · have hge : ¬ ((k : Int) < (n : Int)) := by omega
      obtain rfl : k = n := by omega
      go_wp2
      go_ret
      exact ⟨_, rfl, by first | exact OK.out | (rw [HN.out]; exact OK.out), BK.out⟩
end Go.Proofs.Ytikpfcapnpppdaa

/- The walk of PlateMakes. -/

namespace Go.Proofs.Ytikpfcapnpppdaa
open Go.RowKit

/-- No device is loaded: both say so. -/
def NoLoad (n : Nat) (x : Int) : Prop := ∀ (u : World) (ao : Option Addr) (c : Nat), Calls Try.prog 57 #[.slice ao n c, .int .i64 x] u (fun e w' => e = .returned (.tuple #[.pointer none, .int .i64 32]) ∧ w' = u) ∧ Calls Try.prog 58 #[.slice ao n c, .int .i64 x] u (fun e w' => e = .returned (.tuple #[.pointer none, .int .i64 32]) ∧ w' = u)
set_option maxRecDepth 100000 in
theorem load_cases (n : Nat) (x : Int) (hn : n ≤ 140737488355328) : NoLoad n x ∨ ∃ X Y : Nat, x = (X : Int) ∧ n = X * Y ∧ dev X Y = true := by
  cases hp : pgs x
  · exact .inl fun u ao c => ⟨Load_page u ao n c x hp, rLoad_page u ao n c x hp⟩
  · obtain ⟨X, rfl⟩ : ∃ X : Nat, x = (X : Int) := ⟨x.toNat, by simp only [pgs, decide_eq_true_eq] at hp; omega⟩
    by_cases hm : n % X = 0
    · obtain ⟨Y, hY⟩ : ∃ Y, n = X * Y := ⟨n / X, by rw [Nat.mul_div_cancel' (Nat.dvd_of_mod_eq_zero hm)]⟩
      cases hd : dev X Y
      · exact .inl fun u ao c => ⟨Load_dev u ao n c X Y hn hp hY hd, rLoad_dev u ao n c X Y hn hp hY hd⟩
      · exact .inr ⟨X, Y, rfl, hY, hd⟩
    · exact .inl fun u ao c => ⟨Load_rest u ao n c X hn hp hm, rLoad_rest u ao n c X hn hp hm⟩

set_option maxRecDepth 100000 in
theorem Rl.on {w w' : World} {B a page n : Nat} (h : Rl w B a page n) (hb : Below w.heap.size w w') : Rl w' B a page n := by
  obtain ⟨vL, qs, ha, ho, hl, hq, hg, hB⟩ := h
  refine ⟨vL, qs, (hb.block a (lt_of_some ha)).trans ha, ⟨ho.1, ?_⟩, hl, fun q hm => ?_, hg, hB⟩
  · rcases ho.2 with h0 | ⟨g, cap, cur, rfl, g1, g2, g3⟩
    · exact .inl h0
    · exact .inr ⟨g, cap, cur, rfl, g1, (hb.block g (lt_of_some g2)).trans g2, g3⟩
  · obtain ⟨c1, c2, c3, l1, c4, c5⟩ := hq q hm
    exact ⟨c1, c2, c3, l1, c4, (hb.block q (lt_of_some c5)).trans c5⟩
set_option maxRecDepth 100000 in
theorem lent_sl {w : World} {g n : Nat} {l : List Int} (h : w.heap[g]? = some (.cells (By (l ++ mks 9)).toArray 5 (0, 0))) (hl : l.length = n) (hw : Wf l) (hn : n ≤ 140737488355328) : Sl w (some ⟨g, 0, none⟩) n (n + 9) l :=
  ⟨hl, by omega, hn, hw, (by intro h; cases h), .inr ⟨g, 0, rfl, lt_of_some h, fun i hi => by
    rw [Nat.zero_add, cell_of_row h, getD_By _ _ (by rw [List.length_append]; omega)]
    simp only [List.getD]
    rw [List.getElem?_append_left (by omega)]⟩⟩

set_option maxRecDepth 100000 in
/-- Bytes that came in stay through whatever leaves the blocks of the start alone. -/
theorem Sl.at {w w' : World} {ao : Option Addr} {n cap : Nat} {l : List Int} (h : Sl w ao n cap l) (hb : Below w.heap.size w w') : Sl w' ao n cap l := h.on (Nat.le_refl _) hb

end Go.Proofs.Ytikpfcapnpppdaa

/- Load of both; the pair anew. -/

namespace Go.Proofs.Ytikpfcapnpppdaa
open Go.RowKit

set_option maxRecDepth 100000 in
/-- Both load, or neither does. -/
theorem load_both (n : Nat) (x : Nat) (l : List Int) (hl : l.length = n) (hn : n ≤ 140737488355328) : NoLoad n (x : Int) ∨ ∃ (d : D) (r : R), Tw d r ∧ d.loose = [] ∧ d.cr = 0 ∧ d.cw = 0 ∧ d.cs = 0 ∧ d.armed = false
    ∧ (∀ w ao c, Sl w ao n c l → Calls Try.prog 57 #[.slice ao n c, .int .i64 (x : Int)] w fun e w' => ∃ a, e = .returned (.tuple #[.pointer (some ⟨a, 0, none⟩), .int .i64 0]) ∧ Dv w' (fun k => w.heap.size ≤ k ∧ k < w'.heap.size) a d ∧ Below w.heap.size w w')
    ∧ (∀ w ao c, Sl w ao n c l → Calls Try.prog 58 #[.slice ao n c, .int .i64 (x : Int)] w fun e w' => ∃ a, e = .returned (.tuple #[.pointer (some ⟨a, 0, none⟩), .int .i64 0]) ∧ Rv w' (fun k => w.heap.size ≤ k ∧ k < w'.heap.size) a r ∧ Below w.heap.size w w') := by
  rcases load_cases n x hn with h | ⟨X, Y, hX, hY, hd⟩
  · exact .inl h
  · have e : x = X := by omega
    subst e
    refine .inr ⟨{ d0 x Y with safe := l }, r0 x ((List.range Y).map (pgOf x l)), Tw.loaded x Y l (by omega), rfl, rfl, rfl, rfl, rfl, fun w ao c hs => Load_yes w ao n c l x Y hs hY hd, fun w ao c hs => rLoad_rv w ao n c l x Y hs hY hd⟩

set_option maxRecDepth 100000 in
/-- The pair holds two other devices. -/
theorem Ps.renew {w : World} {B x t pa ra pa' ra' : Nat} {P F G M F' G' : Nat → Prop} {its : List (Option Nat × List Int)} {d d' : D} {r r' : R} {vC vW : Value} (h : Ps w B P x t its d r pa ra F G M vC vW) (P' : Nat → Prop) (hP' : ∀ k, P k → P' k)
    (hD : Dv w F' pa' d') (hR : Rv w G' ra' r') (htw : Tw d' r') (hF : ∀ k, F' k → P' k ∧ k < w.heap.size ∧ ¬ P k) (hG : ∀ k, G' k → P' k ∧ k < w.heap.size ∧ ¬ P k ∧ ¬ F' k)
    (n2 : d'.loose = []) (n3 : d'.cr = 0) (n4 : d'.cw = 0) (n5 : d'.cs = 0) (n6 : d'.armed = false) :
    Ps ((w.setCell ⟨x, 0, none⟩ (.pointer (some ⟨pa', 0, none⟩))).setCell ⟨x, 1, none⟩ (.pointer (some ⟨ra', 0, none⟩))) B P' x t its d' r' pa' ra' F' G' M vC vW ∧ Ch P w ((w.setCell ⟨x, 0, none⟩ (.pointer (some ⟨pa', 0, none⟩))).setCell ⟨x, 1, none⟩ (.pointer (some ⟨ra', 0, none⟩))) := by
  have hx := h.hP x (.inl rfl)
  obtain ⟨w2, hw2⟩ : ∃ w2, w2 = (w.setCell ⟨x, 0, none⟩ (.pointer (some ⟨pa', 0, none⟩))).setCell ⟨x, 1, none⟩ (.pointer (some ⟨ra', 0, none⟩)) := ⟨_, rfl⟩
  have hc : Ch (fun k => k = x) w w2 := by
    rw [hw2]
    exact (Ch.setCell w (F := fun k => k = x) rfl _).trans (Ch.setCell _ (F := fun k => k = x) rfl _) fun _ _ h => h
  have hrow : w2.heap[x]? = some (.cells [.pointer (some ⟨pa', 0, none⟩), .pointer (some ⟨ra', 0, none⟩), vC, vW].toArray 33 (0, 0)) := by
    rw [hw2, heap_setCell_self (heap_setCell_self h.pc.row)]
    rfl
  rw [← hw2]
  have hs := hc.size
  refine ⟨⟨⟨hrow, own_keep h.pc.oC fun g e => hc.block g (h.pc.oC.lt g e).2 (fun e2 => h.pc.nC (e2 ▸ e)), own_keep h.pc.oW fun g e => hc.block g (h.pc.oW.lt g e).2 (fun e2 => h.pc.nW (e2 ▸ e)), h.pc.nC, h.pc.nW, h.pc.nn, h.pc.hB⟩, hD.ch hc fun k _ hk e => (hF k hk).2.2 (e ▸ hx.1), hR.ch hc fun k _ hk e => (hG k hk).2.2.1 (e ▸ hx.1), htw, h.cm.ch hc fun k hk e => (e ▸ hx).2.2.2.2 hk, fun k hk => ⟨(hF k hk).1, Nat.lt_of_lt_of_le (hF k hk).2.1 hs⟩, fun k hk => ⟨(hG k hk).1, Nat.lt_of_lt_of_le (hG k hk).2.1 hs, (hG k hk).2.2.2⟩, fun k hk => ?_, fun k hk => ?_, h.n1, by rw [n2]; exact Nat.zero_le _, by rw [n3]; omega, by rw [n4]; omega, by rw [n5]; omega, fun e => by rw [n6] at e; cases e⟩, hc.mono fun k _ e => e ▸ hx.1⟩
  · obtain ⟨m1, m2, _, _⟩ := h.hM k hk
    exact ⟨hP' k m1, Nat.lt_of_lt_of_le m2 hs, fun e => (hF k e).2.2 m1, fun e => (hG k e).2.2.1 m1⟩
  · obtain ⟨m1, m2, _, _, m5⟩ := h.hP k hk
    exact ⟨hP' k m1, Nat.lt_of_lt_of_le m2 hs, fun e => (hF k e).2.2 m1, fun e => (hG k e).2.2.1 m1, m5⟩
end Go.Proofs.Ytikpfcapnpppdaa

/- pair.load: both anew. -/

namespace Go.Proofs.Ytikpfcapnpppdaa
open Go.RowKit

set_option maxRecDepth 100000 in
theorem Sl.cut {w : World} {ao : Option Addr} {m c : Nat} {l : List Int} (h : Sl w ao m c l) (k : Nat) (hk : k ≤ m) : Sl w ao k c (l.take k) := by
  refine ⟨by rw [List.length_take, h.hlen]; omega, Nat.le_trans hk h.hcap, Nat.le_trans hk h.hroom, fun z hz => h.wf z (List.mem_of_mem_take hz), h.hnil, ?_⟩
  rcases h.hat with h0 | ⟨b, off, e, hb, hc⟩
  · exact .inl (by omega)
  · refine .inr ⟨b, off, e, hb, fun i hi => ?_⟩
    rw [hc i (by omega)]
    simp only [List.getD]
    rw [List.getElem?_take, if_pos hi]
/-- The bytes that are to be loaded. -/
structure Bl (w u : World) (ao : Option Addr) (m c : Nat) (l : List Int) : Prop where
  sl : Sl u ao m c l
  fr : ∀ g, ao = some g → w.heap.size ≤ g.block
  be : Below w.heap.size w u

set_option maxRecDepth 100000 in
set_option maxHeartbeats 4000000 in
theorem pload (w : World) (B x t pa ra : Nat) (P F G M : Nat → Prop) (its : List (Option Nat × List Int)) (d : D) (r : R) (vC vW : Value) (h : Ps w B P x t its d r pa ra F G M vC vW) (n : Int) (hn : -9223372036854775808 ≤ n ∧ n ≤ 9223372036854775807) (hPl : ∀ k, P k → k < w.heap.size) :
    Calls Try.prog 37 #[.pointer (some ⟨x, 0, none⟩), .int .i64 n] w fun e w' => e = .returned (.bool true) ∧ Pp w' B (Pg P w w') x t ∧ Ch P w w' := by
  have hxl := lt_of_some h.pc.row
  have k1 : w.cell? ⟨x, 1, none⟩ = some (.pointer (some ⟨ra, 0, none⟩)) := cell_of_row h.pc.row
  obtain ⟨bs, bl, vL, vK, _, hrst⟩ := h.dv
  obtain ⟨p, hp⟩ : ∃ p, r.page = p := ⟨_, rfl⟩
  have hpd : d.page = p := by rw [← hp]; exact h.tw.page.symm
  have hp1 : 512 ≤ p := by rw [← hpd]; exact hrst.p1
  have hp2 : p ≤ 65536 := by rw [← hpd]; exact hrst.p2
  obtain ⟨L, hL⟩ : ∃ L, flatR r.L r.L.length = L := ⟨_, rfl⟩
  have hLs : L = d.safe := by rw [← hL]; exact h.tw.flat
  have hLl : L.length = d.page * d.pages := by rw [hLs]; exact hrst.ns
  have hLw : Wf L := by rw [hLs]; exact hrst.ws
  have hLp : 0 < L.length := by rw [hLl]; exact Nat.mul_pos (by omega) (by have := hrst.q1; omega)
  have hLm : L.length ≤ 67108864 := by rw [hLl]; exact hrst.q3
  have HPG : Hid (∀ u, Below w.heap.size w u → Calls Try.prog 12 #[.pointer (some ⟨ra, 0, none⟩)] u fun e w' => e = .returned (.int .i64 (p : Int)) ∧ w' = u) := hidden fun u hb => by
    rw [← hp]
    exact rPage_any u G ra r (h.ch (Ch.of_below (F := fun _ => False) hb) (fun _ _ h => h)).rv
  have HSF : Hid (Calls Try.prog 36 #[.pointer (some ⟨ra, 0, none⟩)] w fun e u => ∃ ao c, e = .returned (.slice ao L.length c) ∧ Hid (OwnB u w.heap.size (.slice ao L.length c) L) ∧ Hid (Bl w u ao L.length c L)) := hidden ((rSafe_own w G ra r h.rv).mono (by
    rintro e u ⟨v, rfl, ho, hb⟩
    rw [hL] at ho
    obtain ⟨ao, c, rfl, hs, hf⟩ := ho.sl hLw (by omega)
    exact ⟨ao, c, rfl, hidden ho, hidden ⟨hs, hf, hb⟩⟩))
  have HK1 : Hid (∀ u, Below w.heap.size w u → u.cell? ⟨x, 1, none⟩ = some (.pointer (some ⟨ra, 0, none⟩))) := hidden fun u hb => (World.cell?_of_block (w := w) (a := ⟨x, 1, none⟩) (hb.block x hxl)).trans k1
  have HH := hidden h
  have HPL := hidden hPl
  have HLW := hidden hLw
  clear h hPl hrst hp hpd hL hLs hLl hLw
  obtain ⟨N, hN⟩ : ∃ N, L.length = N := ⟨_, rfl⟩
  rw [hN] at hLp hLm HSF
  have HN := hidden hN
  clear hN
  go_enter Try.func37, Try.ntmps37
  go_wp2_with (go_at_call 36; refine HSF.out.mono ?_; rintro e u ⟨ao, c, rfl, HO, HB⟩; refine Hid.out ?_)
  apply hidden
  clear HSF k1
  go_upto_region 2 with fail
  obtain ⟨bb, hbb⟩ : ∃ bb, bb = decide (0 < n ∧ n < 5) := ⟨_, rfl⟩
  go_cut [22] (fun v u' => v = .bool bb ∧ u' = u)
  case first =>
    by_cases h1 : 0 < n
    · by_cases h2 : n < 5
      · go_wp2
        go_meet
        case rel => exact ⟨by rw [hbb]; simp [h1, h2], rfl⟩
      · go_wp2
        go_meet
        case rel => exact ⟨by rw [hbb]; simp [h2], rfl⟩
    · go_wp2
      go_meet
      case rel => exact ⟨by rw [hbb]; simp; omega, rfl⟩
  obtain ⟨rfl, rfl⟩ := hcut
  obtain ⟨u, hu⟩ : ∃ u, u = wc := ⟨_, rfl⟩
  subst hu
  go_upto_if 22 with fail
  go_cut [5] (fun v u => ∃ ao c m l, v = .slice ao m c ∧ m ≤ 67371008 ∧ Hid (Bl w u ao m c l))
  case first =>
    have k2 := HK1.out u HB.out.be
    by_cases h1 : 0 < n
    · by_cases h2 : n < 5
      · obtain rfl : bb = true := by rw [hbb]; simp [h1, h2]
        clear hbb
        obtain ⟨k, rfl⟩ : ∃ k : Nat, n = (k : Int) := ⟨n.toNat, by omega⟩
        obtain ⟨z, hz⟩ : ∃ z, k * p = z := ⟨_, rfl⟩
        have hzi : (k : Int) * (p : Int) = (z : Int) := by rw [← hz]; simp
        have hz1 : 0 < z := by rw [← hz]; exact Nat.mul_pos (by omega) (by omega)
        have hz2 : z ≤ 262144 := by
          rw [← hz]
          exact Nat.le_trans (Nat.mul_le_mul (show k ≤ 4 by omega) hp2) (by omega)
        have hz3 : (z : Int) ≤ 262144 := by omega
        obtain ⟨v', w', hr, ho, hb⟩ := run_zeros u w.heap.size N z _ L 35 (by have := HO.out; exact this) HN.out hLp hz1 (by omega) HB.out.be.size
        obtain ⟨ao', c', rfl, hs, hf⟩ := ho.sl (HLW.out.append (replicate_wf z 0 (by omega))) (by simp [HN.out]; omega)
        rw [show (L ++ List.replicate z (0 : Int)).length = N + z by simp [HN.out]] at hs hr
        have HR := hidden hr
        have HBL : Hid (Bl w w' ao' (N + z) c' (L ++ List.replicate z 0)) := hidden ⟨hs, hf, HB.out.be.trans hb⟩
        have hp2i : (p : Int) ≤ 65536 := by omega
        clear hr ho hb hs hf HO hz
        go_wp2_with (first
          | (go_at_call 12; refine same_call (HPG.out _ HB.out.be) ?_)
          | (at_builtin; refine Lib.wpList_append_run _ rfl _ _ _ _ rfl _ _ rfl rfl _ _ HR.out ?_))
        go_meet
        case rel => exact ⟨ao', c', N + z, _, rfl, by omega, HBL⟩
      · obtain rfl : bb = false := by rw [hbb]; simp [h2]
        clear hbb
        go_wp2
        go_meet
        case rel => exact ⟨ao, c, N, _, rfl, by omega, HB⟩
    · obtain rfl : bb = false := by rw [hbb]; simp [h1]
      clear hbb
      go_wp2
      go_meet
      case rel => exact ⟨ao, c, N, _, rfl, by omega, HB⟩
  case rest =>
    obtain ⟨ao1, c1, m, l, rfl, hm, HB1⟩ := hcut
    clear HO HB hbb hLp hLm HN HLW
    obtain ⟨u1, hu1⟩ : ∃ u1, u1 = wc := ⟨_, rfl⟩
    subst hu1
    go_upto_region 4 with fail
    obtain ⟨b2, hb2⟩ : ∃ b2, b2 = decide (n < 0 ∧ -4 < n ∧ (-n) * (p : Int) ≤ (m : Int)) := ⟨_, rfl⟩
    have k3 := HK1.out u1 HB1.out.be
    go_cut [50] (fun v u' => v = .bool b2 ∧ u' = u1)
    case first =>
      by_cases h1 : n < 0
      · by_cases h2 : -4 < n
        · obtain ⟨k, rfl⟩ : ∃ k : Nat, n = -(k : Int) := ⟨(-n).toNat, by omega⟩
          obtain ⟨z, hz⟩ : ∃ z, k * p = z := ⟨_, rfl⟩
          have hzi : (k : Int) * (p : Int) = (z : Int) := by rw [← hz]; simp
          have hz2 : z ≤ 196608 := by
            rw [← hz]
            exact Nat.le_trans (Nat.mul_le_mul (show k ≤ 3 by omega) hp2) (by omega)
          have hz3 : (z : Int) ≤ 196608 := by omega
          have hp2i : (p : Int) ≤ 65536 := by omega
          have hkk : (k : Int) ≤ 3 := by omega
          rw [Int.neg_neg, hzi] at hb2
          have HB2 := hidden hb2
          clear hb2 hz
          by_cases h3 : (z : Int) ≤ (m : Int)
          · have HE : Hid (b2 = true) := hidden (by rw [HB2.out]; exact decide_eq_true ⟨h1, h2, h3⟩)
            go_wp2_with (go_at_call 12; refine same_call (HPG.out _ HB1.out.be) ?_)
            go_meet
            case rel => exact ⟨by rw [HE.out], rfl⟩
          · have HE : Hid (b2 = false) := hidden (by rw [HB2.out]; exact decide_eq_false fun h => h3 h.2.2)
            go_wp2_with (go_at_call 12; refine same_call (HPG.out _ HB1.out.be) ?_)
            go_meet
            case rel => exact ⟨by rw [HE.out]; first | rfl | (simp; omega), rfl⟩
        · have HE : Hid (b2 = false) := hidden (by rw [hb2]; exact decide_eq_false fun h => h2 h.2.1)
          clear hb2
          go_wp2
          go_meet
          case rel => exact ⟨by rw [HE.out], rfl⟩
      · have HE : Hid (b2 = false) := hidden (by rw [hb2]; exact decide_eq_false fun h => h1 h.1)
        clear hb2
        go_wp2
        go_meet
        case rel => exact ⟨by rw [HE.out], rfl⟩
    obtain ⟨rfl, rfl⟩ := hcut
    obtain ⟨u1, hu1⟩ : ∃ u1, u1 = wc := ⟨_, rfl⟩
    subst hu1
    go_upto_if 50 with fail
    go_cut [5] (fun v u => ∃ ao c m l, v = .slice ao m c ∧ m ≤ 67371008 ∧ Hid (Bl w u ao m c l))
    case first =>
      cases b2
      case false =>
        clear hb2
        go_wp2
        go_meet
        case rel => exact ⟨ao1, c1, m, l, rfl, hm, HB1⟩
      case true =>
        obtain ⟨h1, h2, h3⟩ : n < 0 ∧ -4 < n ∧ (-n) * (p : Int) ≤ (m : Int) := by simpa using hb2.symm
        clear hb2
        obtain ⟨k, rfl⟩ : ∃ k : Nat, n = -(k : Int) := ⟨(-n).toNat, by omega⟩
        obtain ⟨z, hz⟩ : ∃ z, k * p = z := ⟨_, rfl⟩
        have hzi : (k : Int) * (p : Int) = (z : Int) := by rw [← hz]; simp
        rw [Int.neg_neg, hzi] at h3
        have hz0 : 0 < z := by rw [← hz]; exact Nat.mul_pos (by omega) (by omega)
        have hzn : -(k : Int) * (p : Int) = -(z : Int) := by rw [Int.neg_mul, hzi]
        obtain ⟨m2, hm2⟩ : ∃ m2 : Nat, (m2 : Int) = (m : Int) + -(z : Int) := ⟨(m - z), by omega⟩
        have hm3 : m2 ≤ m := by omega
        have hcap := HB1.out.sl.hcap
        have hm4 : (m2 : Int) ≤ (c1 : Int) := by omega
        have hm5 : m2 ≤ c1 := by omega
        obtain ⟨b, off, rfl, _, _⟩ := HB1.out.sl.hat.resolve_left (by omega)
        have HE : Hid (Bl w u1 (some ⟨b, off, none⟩) m2 c1 (l.take m2)) := hidden ⟨HB1.out.sl.cut m2 hm3, HB1.out.fr, HB1.out.be⟩
        have hm2' := hm2.symm
        clear hz hm2
        go_wp2_with (go_at_call 12; refine same_call (HPG.out _ HB1.out.be) ?_)
        go_meet
        case rel => exact ⟨_, c1, m2, _, rfl, by omega, HE⟩
    case rest =>
      obtain ⟨ao2, c2, m2, l2, rfl, hm2, HB2⟩ := hcut
      clear HB1 k3 hb2
      obtain ⟨u2, hu2⟩ : ∃ u2, u2 = wc := ⟨_, rfl⟩
      subst hu2
      have hLe := Lent_any ao2 m2 c2 l2 u2 HB2.out.sl
      go_wp2_with (go_at_call 27; refine hLe.mono ?_; rintro e u3 ⟨rfl, hr3, hb3⟩; refine Hid.out ?_)
      apply hidden
      clear hLe
      obtain ⟨lb, hlb⟩ : ∃ lb, lb = u2.heap.size := ⟨_, rfl⟩
      rw [← hlb] at hr3
      rw [← hlb]
      have HLB := hidden hlb
      clear hlb
      have hB3 : Below w.heap.size w u3 := HB2.out.be.trans (hb3.mono HB2.out.be.size)
      have k3 := HK1.out u3 hB3
      have hls : Sl u3 (some ⟨lb, 0, none⟩) m2 (m2 + 9) l2 := lent_sl hr3 HB2.out.sl.hlen HB2.out.sl.wf HB2.out.sl.hroom
      have hs3 : Sl u3 ao2 m2 c2 l2 := HB2.out.sl.on (Nat.le_refl _) hb3
      have HB3 := hidden hB3
      have HR3 := hidden hr3
      have HLS := hidden hls
      have HS3 := hidden hs3
      have hwl : w.heap.size ≤ lb := by rw [HLB.out]; exact HB2.out.be.size
      have hlb3 : lb < u3.heap.size := lt_of_some hr3
      clear hB3 hr3 hls hs3 hb3
      rcases load_both m2 p l2 HB2.out.sl.hlen (by omega) with hNo | ⟨d', r', htw, e1, e2, e3, e4, e5, hA, hR⟩
      · have HNO := hidden hNo
        clear hNo
        go_wp2_with (first
          | (go_at_call 12; refine same_call (HPG.out _ HB3.out) ?_)
          | (go_at_call 57; refine same_call (HNO.out _ _ _).1 ?_)
          | (go_at_call 28; refine (AsLent_any lb m2 ao2 c2 l2 u3 HR3.out HS3.out).mono ?_; rintro e u4 ⟨rfl, hC4⟩; refine Hid.out ?_))
        apply hidden
        have hB4 : Below w.heap.size w u4 := HB3.out.trans (hC4.below HB3.out.size fun k hk e => by omega)
        have k4 := HK1.out u4 hB4
        have HB4 := hidden hB4
        clear k3 hB4 hC4
        go_wp2_with (first
          | (go_at_call 12; refine same_call (HPG.out _ HB4.out) ?_)
          | (go_at_call 58; refine same_call (HNO.out _ _ _).2 ?_))
        go_ret
        exact ⟨rfl, ⟨_, _, _, _, _, _, _, _, _, _, (HH.out.ch (Ch.of_below (F := fun _ => False) HB4.out) (fun _ _ h => h)).weak (fun k hk => .inl hk) (Nat.le_refl _)⟩, Ch.of_below HB4.out⟩
      · have HA := hidden (hA u3 _ _ HLS.out)
        have HR := hidden hR
        have HTW := hidden htw
        have HE := hidden (And.intro e1 (And.intro e2 (And.intro e3 (And.intro e4 e5))))
        clear hA hR htw e1 e2 e3 e4 e5
        go_wp2_with (first
          | (go_at_call 12; refine same_call (HPG.out _ HB3.out) ?_)
          | (go_at_call 57; refine HA.out.mono ?_; rintro e u4 ⟨a4, rfl, hD4, hb4⟩; refine Hid.out ?_))
        apply hidden
        have hB4 : Below w.heap.size w u4 := HB3.out.trans (hb4.mono HB3.out.size)
        have hr4 := (hb4.block lb hlb3).trans HR3.out
        have hs4 := HS3.out.on (Nat.le_refl _) hb4
        have HD4 := hidden hD4
        have HB4 := hidden hB4
        have HZ4 := hidden hb4.size
        have hAs := AsLent_any lb m2 ao2 c2 l2 u4 hr4 hs4
        have HS4 := hidden hs4
        clear k3 HA hD4 hB4 hb4 hr4 hs4
        go_wp2_with (go_at_call 28; refine hAs.mono ?_; rintro e u5 ⟨rfl, hC5⟩; refine Hid.out ?_)
        apply hidden
        clear hAs
        have hB5 : Below w.heap.size w u5 := HB4.out.trans (hC5.below HB4.out.size fun k hk e => by omega)
        have k5 := HK1.out u5 hB5
        have hs5 : Sl u5 ao2 m2 c2 l2 := by
          rcases HB2.out.sl.hat with h0 | ⟨b, off, e2, hb, _⟩
          · exact ⟨HS4.out.hlen, HS4.out.hcap, HS4.out.hroom, HS4.out.wf, HS4.out.hnil, .inl h0⟩
          · refine HS4.out.chg hC5 (fun g hg e => ?_)
            rw [e2] at hg
            injection hg with hg
            subst hg
            have := HLB.out
            replace e : b = lb := e
            omega
        have hD5 : Dv u5 (fun k => u3.heap.size ≤ k ∧ k < u4.heap.size) a4 d' := HD4.out.ch hC5 fun k _ hk e => by
          replace e : k = lb := e
          have := hk.1
          omega
        have HB5 := hidden hB5
        have HD5 := hidden hD5
        have HZ5 := hidden hC5.size
        have HRL := hidden (HR.out u5 _ _ hs5)
        clear hB5 hs5 hD5 hC5 HR HS4 HD4
        go_wp2_with (first
          | (go_at_call 12; refine same_call (HPG.out _ HB5.out) ?_)
          | (go_at_call 58; refine HRL.out.mono ?_; rintro e u6 ⟨a6, rfl, hR6, hb6⟩; refine Hid.out ?_))
        apply hidden
        have hB6 : Below w.heap.size w u6 := HB5.out.trans (hb6.mono HB5.out.size)
        have hP6 := HH.out.ch (Ch.of_below (F := fun _ => False) hB6) (fun _ _ h => h)
        have hD6 := HD5.out.on (Nat.le_refl _) hb6
        have k60 : u6.cell? ⟨x, 0, none⟩ = some (.pointer (some ⟨pa, 0, none⟩)) := cell_of_row hP6.pc.row
        have k61 : u6.cell? ⟨x, 1, none⟩ = some (.pointer (some ⟨ra, 0, none⟩)) := cell_of_row hP6.pc.row
        have f60 := free_of_row (i := 0) hP6.pc.row
        have f61 := free_of_row (i := 1) hP6.pc.row
        have z1 := HB3.out.size
        have z2 := HZ4.out
        have z3 := HZ5.out
        have z4 := hb6.size
        obtain ⟨q1, q2, q3, q4, q5⟩ := HE.out
        have hQ := hP6.renew (Pg P w u6) (fun k hk => .inl hk) hD6 hR6 HTW.out (fun k hk => ⟨.inr ⟨by have := hk.1; omega, by have := hk.2; omega⟩, by have := hk.2; omega, fun e => by have := HPL.out _ e; have := hk.1; omega⟩) (fun k hk => ⟨.inr ⟨by have := hk.1; omega, hk.2⟩, hk.2, fun e => by have := HPL.out _ e; have := hk.1; omega, fun e => by have := hk.1; have := e.2; omega⟩) q1 q2 q3 q4 q5
        have HQ := hidden hQ
        have HC6 : Hid (Ch P w u6) := hidden (Ch.of_below hB6)
        clear hQ hP6 hD6 hR6 hB6 hb6 q1 q2 q3 q4 q5 z1 z2 z3 z4 k5 HRL
        go_wp2
        go_ret
        refine ⟨rfl, ⟨_, _, _, _, _, _, _, _, _, _, HQ.out.1.weak (fun k hk => ?_) (Nat.le_refl _)⟩, HC6.out.trans HQ.out.2 fun _ _ h => h⟩
        rcases hk with e | e
        · exact .inl e
        · exact .inr ⟨e.1, by simpa [World.setCell] using e.2⟩
end Go.Proofs.Ytikpfcapnpppdaa

/- The pair's play: Load. -/

namespace Go.Proofs.Ytikpfcapnpppdaa
open Go.RowKit

set_option maxRecDepth 100000 in
set_option maxHeartbeats 4000000 in
theorem play_load (w : World) (B x t pa ra : Nat) (P F G M : Nat → Prop) (its : List (Option Nat × List Int)) (d : D) (r : R) (vC vW : Value) (h : Ps w B P x t its d r pa ra F G M vC vW) (on n by_ : Int) (hn : -9223372036854775808 ≤ n ∧ n ≤ 9223372036854775807) (da ka : Option Addr) (dn dc kn kc : Nat) (tn ta : Int) (hPl : ∀ k, P k → k < w.heap.size) :
    Calls Try.prog 8 #[.pointer (some ⟨x, 0, none⟩), opV 8 on n by_ da dn dc ka kn kc tn ta] w fun e w' => e = .returned (.bool true) ∧ Pp w' B (Pg P w w') x (t + 1) ∧ Ch P w w' := by
  have HS : Hid (∀ o, Calls Try.prog 37 #[.pointer (some ⟨x, 0, none⟩), .int .i64 n] (w.alloc o) fun e u => e = .returned (.bool true) ∧ Hid (Pp u B (Pg P w u) x (t + 1) ∧ Ch P w u)) := by
    refine hidden fun o => ?_
    have hc : Ch P w (w.alloc o) := Ch.alloc P w o
    refine (pload (w.alloc o) B x t pa ra P F G M its d r vC vW (h.box o) n hn (fun k hq => Nat.lt_of_lt_of_le (hPl k hq) hc.size)).mono ?_
    rintro e u ⟨rfl, ⟨its', d', r', pa', ra', F', G', M', vC', vW', hp⟩, hc2⟩
    refine ⟨rfl, hidden ⟨⟨_, _, _, _, _, _, _, _, _, _, hp.weak (fun k hq => ?_) (Nat.le_succ _)⟩, hc.trans hc2 fun _ _ h => h⟩⟩
    rcases hq with e | e
    · exact .inl e
    · exact .inr ⟨Nat.le_trans hc.size e.1, e.2⟩
  clear h hPl
  unfold opV
  go_enter Try.func8, Try.ntmps8
  go_wp2_with (go_at_call 37; refine (HS.out _).mono ?_; rintro e u ⟨rfl, HQ⟩)
  go_wp2
  go_ret
  exact ⟨rfl, HQ.out⟩
end Go.Proofs.Ytikpfcapnpppdaa
