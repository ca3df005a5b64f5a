/- The document's device: Image. -/
import Derived.Test.YtikpfcapnpppdaaRo
namespace Go.Proofs.Ytikpfcapnpppdaa
open Go.RowKit

/-- The pages as they are read, behind the first k loose writes. -/
def imR (page : Nat) (base : List Int) (wild : List (Nat × List Int)) : Nat → List Int
  | 0 => base
  | k + 1 => splice (imR page base wild k) ((wild.getD k (0, [])).1 * page) (wild.getD k (0, [])).2
set_option maxRecDepth 100000 in
theorem take_splice {α : Type} (cur cs : List α) (off N : Nat) (h : off + cs.length ≤ N) (hN : N ≤ cur.length) : (splice cur off cs).take N = splice (cur.take N) off cs := by
  apply List.ext_getElem?
  intro i
  rw [List.getElem?_take, splice_get _ _ _ _ (by omega), splice_get _ _ _ _ (by rw [List.length_take]; omega)]
  by_cases hi : i < N
  · simp only [if_pos hi, List.getElem?_take]
  · rw [if_neg hi]
    rw [if_neg (by omega), if_neg (by omega), List.getElem?_take, if_neg hi]
set_option maxRecDepth 100000 in
theorem RRest.im {w : World} {F : Nat → Prop} {a page : Nat} {L : List (List Int)} {wild : List (Nat × List Int)} {keep : List Int} {vL vW vK : Value} {qs : List Nat} (h : RRest w F a page L wild keep vL vW vK qs) {base : List Int} (hb : base.length = L.length * page) (hw : Wf base) : ∀ k, k ≤ wild.length → (imR page base wild k).length = L.length * page ∧ Wf (imR page base wild k)
  | 0, _ => ⟨hb, hw⟩
  | k + 1, hk => by
    obtain ⟨h1, h2⟩ := h.im hb hw k (by omega)
    obtain ⟨_, _, _, _, _, _, _, _, _, _, _, _, _, _, _, _, _, _, hp, h3, h4, _⟩ := h.item (k := k) (by omega)
    have hx := mul_far (p := page) hp
    refine ⟨?_, h2.splice h4 _⟩
    show (Go.splice _ _ _).length = _
    rw [length_splice _ _ _ (by rw [h1, h3]; exact hx), h1]

set_option maxRecDepth 100000 in
set_option maxHeartbeats 2000000 in
theorem rImage_any (w : World) (F : Nat → Prop) (a : Nat) (r : R) (h : Rv w F a r) : Calls Try.prog 35 #[.pointer (some ⟨a, 0, none⟩)] w fun e w' => ∃ ao c, e = .returned (.slice ao (r.L.length * r.page) c) ∧ Sl w' ao (r.L.length * r.page) c (imR r.page (flatR r.L r.L.length) r.wild r.wild.length) ∧ Below w.heap.size w w' := by
  obtain ⟨i0, hi, hz0, hz1, hz2⟩ := info_parts info5
  have hsz : (Try.prog.info? 5).map (·.size) = some 1 := by rw [hi]; simp [hz1]
  clear hi hz0 hz1 hz2
  obtain ⟨vL, vW, vK, qs, hc, hf, hr, ha⟩ := h.c
  obtain ⟨aL, cL, eL, _⟩ := own_val hr.oL
  obtain ⟨xs, hx1, _⟩ := hr.hx
  obtain ⟨aW, cW, eW, _⟩ := own_val hx1
  obtain ⟨n, hn⟩ : ∃ n, r.L.length = n := ⟨_, rfl⟩
  obtain ⟨m, hm⟩ : ∃ m, r.wild.length = m := ⟨_, rfl⟩
  have c1 : w.cell? ⟨a, 1, none⟩ = some (.slice aL n cL) := by rw [← hn, ← eL]; exact hc 1
  have c2 : w.cell? ⟨a, 2, none⟩ = some (.slice aW m cW) := by rw [← hm, ← eW]; exact hc 2
  have c0 : w.cell? ⟨a, 0, none⟩ = some (.int .i64 r.page) := hc 0
  have hal := lt_of_some ha
  have HR := hidden hr
  have HN := hidden hn
  have HM := hidden hm
  have HEL := hidden eL
  have HEW := hidden eW
  have HFL := hidden hr.flat
  have hq1 : 4 ≤ n := by rw [← hn]; exact hr.q1
  have hq2 : n ≤ 65536 := by rw [← hn]; exact hr.q2
  have hp1 := hr.p1
  have hp2 := hr.p2
  have hq3 : r.page * n ≤ 67108864 := by rw [← hn]; exact hr.q3
  have hfew : m ≤ 4398046511103 := by rw [← hm]; exact hr.few
  clear hc hf hr ha h eL eW hx1 hn hm
  go_enter Try.func35, Try.ntmps35
  go_wp2_with fail
  go_loopw [3, 4] (fun v i wr => ∃ k : Nat, k ≤ n ∧ i = .int .i64 k ∧ Hid (OwnB wr w.heap.size v (flatR r.L k)) ∧ Hid (Below w.heap.size w wr)) (fun _ i _ => n - (intOf i).toNat)
  case atStart => exact ⟨0, by omega, rfl, hidden (OwnB.nil _ _), hidden (Below.refl _ _)⟩
  case round =>
    obtain ⟨k, hk, rfl, OK, BK⟩ := hrel
    have x1 : wr.cell? ⟨a, 1, none⟩ = some (.slice aL n cL) := (BK.out.cell (p := ⟨a, 1, none⟩) hal).trans c1
    by_cases hlt : k < n
    · have hlt' : (k : Int) < (n : Int) := by omega
      obtain ⟨g, c, q, e1, _, cg, _, _, _, hgl, _, _, _, _, hrow, hlen, hwf, _⟩ := HR.out.rowi (n := k) (by rw [HN.out]; exact hlt)
      rw [HEL.out, HN.out] at e1
      have hao : aL = some ⟨g, 0, none⟩ := by injection e1
      subst hao
      have y1 := (BK.out.cell (p := ⟨g, k, none⟩) hgl).trans cg
      obtain ⟨rk, hrk⟩ : ∃ l, r.L.getD k [] = l := ⟨_, rfl⟩
      rw [hrk] at hrow hlen
      have HFS : Hid (flatR r.L (k + 1) = flatR r.L k ++ rk) := hidden (by rw [← hrk]; rfl)
      have HQC : Hid (∀ j, j < r.page → wr.cell? ((⟨q, 0, none⟩ : Addr).add j) = some (.int .u8 (rk.getD j 0))) := hidden fun j hj => by
        rw [Addr.add_lit, Nat.zero_add]
        exact (BK.out.cell (p := ⟨q, j, none⟩) (lt_of_some hrow)).trans ((cell_of_row hrow).trans (getD_By _ _ (by omega)))
      have HL := hidden hlen
      have hfl : (flatR r.L k).length + r.page ≤ 140737488355328 := by
        rw [(HFL.out k (by rw [HN.out]; omega)).1]
        have : k * r.page ≤ 65536 * 65536 := Nat.mul_le_mul (by omega) hp2
        omega
      have HFLB := hidden hfl
      have hbs : w.heap.size ≤ wr.heap.size := BK.out.size
      clear cg hrow hlen hwf e1 hfl hrk
      go_wp2_with (refine app_bytes _ rfl _ _ rfl w.heap.size (flatR r.L k) _ rfl OK.out ⟨q, 0, none⟩ r.page r.page rk rfl HL.out HQC.out HFLB.out hbs ?_)
      intro v2 w2 o2 b2
      have O2 : Hid (OwnB w2 w.heap.size v2 (flatR r.L (k + 1))) := hidden (by rw [HFS.out]; exact o2)
      have B2 := hidden (BK.out.trans b2)
      clear o2 b2 HQC OK
      go_wp2
      go_roundw
      case rel => exact ⟨k + 1, by omega, by go_num, O2, B2⟩
      case measure => simp [intOf]; omega
    · have hge : ¬ ((k : Int) < (n : Int)) := by omega
      obtain rfl : k = n := by omega
      obtain ⟨wo, hwo⟩ : ∃ wo, wo = wr := ⟨_, rfl⟩
      subst hwo
      obtain ⟨l1, l2⟩ := HFL.out k (by rw [HN.out]; exact Nat.le_refl _)
      obtain ⟨N, hN⟩ : ∃ N, k * r.page = N := ⟨_, rfl⟩
      have hN1 : 0 < N := by rw [← hN]; exact Nat.mul_pos (by omega) (by omega)
      have hN2 : N ≤ 67108864 := by rw [← hN, Nat.mul_comm]; exact hq3
      rw [hN] at l1
      have hown : wo.ownsRow w.heap.size 5 1 u3 N (By (flatR r.L k)) := by
        have := OK.out
        unfold OwnB at this
        rw [l1] at this
        exact this
      obtain ⟨go, cap, cur, hu, g1, g2, g3, g4, g5, g6⟩ : ∃ go cap cur, u3 = .slice (some ⟨go, 0, none⟩) N cap ∧ w.heap.size ≤ go ∧ wo.heap[go]? = some (.cells cur 5 (0, 0)) ∧ N ≤ cap ∧ cap ≤ maxLen ∧ cur.size = cap * 1 ∧ cur.toList.take (N * 1) = By (flatR r.L k) := by
        rcases hown.2 with ⟨_, h0⟩ | ⟨go, cap, cur, h1, h2, h3, h4, h5, h6, h7⟩
        · omega
        · exact ⟨go, cap, cur, h1, h2, h3, h4, h5, h6, h7⟩
      subst hu
      have HIM := hidden (fun j hj => HR.out.im (base := flatR r.L k) (by rw [l1, HN.out, hN]) l2 j hj)
      have HC0 : Hid (∃ cur : List Value, wo.heap[go]? = some (.cells cur.toArray 5 (0, 0)) ∧ cur.length = cap ∧ cur.take N = By (imR r.page (flatR r.L k) r.wild 0)) := hidden ⟨cur.toList, by simpa using g2, by simpa using g5, by simpa [imR] using g6⟩
      have HNN := hidden hN
      have HOG := hidden g1
      have HCM := hidden g4
      have HG2 := hidden (lt_of_some g2)
      clear g1 g2 g4 g5 g6 hown OK l1 l2 hN cur
      go_wp2_with fail
      go_loopw [5] (fun i wx => ∃ j : Nat, j ≤ m ∧ i = .int .i64 j ∧ Hid (Ch (fun b => b = go) wo wx) ∧ Hid (∃ cur : List Value, wx.heap[go]? = some (.cells cur.toArray 5 (0, 0)) ∧ cur.length = cap ∧ cur.take N = By (imR r.page (flatR r.L k) r.wild j))) (fun i _ => m - (intOf i).toNat)
      case atStart => exact ⟨0, by omega, rfl, hidden (Ch.refl _ _), HC0⟩
      case round =>
        obtain ⟨j, hj, rfl, HCx, HCu⟩ := hrel
        have hgow : w.heap.size ≤ go := HOG.out
        have hkp : ∀ b o, b < w.heap.size → wr.cell? ⟨b, o, none⟩ = w.cell? ⟨b, o, none⟩ := fun b o hb => by
          rw [World.cell?_of_block (w := wo) (a := ⟨b, o, none⟩) (HCx.out.block b (Nat.lt_of_lt_of_le hb BK.out.size) (fun e : b = go => by omega))]
          exact BK.out.cell (p := ⟨b, o, none⟩) hb
        have x2 : wr.cell? ⟨a, 2, none⟩ = some (.slice aW m cW) := (hkp a 2 hal).trans c2
        by_cases hlt : j < m
        · have hlt' : (j : Int) < (m : Int) := by omega
          obtain ⟨g, c, q', cq, e1, _, g0, g1, hcq, _, hga, hgl', _, _, hqn, hqg', hql, hdat, hpn, hdl, hdw, _⟩ := HR.out.item (k := j) (by rw [HM.out]; exact hlt)
          rw [HN.out] at hpn
          rw [HEW.out, HM.out] at e1
          have hao : aW = some ⟨g, 0, none⟩ := by injection e1
          subst hao
          obtain ⟨p, hP⟩ : ∃ p, (r.wild.getD j (0, [])).1 = p := ⟨_, rfl⟩
          obtain ⟨l, hLl⟩ : ∃ l, (r.wild.getD j (0, [])).2 = l := ⟨_, rfl⟩
          rw [hP] at g0 hpn
          rw [hLl] at hdat hdl hdw
          have x0 : wr.cell? ⟨a, 0, none⟩ = some (.int .i64 r.page) := (hkp a 0 hal).trans c0
          have y0 := (hkp g (j * 2) hgl').trans g0
          have y1 := (hkp g (j * 2 + 1) hgl').trans g1
          obtain ⟨z, hz⟩ : ∃ z, p * r.page = z := ⟨_, rfl⟩
          have hzi : (p : Int) * (r.page : Int) = (z : Int) := by rw [← hz]; simp
          have hzN : z + r.page ≤ N := by rw [← hz, ← HNN.out]; exact mul_far hpn
          have hzw : IntKind.i64.wrap (z : Int) = (z : Int) := by rw [IntKind.wrap_i64]; omega
          have hzb : (z : Int) ≤ (N : Int) := by omega
          have hzc : (z : Int) ≤ (cap : Int) := by omega
          have hzc' : ¬ (cap = z) := by omega
          obtain ⟨cur, u1, u2, u3⟩ := HCu.out
          have HSRC : Hid (∀ i v, (By l)[i]? = some v → wr.drew.cell? ((⟨q', 0, none⟩ : Addr).add i) = some v) := hidden fun i v hv => by
            obtain ⟨h1, rfl⟩ := getElem?_By l i v hv
            rw [Addr.add_lit, Nat.zero_add]
            exact (hkp q' i hql).trans (hdat i (by omega))
          have HROW := hidden u1
          have HMN : Hid ((By l).length = Nat.min r.page (N - z)) := hidden (by rw [By_length, hdl]; exact (Nat.min_eq_left (by omega)).symm)
          have HFT : Hid (z + (By l).length ≤ cur.length) := hidden (by rw [By_length, hdl, u2]; omega)
          have HNXT : Hid (∀ u, u = wr.drew.setRow go (splice cur z (By l)).toArray → Hid (Ch (fun b => b = go) wo u) ∧ Hid (∃ cur : List Value, u.heap[go]? = some (.cells cur.toArray 5 (0, 0)) ∧ cur.length = cap ∧ cur.take N = By (imR r.page (flatR r.L k) r.wild (j + 1))) ∧ u.cell? ⟨a, 0, none⟩ = some (.int .i64 r.page) ∧ u.cell? ⟨a, 2, none⟩ = some (.slice (some ⟨g, 0, none⟩) m cW) ∧ u.cell? ⟨g, j * 2, none⟩ = some (.int .i64 (p : Int)) ∧ u.cell? ⟨g, j * 2 + 1, none⟩ = some (.slice (some ⟨q', 0, none⟩) r.page cq)) := hidden fun u hu => by
            have hcu : Ch (fun b => b = go) wr u := by rw [hu]; exact (Ch.dr _ wr).trans (Ch.setRow (F := fun b => b = go) _ rfl _) fun _ _ h => h
            have hk : ∀ b o, b < w.heap.size → u.cell? ⟨b, o, none⟩ = wr.cell? ⟨b, o, none⟩ := fun b o hb => World.cell?_of_block (w := wr) (a := ⟨b, o, none⟩) (hcu.block b (by have := BK.out.size; have := HCx.out.size; omega) (fun e : b = go => by omega))
            refine ⟨hidden (HCx.out.trans hcu fun _ _ h => h), hidden ⟨splice cur z (By l), by rw [hu]; exact setRow_heap _ _ _ _ _ _ u1, ?_, ?_⟩, (hk a 0 hal).trans x0, (hk a 2 hal).trans x2, (hk g _ hgl').trans y0, (hk g _ hgl').trans y1⟩
            · rw [length_splice _ _ _ (by rw [By_length, hdl, u2]; omega), u2]
            · rw [take_splice _ _ _ _ (by rw [By_length, hdl]; omega) (by omega), u3, By_splice]
              show _ = By (splice (imR r.page (flatR r.L k) r.wild j) ((r.wild.getD j (0, [])).1 * r.page) (r.wild.getD j (0, [])).2)
              rw [hP, hLl, hz]
          clear hdat hdl hdw hP hLl hql hqn e1 hz g0 g1 u1 u2 u3 hkp hpn
          go_wp2_with fail
          go_region_held3 (fun u => u.cell? ⟨a, 0, none⟩ = some (.int .i64 r.page) ∧ u.cell? ⟨a, 2, none⟩ = some (.slice (some ⟨g, 0, none⟩) m cW) ∧ u.cell? ⟨g, j * 2, none⟩ = some (.int .i64 (p : Int)) ∧ u.cell? ⟨g, j * 2 + 1, none⟩ = some (.slice (some ⟨q', 0, none⟩) r.page cq)) (go_keep)
            (first | (refine step_copy_row rfl _ _ 35 35 rfl 5 Try.underlying35 hsz go z (N - z) (cap - z) ⟨q', 0, none⟩ r.page cq rfl rfl cur 5 HROW.out (By l) HMN.out HSRC.out HFT.out (By_one _) ?_; intro u9 HU; obtain ⟨n1, n2, n3, n4, n5, n6⟩ := HNXT.out u9 HU.out; clear HU))
          all_goals
            clear n3 n4 n5 n6 HNXT HSRC HROW HMN HFT x0 x2 y0 y1 hzi hzw
            go_wp2
            go_roundw
            case rel => exact ⟨j + 1, by omega, by go_num, n1, n2⟩
            case measure => simp [intOf]; omega
        · have hge2 : ¬ ((j : Int) < (m : Int)) := by omega
          obtain rfl : j = m := by omega
          obtain ⟨cur, u1, u2, u3⟩ := HCu.out
          obtain ⟨i1, i2⟩ := HIM.out j (by rw [HM.out]; exact Nat.le_refl _)
          rw [HN.out, HNN.out] at i1
          have HSL : Hid (Sl wr (some ⟨go, 0, none⟩) N cap (imR r.page (flatR r.L k) r.wild j)) := hidden ⟨i1, g3, by omega, i2, (by intro h; cases h), .inr ⟨go, 0, rfl, lt_of_some u1, fun i hi => by
            rw [Nat.zero_add, cell_of_row u1]
            have e : (cur.take N)[i]? = cur[i]? := by rw [List.getElem?_take, if_pos hi]
            rw [← e, u3]
            exact getD_By _ _ (by omega)⟩⟩
          have HBF : Hid (Below w.heap.size w wr) := hidden (BK.out.trans (HCx.out.below BK.out.size fun b hb e => by omega))
          clear u1 u2 u3 i1 i2 hkp
          go_wp2
          go_ret
          exact ⟨some ⟨go, 0, none⟩, cap, by first | rfl | (rw [HN.out, HNN.out]; rfl), by rw [HN.out, HM.out, HNN.out]; exact HSL.out, HBF.out⟩
end Go.Proofs.Ytikpfcapnpppdaa
