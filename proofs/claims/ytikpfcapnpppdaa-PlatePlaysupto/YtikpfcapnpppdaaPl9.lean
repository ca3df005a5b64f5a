/- fall: which of the loose writes are laid, and how much of each. -/
import Derived.Test.YtikpfcapnpppdaaPl8
namespace Go.Proofs.Ytikpfcapnpppdaa
open Go.RowKit

/-- The slice value reads as whole numbers. -/
structure Ks (w : World) (ao : Option Addr) (n : Nat) (l : List Int) : Prop where
  hlen : l.length = n
  hroom : n ≤ 140737488355328
  hat : n = 0 ∨ ∃ b off, ao = some ⟨b, off, none⟩ ∧ b < w.heap.size ∧ ∀ i, i < n → w.cell? ⟨b, off + i, none⟩ = some (.int .i64 (l.getD i 0))

/-- How much of each loose write is kept whole, behind the first numbers of the plan. -/
def kp (L page : Nat) (ks : List Int) : Nat → List Int
  | 0 => List.replicate L 0
  | j + 1 => if 0 ≤ ks.getD j 0 ∧ ks.getD j 0 < L then (kp L page ks j).set (ks.getD j 0).toNat page else kp L page ks j
set_option maxRecDepth 100000 in
theorem kp_succ (L page : Nat) (ks : List Int) (j : Nat) : kp L page ks (j + 1) = if 0 ≤ ks.getD j 0 ∧ ks.getD j 0 < L then (kp L page ks j).set (ks.getD j 0).toNat page else kp L page ks j := rfl
set_option maxRecDepth 100000 in
theorem kp_ok (L page : Nat) (ks : List Int) : ∀ j, (kp L page ks j).length = L ∧ ∀ k, 0 ≤ (kp L page ks j).getD k 0 ∧ (kp L page ks j).getD k 0 ≤ page
  | 0 => by
    refine ⟨by simp [kp], fun k => ?_⟩
    have : (kp L page ks 0).getD k 0 = 0 := by
      simp only [kp, List.getD, List.getElem?_replicate]
      split <;> rfl
    omega
  | j + 1 => by
    obtain ⟨h1, h2⟩ := kp_ok L page ks j
    unfold kp
    split
    · refine ⟨by simp [h1], fun k => ?_⟩
      have := h2 k
      simp only [List.getD, List.getElem?_set] at this ⊢
      split
      · split
        · simp
        · simp
      · exact this
    · exact ⟨h1, h2⟩
set_option maxRecDepth 100000 in
theorem set_ok {L page : Nat} {l : List Int} (h : l.length = L ∧ ∀ k, 0 ≤ l.getD k 0 ∧ l.getD k 0 ≤ page) (t : Nat) (x : Int) (hx : 0 ≤ x ∧ x ≤ page) : (l.set t x).length = L ∧ ∀ k, 0 ≤ (l.set t x).getD k 0 ∧ (l.set t x).getD k 0 ≤ page := by
  refine ⟨by simp [h.1], fun k => ?_⟩
  have := h.2 k
  simp only [List.getD, List.getElem?_set] at this ⊢
  split
  · split
    · simpa using hx
    · simp
  · exact this
/-- How much of each loose write is laid. -/
def stays (L page : Nat) (ks : List Int) (tn ta : Int) : List Int := if 0 ≤ tn ∧ tn < L then (kp L page ks ks.length).set tn.toNat (min (max ta 0) page) else kp L page ks ks.length
set_option maxRecDepth 100000 in
theorem stays_ok (L page : Nat) (ks : List Int) (tn ta : Int) : (stays L page ks tn ta).length = L ∧ ∀ k, 0 ≤ (stays L page ks tn ta).getD k 0 ∧ (stays L page ks tn ta).getD k 0 ≤ page := by
  unfold stays
  split
  · exact set_ok (kp_ok _ _ _ _) _ _ (by omega)
  · exact kp_ok _ _ _ _
def D.fallen (d : D) (ks : List Int) (tn ta : Int) : D := { d with safe := lay d.page d.loose (fun k => ((stays d.loose.length d.page ks tn ta).getD k 0).toNat) d.safe d.loose.length, loose := [], last := List.replicate d.pages 0, down := true, armed := false, left := 0, torn := 0, tat := 0, keep := [] }

set_option maxRecDepth 100000 in
theorem Dv.set8 {w : World} {F : Nat → Prop} {a : Nat} {d : D} (h : Dv w F a d) (x : Bool) : Dv (w.setCell ⟨a, 8, none⟩ (.bool x)) F a { d with down := x } := by
  obtain ⟨bs, bl, vL, vK, ha, hr⟩ := h
  exact ⟨bs, bl, vL, vK, heap_setCell_self ha, hr.self (lt_of_some ha) 8 _⟩

set_option maxRecDepth 100000 in
set_option maxHeartbeats 4000000 in
theorem fall_any (w : World) (F : Nat → Prop) (a : Nat) (d : D) (ao : Option Addr) (n c : Nat) (ks : List Int) (tn ta : Int) (h : Dv w F a d) (hk : Ks w ao n ks) (hF : ∀ k, F k → k < w.heap.size) :
    Calls Try.prog 48 #[.pointer (some ⟨a, 0, none⟩), .agg #[.slice ao n c, .int .i64 tn, .int .i64 ta]] w fun e w' => e = .returned (.tuple #[]) ∧ Dv w' F a (d.fallen ks tn ta) ∧ Ch F w w' := by
  obtain ⟨i0, hi, hz0, hz1, hz2⟩ := info_parts info5
  have hsz : (Try.prog.info? 5).map (·.size) = some 1 := by rw [hi]; simp [hz1]
  clear hi hz0 hz1 hz2 i0
  obtain ⟨i0, hi, hz0, hz1, hz2⟩ := info_parts infoI
  obtain ⟨bs, bl, vL, vK, hc, hf, hr, ha⟩ := h.c
  obtain ⟨aL, cL, eL, hLc⟩ := hr.lo.val
  obtain ⟨L, hL⟩ : ∃ L, d.loose.length = L := ⟨_, rfl⟩
  have c3 : w.cell? ⟨a, 3, none⟩ = some (.slice aL L cL) := by rw [← hL, ← eL]; exact hc 3
  have hfew : L ≤ 4398046511103 := by rw [← hL]; exact hr.few
  have hal := lt_of_some ha
  have hane : ¬ a = w.heap.size := by omega
  have HR := hidden hr
  have HA := hidden ha
  have HL := hidden hL
  have HC := hidden hc
  have HE := hidden eL
  have HFF := hidden hF
  have HK := hidden hk
  have H := hidden h
  clear hc hf hr ha hL eL hF hk h hLc
  go_enter Try.func48, Try.ntmps48
  go_wp2_with (at_make; refine wpList_make_full _ rfl _ _ 36 rfl 0 3 i0 (.int .i64 0) 1 Try.underlying36 hi hz0 hz1 .i64 .i64 L L L rfl rfl rfl rfl (by rw [hz2]; omega) (by unfold maxLen; omega) (Nat.zero_le _) ?_)
  intro w1 hown1 hg1
  obtain ⟨s, hs⟩ : ∃ s, w.heap.size + 1 = s := ⟨_, rfl⟩
  have hr1 : w1.heap[s]? = some (.cells (In (List.replicate L 0)).toArray 3 (0, 0)) := by rw [← hs]; simpa [In] using made_row hown1
  have hC1 : Ch (fun _ => False) w w1 := (Ch.alloc (fun _ => False) _ _).trans (Ch.grown hg1 (fun k hk => by cases hk)) fun _ _ h => h
  have x0 : w1.cell? ⟨w.heap.size, 0, none⟩ = some (.slice ao n c) := (World.cell?_of_block (a := ⟨w.heap.size, 0, none⟩) (hg1.block w.heap.size (by simp) (by simp))).trans (by simp)
  have x1 : w1.cell? ⟨w.heap.size, 1, none⟩ = some (.int .i64 tn) := (World.cell?_of_block (a := ⟨w.heap.size, 1, none⟩) (hg1.block w.heap.size (by simp) (by simp))).trans (by simp)
  have x2 : w1.cell? ⟨w.heap.size, 2, none⟩ = some (.int .i64 ta) := (World.cell?_of_block (a := ⟨w.heap.size, 2, none⟩) (hg1.block w.heap.size (by simp) (by simp))).trans (by simp)
  have hw1 : w.heap.size + 1 < w1.heap.size := by have := lt_of_some hr1; omega
  have HR1 := hidden hr1
  have HC1 := hidden hC1
  clear hown1 hg1 hr1 hC1 c3 hi hz0 hz1 hz2
  go_wp2_with fail
  go_loopw [18] (fun i wr => ∃ j : Nat, j ≤ n ∧ i = .int .i64 j ∧ Hid (Ch (fun b => b = s) w1 wr) ∧ Hid (wr.heap[s]? = some (.cells (In (kp L d.page ks j)).toArray 3 (0, 0)))) (fun i _ => n - (intOf i).toNat)
  case atStart => exact ⟨0, by omega, rfl, hidden (Ch.refl _ _), HR1⟩
  case round =>
    obtain ⟨j, hj, rfl, HB, HS⟩ := hrel
    have hB := HB.out
    have hn := HK.out.hroom
    have hane2 : a ≠ s := by omega
    have wne : w.heap.size ≠ s := by omega
    have a0 : wr.cell? ⟨a, 0, none⟩ = some (.int .i64 d.page) := (World.cell?_of_block (a := ⟨a, 0, none⟩) (hB.block a (by omega) hane2)).trans ((World.cell?_of_block (a := ⟨a, 0, none⟩) (HC1.out.block a hal (fun h => h))).trans (HC.out 0))
    by_cases hlt : j < n
    · have hlt' : (j : Int) < (n : Int) := by omega
      obtain ⟨gk, off, rfl, hgk, hcell⟩ : ∃ b off, ao = some ⟨b, off, none⟩ ∧ b < w.heap.size ∧ ∀ i, i < n → w.cell? ⟨b, off + i, none⟩ = some (.int .i64 (ks.getD i 0)) := by
        rcases HK.out.hat with h0 | h0
        · omega
        · exact h0
      obtain ⟨x, hx⟩ : ∃ x, ks.getD j 0 = x := ⟨_, rfl⟩
      have ck : wr.cell? ⟨gk, off + j, none⟩ = some (.int .i64 x) := by
        rw [World.cell?_of_block (a := ⟨gk, off + j, none⟩) (hB.block gk (by omega) (by omega)), World.cell?_of_block (a := ⟨gk, off + j, none⟩) (HC1.out.block gk hgk (fun h => h)), hcell j hlt, hx]
      have HX := hidden hx
      clear hcell hx hB
      by_cases h0 : 0 ≤ x
      · by_cases h1 : x < (L : Int)
        · obtain ⟨m, rfl⟩ : ∃ m : Nat, x = (m : Int) := ⟨x.toNat, by omega⟩
          have f := free_of_row (i := m) HS.out
          obtain ⟨y, cy⟩ : ∃ y, wr.cell? ⟨s, m, none⟩ = some y := ⟨_, (cell_of_row HS.out).trans (getD_In _ _ (by rw [(kp_ok _ _ _ _).1]; omega))⟩
          go_wp2
          go_roundw
          case rel =>
            refine ⟨j + 1, by omega, by go_num, hidden (HB.out.trans (Ch.setCell wr (F := fun b => b = s) rfl _) fun _ _ h => h), hidden ?_⟩
            rw [heap_setCell_self HS.out, In_set]
            rw [kp_succ, HX.out, if_pos ⟨h0, h1⟩, Int.toNat_natCast]
          case measure => simp [intOf]; omega
        · go_wp2
          go_roundw
          case rel =>
            refine ⟨j + 1, by omega, by go_num, HB, hidden ?_⟩
            rw [kp_succ, HX.out, if_neg (fun h => h1 h.2)]
            exact HS.out
          case measure => simp [intOf]; omega
      · go_wp2
        go_roundw
        case rel =>
          refine ⟨j + 1, by omega, by go_num, HB, hidden ?_⟩
          rw [kp_succ, HX.out, if_neg (fun h => h0 h.1)]
          exact HS.out
        case measure => simp [intOf]; omega
    · have hge : ¬ ((j : Int) < (n : Int)) := by omega
      obtain rfl : j = n := by omega
      have y0 : wr.cell? ⟨w.heap.size, 1, none⟩ = some (.int .i64 tn) := (World.cell?_of_block (a := ⟨w.heap.size, 1, none⟩) (hB.block w.heap.size (by omega) wne)).trans x1
      have y1 : wr.cell? ⟨w.heap.size, 2, none⟩ = some (.int .i64 ta) := (World.cell?_of_block (a := ⟨w.heap.size, 2, none⟩) (hB.block w.heap.size (by omega) wne)).trans x2
      have hp := HR.out.p1
      have a3 : wr.cell? ⟨a, 3, none⟩ = some (.slice aL L cL) := (World.cell?_of_block (a := ⟨a, 3, none⟩) (hB.block a (by omega) hane2)).trans ((World.cell?_of_block (a := ⟨a, 3, none⟩) (HC1.out.block a hal (fun h => h))).trans ((HC.out 3).trans (by rw [← HL.out, ← HE.out]; rfl)))
      have hkn := HK.out.hlen
      clear hB
      have hcs : (¬ 0 ≤ tn) ∨ (0 ≤ tn ∧ ¬ tn < (L : Int)) ∨ (0 ≤ tn ∧ tn < (L : Int)) := by omega
      rcases hcs with h0 | ⟨h0, h1⟩ | ⟨h0, h1⟩
      case' neg.inl =>
        have HT := HB
        have HST : Hid (wr.heap[s]? = some (.cells (In (stays L d.page ks tn ta)).toArray 3 (0, 0))) := hidden (by unfold stays; rw [if_neg (fun h => h0 h.1), hkn]; exact HS.out)
        clear hkn
        go_wp2_with fail
        generalize wr = wt at HT HST ⊢
      case' neg.inr.inl =>
        have HT := HB
        have HST : Hid (wr.heap[s]? = some (.cells (In (stays L d.page ks tn ta)).toArray 3 (0, 0))) := hidden (by unfold stays; rw [if_neg (fun h => h1 h.2), hkn]; exact HS.out)
        clear hkn
        go_wp2_with fail
        generalize wr = wt at HT HST ⊢
      case' neg.inr.inr =>
        obtain ⟨m, hm⟩ : ∃ m : Nat, tn = (m : Int) := ⟨tn.toNat, by omega⟩
        have f := free_of_row (i := m) HS.out
        obtain ⟨y, cy⟩ : ∃ y, wr.cell? ⟨s, m, none⟩ = some y := ⟨_, (cell_of_row HS.out).trans (getD_In _ _ (by rw [(kp_ok _ _ _ _).1]; omega))⟩
        rw [hm] at y0 h0 h1
        have HM := hidden hm
        have HKN := hidden hkn
        clear hm hkn
        have HT : Hid (Ch (fun b => b = s) w1 (wr.setCell ⟨s, m, none⟩ (.int .i64 (min (max ta 0) d.page))).drew) := hidden ((HB.out.trans (Ch.setCell wr (F := fun b => b = s) rfl _) fun _ _ h => h).trans (Ch.dr _ _) fun _ _ h => h)
        have HST : Hid ((wr.setCell ⟨s, m, none⟩ (.int .i64 (min (max ta 0) d.page))).drew.heap[s]? = some (.cells (In (stays L d.page ks tn ta)).toArray 3 (0, 0))) := hidden (by
          show (wr.setCell ⟨s, m, none⟩ (.int .i64 (min (max ta 0) d.page))).heap[s]? = _
          rw [heap_setCell_self HS.out, In_set]
          unfold stays
          rw [HM.out, if_pos ⟨h0, h1⟩, HKN.out, Int.toNat_natCast])
        have t3 : (wr.setCell ⟨s, m, none⟩ (.int .i64 (min (max ta 0) d.page))).drew.cell? ⟨a, 3, none⟩ = some (.slice aL L cL) := (World.cell?_of_block (a := ⟨a, 3, none⟩) (Below.heap_setCell _ _ _ _ hane2)).trans a3
        go_wp2_with fail
        go_region
        rw [show (if (d.page : Int) < if ta < 0 then 0 else ta then (d.page : Int) else if ta < 0 then 0 else ta) = min (max ta 0) d.page by split <;> split <;> omega]
        generalize (wr.setCell ⟨s, m, none⟩ (.int .i64 (min (max ta 0) d.page))).drew = wt at HT HST t3 ⊢
        go_wp2_with fail
      all_goals
        have HCw : Hid (Ch (fun _ => False) w wt) := hidden (HC1.out.trans HT.out fun i hi e => by omega)
        have hbw : bs < w.heap.size := lt_of_some HR.out.hs
        have hwt : s < wt.heap.size := lt_of_some HST.out
        obtain ⟨st, hst⟩ : ∃ st : Nat → Nat, st = fun k => ((stays L d.page ks tn ta).getD k 0).toNat := ⟨_, rfl⟩
        obtain ⟨SL, hSL⟩ : ∃ SL, stays L d.page ks tn ta = SL := ⟨_, rfl⟩
        have hok := stays_ok L d.page ks tn ta
        rw [hSL] at HST hst hok
        have HOK := hidden hok
        have HStt := hidden hst
        have HSL := hidden hSL
        clear HS HB HT HC1 HR1 hok hst hSL a0 y0 y1 x0 x1 x2 a3
        go_loopw [65] (fun i wr => ∃ k : Nat, k ≤ L ∧ i = .int .i64 k ∧ Hid (Ch (fun j => j = bs) wt wr) ∧ Hid (wr.heap[bs]? = some (.cells (By (lay d.page d.loose st d.safe k)).toArray 5 (0, 0)))) (fun i _ => L - (intOf i).toNat)
        case atStart => exact ⟨0, by omega, rfl, hidden (Ch.refl _ _), hidden ((HCw.out.block bs hbw (fun h => h)).trans HR.out.hs)⟩
        case round =>
          obtain ⟨k, hk, rfl, HB, HW⟩ := hrel
          have hr := HR.out
          have hB : Ch (fun j => j = bs) w wr := (HCw.out.mono fun _ _ h => h.elim).trans HB.out fun _ _ h => h
          by_cases hlt : k < L
          · have hlt' : (k : Int) < (L : Int) := by omega
            obtain ⟨g, c', q, e, h1', g0, g1, fg, fq, n1, n2, n3, n4, n5, n6, n7, n8, h4, h5, h6, h7⟩ := hr.lo.item (k := k) (by rw [HL.out]; exact hlt)
            rw [HE.out, HL.out] at e
            have haL : aL = some ⟨g, 0, none⟩ := by injection e
            subst haL
            have b0 := (World.cell?_of_block (a := ⟨g, k * 2, none⟩) (hB.block g n8 n5)).trans g0
            have b1 := (World.cell?_of_block (a := ⟨g, k * 2 + 1, none⟩) (hB.block g n8 n5)).trans g1
            have hal' : a < wr.heap.size := Nat.lt_of_lt_of_le hal hB.size
            have hq4 := (hB.block q (lt_of_some h4) n2).trans h4
            have hql : q < wr.heap.size := lt_of_some hq4
            have hbsl : bs < wr.heap.size := lt_of_some HW.out
            have hsl : s < wr.heap.size := Nat.lt_of_lt_of_le hwt HB.out.size
            have hss := (HB.out.block s hwt (by omega)).trans HST.out
            have a0 : wr.cell? ⟨a, 0, none⟩ = some (.int .i64 d.page) := (World.cell?_of_block (a := ⟨a, 0, none⟩) (hB.block a hal (Ne.symm hr.n1))).trans (HC.out 0)
            have a2 : wr.cell? ⟨a, 2, none⟩ = some (.slice (some ⟨bs, 0, none⟩) (d.page * d.pages) (d.page * d.pages)) := (World.cell?_of_block (a := ⟨a, 2, none⟩) (hB.block a hal (Ne.symm hr.n1))).trans (HC.out 2)
            obtain ⟨p, hP⟩ : ∃ p, (d.loose.getD k (0, [])).1 = p := ⟨_, rfl⟩
            obtain ⟨l, hLl⟩ : ∃ l, (d.loose.getD k (0, [])).2 = l := ⟨_, rfl⟩
            rw [hP] at b0 h5
            rw [hLl] at hq4 h6 h7
            obtain ⟨sk, hsk⟩ : ∃ sk : Nat, SL.getD k 0 = (sk : Int) := ⟨(SL.getD k 0).toNat, by have := HOK.out.2 k; omega⟩
            have hskp : sk ≤ d.page := by have := HOK.out.2 k; omega
            have hskst : st k = sk := by rw [HStt.out]; show (SL.getD k 0).toNat = sk; omega
            have hx : p * d.page + d.page ≤ d.page * d.pages := by
              rw [Nat.mul_comm d.page d.pages, ← Nat.succ_mul]; exact Nat.mul_le_mul_right _ h5
            obtain ⟨lk1, lk2⟩ := lay_ok hr st k (by rw [HL.out]; omega)
            have hp1 := hr.p1
            have hp2 := hr.p2
            have hq2 := hr.q2
            have hq3 := hr.q3
            have HP := hidden hP
            have HLl := hidden hLl
            have HX := hidden hx
            have HSK := hidden hskst
            obtain ⟨x, hxw⟩ : ∃ x, wr.alloc (Obj.cells #[Value.int IntKind.i64 (p : Int), Value.slice (some ⟨q, 0, none⟩) d.page d.page] 71 (0, 0)) = x := ⟨_, rfl⟩
            have x0 : x.cell? ⟨wr.heap.size, 0, none⟩ = some (.int .i64 (p : Int)) := by rw [← hxw]; simp
            have x1 : x.cell? ⟨wr.heap.size, 1, none⟩ = some (.slice (some ⟨q, 0, none⟩) d.page d.page) := by rw [← hxw]; simp
            have xb : ∀ k, k < wr.heap.size → x.heap[k]? = wr.heap[k]? := fun k hk => by rw [← hxw]; exact Below.heap_alloc _ _ _ hk
            have xa0 := (World.cell?_of_block (a := ⟨a, 0, none⟩) (xb a hal')).trans a0
            have xa2 := (World.cell?_of_block (a := ⟨a, 2, none⟩) (xb a hal')).trans a2
            have xs : x.cell? ⟨s, k, none⟩ = some (.int .i64 (sk : Int)) := (World.cell?_of_block (a := ⟨s, k, none⟩) (xb s hsl)).trans ((cell_of_row hss).trans ((getD_In _ _ (by rw [HOK.out.1]; exact hlt)).trans (by rw [hsk])))
            have HXS := hidden ((xb bs hbsl).trans HW.out)
            have HXQ := hidden ((xb q hql).trans hq4)
            have HXC : Hid (Ch (fun j => j = bs) wt x) := hidden (by rw [← hxw]; exact HB.out.trans (Ch.alloc (fun j => j = bs) _ _) fun _ _ h => h)
            have HG := hidden (fun v (hv0 : v.cell? ⟨a, 0, none⟩ = x.cell? ⟨a, 0, none⟩) (hv2 : v.cell? ⟨a, 2, none⟩ = x.cell? ⟨a, 2, none⟩) => ground_any v a bs d.page (d.page * d.pages) p (p * d.page) (hv0.trans xa0) (hv2.trans xa2) rfl hx (by omega) hq3 (by omega))
            have HSRC : Hid (∀ r, ∀ j v, (By (l.take sk))[j]? = some v → (x.drew.drewN r).cell? ((⟨q, 0, none⟩ : Addr).add j) = some v) := by
              refine hidden fun r j v hv => ?_
              obtain ⟨j1, rfl⟩ := getElem?_By _ j v hv
              rw [List.length_take] at j1
              rw [Addr.add_lit, Nat.zero_add]
              show x.cell? ⟨q, j, none⟩ = _
              rw [cell_of_row HXQ.out, getD_By _ _ (by omega)]
              congr 2
              simp [List.getD, show j < sk by omega]
            have hlt2 : (l.take sk).length = sk := by rw [List.length_take]; omega
            have HLEN := hidden h6
            have HMIN : Hid ((By (l.take sk)).length = Nat.min sk d.page) := hidden (by rw [By_length, hlt2]; exact (Nat.min_eq_left hskp).symm)
            have HFIT : Hid (p * d.page + (By (l.take sk)).length ≤ (By (lay d.page d.loose st d.safe k)).length) := hidden (by rw [By_length, By_length, lk1, hlt2]; omega)
            have hski : (sk : Int) ≤ (d.page : Int) := by omega
            clear xa0 xa2 a0 a2 hx lk1 lk2 hq4 h4 h6 h7 hB g0 g1 hr hP hLl hp1 hq2 hq3 xb e n1 n2 n3 n4 n5 n6 n7 n8 fg fq HC HXQ h5 HW HB hss hskst hsk hlt2
            go_wp2_with fail
            try rw [hxw]
            go_region_law (first | (go_simp; go_at_call 46; refine (HG.out x.drew rfl rfl).mono ?_; rintro e w2 ⟨rfl, r, rfl⟩) | (refine step_copy_row rfl _ _ 35 35 rfl 5 Try.underlying35 hsz bs (p * d.page) d.page (d.page * d.pages - p * d.page) ⟨q, 0, none⟩ sk d.page rfl rfl (By (lay d.page d.loose st d.safe k)) 5 HXS.out (By (l.take sk)) HMIN.out (HSRC.out r) HFIT.out (By_one _) ?_; intro u3 HU))
            all_goals
              have HC3 : Hid (Ch (fun j => j = bs) wt u3) := hidden (by rw [HU.out]; exact (HXC.out.trans (Ch.drew (fun j => j = bs) _ (1 + r)) fun _ _ h => h).trans (Ch.setRow (F := fun j => j = bs) _ rfl _) fun _ _ h => h)
              have HW3 : Hid (u3.heap[bs]? = some (.cells (By (lay d.page d.loose st d.safe (k + 1))).toArray 5 (0, 0))) := hidden (by
                rw [HU.out, setRow_heap _ _ _ _ _ _ (show (x.drewN (1 + r)).heap[bs]? = _ from HXS.out), By_splice]
                show _ = some (Obj.cells (By (splice (lay d.page d.loose st d.safe k) ((d.loose.getD k (0, [])).1 * d.page) ((d.loose.getD k (0, [])).2.take (st k)))).toArray _ _)
                rw [HP.out, HLl.out, HSK.out])
              clear HU HXS HXC HSRC HMIN HFIT HG hxw x0 x1 b0 b1 xs
              go_wp2
              go_roundw
              case rel => exact ⟨k + 1, by omega, by go_num, HC3, HW3⟩
              case measure => simp [intOf]; omega
          · have hge : ¬ ((k : Int) < (L : Int)) := by omega
            obtain rfl : k = L := by omega
            obtain ⟨lk1, lk2⟩ := lay_ok hr st k (by rw [HL.out]; omega)
            have hD : Dv wr F a { d with safe := lay d.page d.loose st d.safe k } := ⟨bs, bl, vL, vK, (hB.block a hal (Ne.symm hr.n1)).trans HA.out, hr.resafe hB HW.out lk1 lk2⟩
            have HCC : Hid (Ch F w wr) := hidden (hB.mono fun j _ e => e ▸ hr.fs)
            have hfor := forget_any wr F a _ hD
            clear hr hB lk1 lk2 hD HB HW HC HA
            go_wp2_with (go_at_call 47; refine hfor.mono ?_; rintro e w2 ⟨rfl, hD2, hC2⟩; replace hD2 := hidden hD2; replace hC2 := hidden hC2; refine Hid.out ?_)
            apply hidden
            clear hfor
            have hdis := disarm_any w2 F a _ hD2.out
            go_wp2_with (go_at_call 60; refine hdis.mono ?_; rintro e w3 ⟨rfl, hD3, hC3, hz3⟩; replace hD3 := hidden hD3; replace hC3 := hidden hC3; refine Hid.out ?_)
            apply hidden
            clear hdis hD2 hz3
            obtain ⟨bs', bl', vL', vK', hc', hf', hr', ha'⟩ := hD3.out.c
            have f8 := hf' 8
            obtain ⟨y8, c8⟩ : ∃ y, w3.cell? ⟨a, 8, none⟩ = some y := ⟨_, hc' 8⟩
            clear hc' hf' hr' ha'
            go_wp2
            go_end0
            refine ⟨rfl, ?_, ((HCC.out.trans hC2.out fun _ _ h => h).trans hC3.out fun _ _ h => h).trans (Ch.setCell (F := F) w3 hD3.out.fa _) fun _ _ h => h⟩
            have := hD3.out.set8 true
            rw [HStt.out, ← HSL.out, ← HL.out] at this
            exact this
end Go.Proofs.Ytikpfcapnpppdaa
