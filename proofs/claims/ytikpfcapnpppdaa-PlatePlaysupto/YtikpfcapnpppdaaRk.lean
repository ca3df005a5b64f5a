/- The document's device: the walk of fall. -/
import Derived.Test.YtikpfcapnpppdaaRj
import Derived.Test.YtikpfcapnpppdaaPlAw
import Derived.Deep.DeepCutAuto
namespace Go.Proofs.Ytikpfcapnpppdaa
open Go.RowKit

set_option maxRecDepth 100000 in
theorem stR_le (page : Nat) (ks : List Int) (tn ta : Int) (i : Nat) : stR page ks tn ta i ≤ page := by unfold stR; omega
set_option maxRecDepth 100000 in
theorem ov_len (d l : List Int) (k n : Nat) (hd : d.length = n) (hl : l.length = n) (hk : k ≤ n) : (d.take k ++ l.drop k).length = n := by simp [hd, hl]; omega
set_option maxRecDepth 100000 in
theorem ov_step (d l : List Int) (k n : Nat) (hd : d.length = n) (hl : l.length = n) (hk : k < n) : (d.take k ++ l.drop k).set k (d.getD k 0) = d.take (k + 1) ++ l.drop (k + 1) := by
  rw [List.set_append_right _ _ (by rw [List.length_take]; omega), List.length_take, show k - min k d.length = 0 by omega, List.drop_eq_getElem_cons (by omega), List.set_cons_zero, List.take_succ_eq_append_getElem (by omega), List.append_assoc]
  simp [List.getD, List.getElem?_eq_getElem (show k < d.length by omega)]

set_option maxRecDepth 100000 in
set_option maxHeartbeats 4000000 in
theorem rfall_at (w : World) (F : Nat → Prop) (a : Nat) (r : R) (vL vW vK : Value) (qs : List Nat) (ha : w.heap[a]? = some (.cells (rcells r vL vW vK).toArray 59 (0, 0))) (hr : RRest w F a r.page r.L r.wild r.keep vL vW vK qs) (hF : ∀ k, F k → k < w.heap.size) (ao : Option Addr) (kn kc : Nat) (ks : List Int) (tn ta : Int) (hk : Ks w ao kn ks) (hkq : kn = 0 ∨ ∀ g, ao = some g → g.block ∉ qs) :
    Calls Try.prog 53 #[.pointer (some ⟨a, 0, none⟩), .agg #[.slice ao kn kc, .int .i64 tn, .int .i64 ta]] w fun e w' => e = .returned (.tuple #[]) ∧ Rv w' F a (r.fallen ks tn ta) ∧ Ch F w w' := by
  obtain ⟨m, hm⟩ : ∃ m, r.wild.length = m := ⟨_, rfl⟩
  obtain ⟨xs, hx, _⟩ := hr.hx
  obtain ⟨aW, cW, eW, _⟩ := own_val hx
  have hal := lt_of_some ha
  have hqa : ∀ q ∈ qs, q ≠ a ∧ F q ∧ vW.ownBlock ≠ some q ∧ vL.ownBlock ≠ some q ∧ q < w.heap.size := fun q hq => by
    obtain ⟨i, hi⟩ := List.getElem?_of_mem hq
    obtain ⟨b1, b2, b3, b4, b5, _⟩ := hr.hq i q hi
    exact ⟨b2, b1, b4, b3, lt_of_some b5⟩
  have hfew : m ≤ 4398046511103 := by rw [← hm]; exact hr.few
  have hkn := hk.hroom
  have hp1 := hr.p1
  have hp2 := hr.p2
  have HR := hidden hr
  have HA := hidden ha
  have HM := hidden hm
  have HEW := hidden eW
  have HQA := hidden hqa
  have HF := hidden hF
  have HK := hidden hk
  have HKQ := hidden hkq
  clear hr ha hx hm eW hqa hF hk hkq
  go_enter Try.func53, Try.ntmps53
  go_wp2_with fail
  obtain ⟨wb, hwb⟩ : ∃ wb, w.alloc (.cells #[.slice ao kn kc, .int .i64 tn, .int .i64 ta] 38 (0, 0)) = wb := ⟨_, rfl⟩
  have HBx : Hid (wb.heap[w.heap.size]? = some (.cells #[.slice ao kn kc, .int .i64 tn, .int .i64 ta] 38 (0, 0))) := hidden (by rw [← hwb]; exact alloc_row _ _)
  have HBb : Hid (Below w.heap.size w wb) := hidden (by rw [← hwb]; exact (Below.refl _ _).alloc (Nat.le_refl _) _)
  have hszb : wb.heap.size = w.heap.size + 1 := by rw [← hwb]; simp
  try rw [hwb]
  clear hwb
  go_loopw [4] (fun t wr => ∃ i : Nat, i ≤ m ∧ t = .int .i64 i ∧ Hid (Ch (fun j => j ∈ qs) wb wr) ∧ Hid (RRest wr F a r.page (layR r.wild (stR r.page ks tn ta) r.L i) r.wild r.keep vL vW vK qs)) (fun t _ => m - (intOf t).toNat)
  case atStart => exact ⟨0, by omega, rfl, hidden (Ch.refl _ _), hidden (HR.out.keep_ (fun _ f _ => f) hal HBb.out.size fun k _ _ hk => HBb.out.block k hk)⟩
  case round =>
    obtain ⟨i, hi, rfl, HC, HRi⟩ := hrel
    obtain ⟨wo, hwo⟩ : ∃ wo, wo = wr := ⟨_, rfl⟩
    subst hwo
    have hna : a ∉ qs := fun e => (HQA.out a e).1 rfl
    have hwa : ∀ o, wo.cell? ⟨a, o, none⟩ = (rcells r vL vW vK)[o]? := fun o => by
      rw [World.cell?_of_block (w := wb) (a := ⟨a, o, none⟩) (HC.out.block a (by omega) hna), World.cell?_of_block (w := w) (a := ⟨a, o, none⟩) (HBb.out.block a hal)]
      exact cell_of_row HA.out
    have x2 : wo.cell? ⟨a, 2, none⟩ = some (.slice aW m cW) := by rw [← HM.out, ← HEW.out]; exact hwa 2
    have hzr : wb.heap.size ≤ wo.heap.size := HC.out.size
    by_cases hlt : i < m
    · have hlt' : (i : Int) < (m : Int) := by omega
      obtain ⟨g, c, q', cq, e1, _, g0, g1, hcq, _, _, hgl', _, _, hqn, _, hql, hdat, hpn, hdl, hdw, _⟩ := HRi.out.item (k := i) (by rw [HM.out]; exact hlt)
      rw [layR_len] at hpn
      rw [HEW.out, HM.out] at e1
      have hao : aW = some ⟨g, 0, none⟩ := by injection e1
      subst hao
      obtain ⟨p, hP⟩ : ∃ p, (r.wild.getD i (0, [])).1 = p := ⟨_, rfl⟩
      obtain ⟨l, hLl⟩ : ∃ l, (r.wild.getD i (0, [])).2 = l := ⟨_, rfl⟩
      rw [hP] at g0 hpn
      rw [hLl] at hdat hdl hdw
      have x0 : wo.cell? ⟨a, 0, none⟩ = some (.int .i64 r.page) := hwa 0
      have hnb : w.heap.size ∉ qs := fun e => by have := (HQA.out _ e).2.2.2.2; omega
      have hbx : wo.heap[w.heap.size]? = some (.cells #[.slice ao kn kc, .int .i64 tn, .int .i64 ta] 38 (0, 0)) := (HC.out.block _ (by omega) hnb).trans HBx.out
      have f0 : wo.cell? ⟨w.heap.size, 0, none⟩ = some (.slice ao kn kc) := by simp [World.cell?, hbx]
      have f1 : wo.cell? ⟨w.heap.size, 1, none⟩ = some (.int .i64 tn) := by simp [World.cell?, hbx]
      have f2 : wo.cell? ⟨w.heap.size, 2, none⟩ = some (.int .i64 ta) := by simp [World.cell?, hbx]
      have HKr : Hid (kn = 0 ∨ ∃ b off, ao = some ⟨b, off, none⟩ ∧ b < wo.heap.size ∧ ∀ j, j < kn → wo.cell? ⟨b, off + j, none⟩ = some (.int .i64 (ks.getD j 0))) := hidden (by
        rcases HKQ.out with h0 | hkq
        · exact .inl h0
        · rcases HK.out.hat with h0 | ⟨b, off, e, hb, hc⟩
          · exact .inl h0
          · refine .inr ⟨b, off, e, by omega, fun j hj => ?_⟩
            rw [World.cell?_of_block (w := wb) (a := ⟨b, off + j, none⟩) (HC.out.block b (by omega) (hkq _ e)), World.cell?_of_block (w := w) (a := ⟨b, off + j, none⟩) (HBb.out.block b hb)]
            exact hc j hj)
      have hne1 : ¬ w.heap.size = wo.heap.size := by omega
      have hne2 : ¬ a = wo.heap.size := by omega
      have HX1 : Hid (wo.cell? ⟨a, 1, none⟩ = some vL) := hidden (hwa 1)
      have HP := hidden hP
      have HLl := hidden hLl
      have HDT := hidden (And.intro hdat (And.intro hdl hdw))
      have HG := hidden (And.intro hql (And.intro hqn hpn))
      clear hdat hdl hdw hP hLl hql hqn hwa hbx e1 hgl' hpn
      obtain ⟨gL, cL, q, eL, _, cgp, hqq, _, hgLa, hgLl, hFq, hqa', hqg, hqW, hrow, hrl, hrw, hgW⟩ := HRi.out.rowi (n := p) (by rw [layR_len]; exact HG.out.2.2)
      rw [layR_len] at eL
      have hqm : q ∈ qs := List.mem_of_getElem? hqq
      obtain ⟨row0, hrow0⟩ : ∃ l, (layR r.wild (stR r.page ks tn ta) r.L i).getD p [] = l := ⟨_, rfl⟩
      rw [hrow0] at hrow hrl hrw
      have hqq' : q' ≠ q := fun e => HG.out.2.1 (e ▸ hqm)
      have hqlt := lt_of_some hrow
      have HX1' := HX1.out
      rw [eL] at HX1'
      obtain ⟨wi, hwi⟩ : ∃ wi, wo.alloc (.cells #[.int .i64 (p : Int), .slice (some ⟨q', 0, none⟩) r.page cq] 74 (0, 0)) = wi := ⟨_, rfl⟩
      have HBi : Hid (Below wo.heap.size wo wi) := hidden (by rw [← hwi]; exact (Below.refl _ _).alloc (Nat.le_refl _) _)
      have hs1 : w.heap.size < wo.heap.size := by omega
      have hs2 : a < wo.heap.size := by omega
      have hbox : wi.heap[wo.heap.size]? = some (.cells #[.int .i64 (p : Int), .slice (some ⟨q', 0, none⟩) r.page cq] 74 (0, 0)) := by rw [← hwi]; exact alloc_row _ _
      have j0 : wi.cell? ⟨w.heap.size, 0, none⟩ = some (.slice ao kn kc) := (HBi.out.cell (p := ⟨w.heap.size, 0, none⟩) hs1).trans f0
      have j1 : wi.cell? ⟨w.heap.size, 1, none⟩ = some (.int .i64 tn) := (HBi.out.cell (p := ⟨w.heap.size, 1, none⟩) hs1).trans f1
      have j2 : wi.cell? ⟨w.heap.size, 2, none⟩ = some (.int .i64 ta) := (HBi.out.cell (p := ⟨w.heap.size, 2, none⟩) hs1).trans f2
      have i0 : wi.cell? ⟨a, 0, none⟩ = some (.int .i64 r.page) := (HBi.out.cell (p := ⟨a, 0, none⟩) hs2).trans x0
      have HS0 : Hid (∀ u, Ch (fun j => j = q) wi u → (u.cell? ⟨a, 0, none⟩ = some (.int .i64 r.page)) ∧ (u.cell? ⟨a, 1, none⟩ = some (.slice (some ⟨gL, 0, none⟩) r.L.length cL)) ∧ (u.cell? ⟨wo.heap.size, 0, none⟩ = some (.int .i64 (p : Int))) ∧ (u.cell? ⟨wo.heap.size, 1, none⟩ = some (.slice (some ⟨q', 0, none⟩) r.page cq)) ∧ (u.cell? ⟨gL, p, none⟩ = some (.slice (some ⟨q, 0, none⟩) r.page r.page)) ∧ (∀ k, k < r.page → u.cell? ⟨q', k, none⟩ = some (.int .u8 (l.getD k 0)))) := hidden fun u hu => by
        have hzi := HBi.out.size
        refine ⟨(World.cell?_of_block (w := wi) (a := ⟨a, 0, none⟩) (hu.block a (by omega) (fun e => hqa' e.symm))).trans i0, (World.cell?_of_block (w := wi) (a := ⟨a, 1, none⟩) (hu.block a (by omega) (fun e => hqa' e.symm))).trans ((HBi.out.cell (p := ⟨a, 1, none⟩) hs2).trans HX1'), ?_, ?_, (World.cell?_of_block (w := wi) (a := ⟨gL, p, none⟩) (hu.block gL (by omega) (fun e => hqg e.symm))).trans ((HBi.out.cell (p := ⟨gL, p, none⟩) hgLl).trans cgp), fun k hk => (World.cell?_of_block (w := wi) (a := ⟨q', k, none⟩) (hu.block q' (by have := HG.out.1; omega) hqq')).trans ((HBi.out.cell (p := ⟨q', k, none⟩) HG.out.1).trans (HDT.out.1 k hk))⟩
        · rw [World.cell?_of_block (w := wi) (a := ⟨wo.heap.size, 0, none⟩) (hu.block _ (lt_of_some hbox) (fun e : wo.heap.size = q => by omega))]
          simp [World.cell?, hbox]
        · rw [World.cell?_of_block (w := wi) (a := ⟨wo.heap.size, 1, none⟩) (hu.block _ (lt_of_some hbox) (fun e : wo.heap.size = q => by omega))]
          simp [World.cell?, hbox]
      have HROW := hidden ((HBi.out.block q hqlt).trans hrow)
      have HRL := hidden (And.intro hrl hrw)
      have HQI := hidden (And.intro hqq hrow0)
      have hLI : (p : Int) < (r.L.length : Int) := by have := HG.out.2.2; omega
      have hnq1 : q ≠ a := hqa'
      have hnq2 : q ≠ wo.heap.size := by omega
      have hnq3 : q ≠ gL := hqg
      have hnq4 : q ≠ q' := fun e => hqq' e.symm
      have hnq5 : q ≠ w.heap.size := fun e => hnb (e ▸ hqm)
      have HKi : Hid (kn = 0 ∨ ∃ b off, ao = some ⟨b, off, none⟩ ∧ ∀ j, j < kn → wi.cell? ⟨b, off + j, none⟩ = some (.int .i64 (ks.getD j 0))) := hidden (by
        rcases HKr.out with h0 | ⟨b, off, e, hb, hc⟩
        · exact .inl h0
        · exact .inr ⟨b, off, e, fun j hj => (HBi.out.cell (p := ⟨b, off + j, none⟩) hb).trans (hc j hj)⟩)
      clear hbox hrow hrl hrw hrow0 hqq cgp eL HX1' f0 f1 f2 HKr hqq' hqa' hqg hFq hqW hgW hgLa
      go_wp2_with fail
      try rw [hwi]
      clear hwi g0 g1 x0 x2
      go_loop [6, 7] (fun t u => ∃ k : Nat, k ≤ kn ∧ t = .int .i64 (kpR r.page i ks k) ∧ u = .int .i64 k) (fun _ u => kn - (intOf u).toNat)
      case atStart => exact ⟨0, by omega, rfl, rfl⟩
      case round =>
        obtain ⟨k, hk, rfl, rfl⟩ := hrel
        by_cases hltk : k < kn
        · have hltk' : (k : Int) < (kn : Int) := by omega
          obtain ⟨b, off, ha0, hcs⟩ := HKi.out.resolve_left (by omega)
          subst ha0
          have ck := hcs k hltk
          obtain ⟨y, hy⟩ : ∃ y, ks.getD k 0 = y := ⟨_, rfl⟩
          rw [hy] at ck
          have HST : Hid (kpR r.page i ks (k + 1) = if y = (i : Int) then (r.page : Int) else kpR r.page i ks k) := hidden (by
            show (if ks.getD k 0 = (i : Int) then _ else _) = _
            rw [hy])
          clear hcs hy
          by_cases hyi : y = (i : Int)
          · have he : (y == (i : Int)) = true := by simp [hyi]
            have HR1 : Hid (kpR r.page i ks (k + 1) = (r.page : Int)) := hidden (by rw [HST.out, if_pos hyi])
            clear hyi HST
            go_wp2
            go_round
            case rel => exact ⟨k + 1, by omega, by rw [HR1.out], by go_num⟩
            case measure => simp [intOf]; omega
          · have he : (y == (i : Int)) = false := by simpa using hyi
            have HR1 : Hid (kpR r.page i ks (k + 1) = kpR r.page i ks k) := hidden (by rw [HST.out, if_neg hyi])
            clear hyi HST
            go_wp2
            go_round
            case rel => exact ⟨k + 1, by omega, by rw [HR1.out], by go_num⟩
            case measure => simp [intOf]; omega
        · have hgek : ¬ ((k : Int) < (kn : Int)) := by omega
          obtain rfl : k = kn := by omega
          go_upto_if 46 with fail
          go_cut [6] (fun t u => t = .int .i64 (amR r.page i ks tn ta) ∧ u = wi)
          case first =>
            by_cases hti : tn = (i : Int)
            · have he : (tn == (i : Int)) = true := by simp [hti]
              have HR1 : Hid (amR r.page i ks tn ta = ta) := hidden (by unfold amR; rw [if_pos hti])
              clear hti
              go_wp2
              go_meet
              case rel => exact ⟨by rw [HR1.out], rfl⟩
            · have he : (tn == (i : Int)) = false := by simpa using hti
              have HR1 : Hid (amR r.page i ks tn ta = kpR r.page i ks k) := hidden (by unfold amR; rw [if_neg hti, HK.out.hlen])
              clear hti
              go_wp2
              go_meet
              case rel => exact ⟨by rw [HR1.out], rfl⟩
          case rest =>
            obtain ⟨rfl, hwc⟩ := hcut
            subst hwc
            obtain ⟨A, hAm⟩ : ∃ A, amR r.page i ks tn ta = A := ⟨_, rfl⟩
            obtain ⟨st, hst⟩ : ∃ st, stR r.page ks tn ta i = st := ⟨_, rfl⟩
            have hstA : (st : Int) = min (max A 0) r.page := by rw [← hst]; unfold stR; rw [hAm]; omega
            rw [hAm]
            have hstp : st ≤ r.page := by omega
            have HST := hidden hst
            clear hst hAm j0 j1 j2
            go_wp2_with fail
            go_loopw [8] (fun t u => ∃ kk : Nat, kk ≤ st ∧ t = .int .i64 kk ∧ Hid (Ch (fun j => j = q) wc u) ∧ Hid (u.heap[q]? = some (.cells (By (l.take kk ++ row0.drop kk)).toArray 5 (0, 0)))) (fun t _ => st - (intOf t).toNat)
            case atStart => exact ⟨0, by omega, rfl, hidden (Ch.refl _ _), hidden (by simpa using HROW.out)⟩
            case round =>
              obtain ⟨kk, hkk, rfl, HCk, HRk⟩ := hrel
              obtain ⟨s0, s1, s2, s3, s4, s5⟩ := HS0.out wr HCk.out
              by_cases hlt3 : kk < st
              · have hA3 : (kk : Int) < A := by omega
                have hP3 : (kk : Int) < (r.page : Int) := by omega
                have dk := s5 kk (by omega)
                obtain ⟨x, hx⟩ : ∃ x, l.getD kk 0 = x := ⟨_, rfl⟩
                rw [hx] at dk
                have HX := hidden hx
                have fq := free_of_row (i := kk) HRk.out
                obtain ⟨y, cy⟩ : ∃ y, wr.cell? ⟨q, kk, none⟩ = some y := ⟨_, (cell_of_row HRk.out).trans (getD_By _ _ (by rw [ov_len l row0 kk r.page HDT.out.2.1 HRL.out.1 (by omega)]; omega))⟩
                have hcqb : (kk : Int) < (cq : Int) := by omega
                clear s5 hx
                go_wp2_with fail
                go_region_held3 (fun u => u.cell? ⟨a, 1, none⟩ = some (.slice (some ⟨gL, 0, none⟩) r.L.length cL) ∧ u.cell? ⟨wo.heap.size, 0, none⟩ = some (.int .i64 (p : Int)) ∧ u.cell? ⟨wo.heap.size, 1, none⟩ = some (.slice (some ⟨q', 0, none⟩) r.page cq) ∧ u.cell? ⟨gL, p, none⟩ = some (.slice (some ⟨q, 0, none⟩) r.page r.page) ∧ u.cell? ⟨q', kk, none⟩ = some (.int .u8 x)) (go_keep) (fail)
                have HCn : Hid (Ch (fun j => j = q) wc (wr.setCell ⟨q, kk, none⟩ (.int .u8 x)).drew) := hidden ((HCk.out.trans (Ch.setCell wr (F := fun j => j = q) rfl _) fun _ _ h => h).trans (Ch.dr _ _) fun _ _ h => h)
                have HRn : Hid ((wr.setCell ⟨q, kk, none⟩ (.int .u8 x)).drew.heap[q]? = some (.cells (By (l.take (kk + 1) ++ row0.drop (kk + 1))).toArray 5 (0, 0))) := hidden (by
                  show (wr.setCell ⟨q, kk, none⟩ (.int .u8 x)).heap[q]? = _
                  rw [heap_setCell_self HRk.out, By_set, ← HX.out, ov_step l row0 kk r.page HDT.out.2.1 HRL.out.1 (by omega)])
                clear s0 s1 s2 s3 s4 dk cy fq
                go_wp2
                go_roundw
                case rel => exact ⟨kk + 1, by omega, by go_num, HCn, HRn⟩
                case measure => simp [intOf]; omega
              · obtain rfl : kk = st := by omega
                have HCN : Hid (Ch (fun j => j ∈ qs) wb wr) := hidden (((HC.out.trans (Ch.of_below (F := fun j => j ∈ qs) HBi.out) fun _ _ h => h)).trans HCk.out fun j _ e => e ▸ hqm)
                have HRN : Hid (RRest wr F a r.page (layR r.wild (stR r.page ks tn ta) r.L (i + 1)) r.wild r.keep vL vW vK qs) := hidden (by
                  have hri := HRi.out.keep_ (w' := wc) (fun _ f _ => f) (by omega) HBi.out.size (fun k _ _ hk => HBi.out.block k hk)
                  have := hri.setrow (n := p) (q := q) (l' := l.take kk ++ row0.drop kk) (by rw [layR_len]; exact HG.out.2.2) HQI.out.1 HCk.out (ov_len l row0 kk r.page HDT.out.2.1 HRL.out.1 hstp) ((HDT.out.2.2.take _).append (HRL.out.2.drop _)) HRk.out
                  show RRest wr F a r.page ((layR r.wild (stR r.page ks tn ta) r.L i).set (r.wild.getD i (0, [])).1 ((r.wild.getD i (0, [])).2.take (stR r.page ks tn ta i) ++ ((layR r.wild (stR r.page ks tn ta) r.L i).getD (r.wild.getD i (0, [])).1 []).drop (stR r.page ks tn ta i))) r.wild r.keep vL vW vK qs
                  rw [HP.out, HLl.out, HST.out, HQI.out.2]
                  exact this)
                clear s5 s1 s2 s3 s4
                by_cases hA3 : (kk : Int) < A
                · have hP3 : ¬ ((kk : Int) < (r.page : Int)) := by omega
                  go_wp2
                  go_roundw
                  case rel => exact ⟨i + 1, by omega, by go_num, HCN, HRN⟩
                  case measure => simp [intOf]; omega
                · go_wp2
                  go_roundw
                  case rel => exact ⟨i + 1, by omega, by go_num, HCN, HRN⟩
                  case measure => simp [intOf]; omega
    · have hge : ¬ ((i : Int) < (m : Int)) := by omega
      obtain rfl : i = m := by omega
      have hA2 : wo.heap[a]? = some (.cells (rcells r vL vW vK).toArray 59 (0, 0)) := (HC.out.block a (by omega) hna).trans ((HBb.out.block a hal).trans HA.out)
      have f2 := free_of_row (i := 2) hA2
      have f3 := free_of_row (i := 3) hA2
      have f4 := free_of_row (i := 4) hA2
      have y3 : wo.cell? ⟨a, 3, none⟩ = some (.bool r.down) := hwa 3
      have y4 : wo.cell? ⟨a, 4, none⟩ = some (.bool r.armed) := hwa 4
      have HV : Hid (Rv wo F a { r with L := layR r.wild (stR r.page ks tn ta) r.L i }) := hidden ⟨vL, vW, vK, qs, hA2, HRi.out⟩
      have HCC : Hid (Ch F w wo) := hidden (((Ch.of_below (F := F) HBb.out)).trans HC.out fun j _ hj => (HQA.out j hj).2.1)
      clear hwa hA2 HRi HC HR HA
      go_wp2
      go_end0
      have hfa := HV.out.fa
      refine ⟨rfl, ?_, ((HCC.out.trans (Ch.setCell (F := F) wo hfa _) fun _ _ h => h).trans (Ch.setCell (F := F) _ hfa _) fun _ _ h => h).trans (Ch.setCell (F := F) _ hfa _) fun _ _ h => h⟩
      have := ((HV.out.unwild).set3 true).set4 false
      rw [← HM.out] at this
      exact this
end Go.Proofs.Ytikpfcapnpppdaa
