/- The document's device: Sync. -/
import Derived.Test.YtikpfcapnpppdaaRk
namespace Go.Proofs.Ytikpfcapnpppdaa
open Go.RowKit

set_option maxRecDepth 100000 in
set_option maxHeartbeats 4000000 in
theorem rSync_go (w : World) (F : Nat → Prop) (a : Nat) (r : R) (h : Rv w F a r) (hd : r.down = false) (h1 : 0 ≤ r.cs) (h2 : r.cs < 4611686018427387904)
    (bf : Bool) (rf : R) (hfail : ∀ u, Rv u F a { r with cs := r.cs + 1 } → Calls Try.prog 52 #[.pointer (some ⟨a, 0, none⟩)] u fun e u' => e = .returned (.bool bf) ∧ Rv u' F a rf ∧ Ch F u u' ∧ u'.heap.size = u.heap.size)
    (Q : Ending → World → Prop) (hno : bf = false → ∀ u, Rv u F a { rf with L := layR rf.wild (fun _ => rf.page) rf.L rf.wild.length, wild := [] } → Ch F w u → Q (.returned (.int .i64 0)) u)
    (hyes : bf = true → ∀ u, Rv u F a rf → Ch F w u → u.heap.size = w.heap.size → ∀ ao kn kc, u.cell? ⟨a, 6, none⟩ = some (.slice ao kn kc) → Calls Try.prog 53 #[.pointer (some ⟨a, 0, none⟩), .agg #[.slice ao kn kc, .int .i64 rf.torn, .int .i64 rf.tat]] u fun e u' => e = .returned (.tuple #[]) ∧ Q (.returned (.int .i64 3)) u') :
    Calls Try.prog 30 #[.pointer (some ⟨a, 0, none⟩)] w Q := by
  obtain ⟨i0, hi, hz0, hz1, hz2⟩ := info_parts info5
  have hsz : (Try.prog.info? 5).map (·.size) = some 1 := by rw [hi]; simp [hz1]
  clear hi hz0 hz1 hz2
  have H := hidden h
  obtain ⟨vL, vW, vK, qs, hc, hf, hr, ha⟩ := h.c
  have c3 : w.cell? ⟨a, 3, none⟩ = some (.bool r.down) := hc 3
  rw [hd] at c3
  have c11 : w.cell? ⟨a, 11, none⟩ = some (.int .i64 r.cs) := hc 11
  have f11 := hf 11
  have cF := hfail (w.setCell ⟨a, 11, none⟩ (.int .i64 (r.cs + 1))) (H.out.set11 _)
  have HNO := hidden hno
  have HYES := hidden hyes
  clear hc hf hr ha h hfail hno hyes vL vW vK qs
  go_enter Try.func30, Try.ntmps30
  go_wp2_with (go_at_call 52; refine cF.mono ?_; rintro e u2 ⟨rfl, hv2, hC2, hz2⟩; have HV2 := hidden hv2; have HC2 : Hid (Ch F w u2) := hidden ((Ch.setCell w H.out.fa _).trans hC2 fun _ _ h => h); have hsz2 : u2.heap.size = w.heap.size := (hz2.trans (by simp [World.setCell])); clear hv2 hC2 hz2; refine Hid.out ?_)
  apply hidden
  clear cF c3 c11 f11
  cases bf
  case true =>
    obtain ⟨vL8, vW8, vK8, qs8, hc8, hf8, hr8, ha8⟩ := HV2.out.c
    obtain ⟨ak, nk, ck, ek, _⟩ := hr8.ke
    have z6 : u2.cell? ⟨a, 6, none⟩ = some (.slice ak nk ck) := by rw [← ek]; exact hc8 6
    have z7 : u2.cell? ⟨a, 7, none⟩ = some (.int .i64 rf.torn) := hc8 7
    have z8 : u2.cell? ⟨a, 8, none⟩ = some (.int .i64 rf.tat) := hc8 8
    have cY := HYES.out rfl u2 HV2.out HC2.out hsz2 ak nk ck z6
    clear hc8 hf8 hr8 ha8 ek HYES HNO
    go_wp2_with (go_at_call 53; refine cY.mono ?_; rintro e w9 ⟨rfl, hq⟩; have HQ := hidden hq; clear hq; refine Hid.out ?_)
    apply hidden
    clear cY
    go_wp2
    exact HQ.out
  case false =>
    have HNO' : Hid (∀ u, Rv u F a { rf with L := layR rf.wild (fun _ => rf.page) rf.L rf.wild.length, wild := [] } → Ch F w u → Q (.returned (.int .i64 0)) u) := hidden (HNO.out rfl)
    clear HYES HNO
    obtain ⟨vL, vW, vK, qs, hc, hf, hr, ha⟩ := HV2.out.c
    obtain ⟨xs, hx1, _⟩ := hr.hx
    obtain ⟨aW, cW, eW, _⟩ := own_val hx1
    obtain ⟨m, hm⟩ : ∃ m, rf.wild.length = m := ⟨_, rfl⟩
    have hal := lt_of_some ha
    have hfew : m ≤ 4398046511103 := by rw [← hm]; exact hr.few
    have hqa : ∀ q ∈ qs, q ≠ a ∧ F q := fun q hq => by
      obtain ⟨i, hi⟩ := List.getElem?_of_mem hq
      exact ⟨(hr.hq i q hi).2.1, (hr.hq i q hi).1⟩
    have HR := hidden hr
    have HA := hidden ha
    have HM := hidden hm
    have HEW := hidden eW
    have HQA := hidden hqa
    clear hc hf hr ha hx1 hm eW hqa
    go_wp2_with fail
    go_loopw [4] (fun t wr => ∃ i : Nat, i ≤ m ∧ t = .int .i64 i ∧ Hid (Ch (fun j => j ∈ qs) u2 wr) ∧ Hid (RRest wr F a rf.page (layR rf.wild (fun _ => rf.page) rf.L i) rf.wild rf.keep vL vW vK qs)) (fun t _ => m - (intOf t).toNat)
    case atStart => exact ⟨0, by omega, rfl, hidden (Ch.refl _ _), HR⟩
    case round =>
      obtain ⟨i, hi, rfl, HC, HRi⟩ := hrel
      have hna : a ∉ qs := fun e => (HQA.out a e).1 rfl
      have hwa : ∀ o, wr.cell? ⟨a, o, none⟩ = (rcells rf vL vW vK)[o]? := fun o => by
        rw [World.cell?_of_block (w := u2) (a := ⟨a, o, none⟩) (HC.out.block a hal hna)]
        exact cell_of_row HA.out
      have x2 : wr.cell? ⟨a, 2, none⟩ = some (.slice aW m cW) := by rw [← HM.out, ← HEW.out]; exact hwa 2
      by_cases hlt : i < m
      · have hlt' : (i : Int) < (m : Int) := by omega
        obtain ⟨g, c, q', cq, e1, _, g0, g1, hcq, _, hga, hgl', _, _, hqn, hqg', hql, hdat, hpn, hdl, hdw, _⟩ := HRi.out.item (k := i) (by rw [HM.out]; exact hlt)
        rw [layR_len] at hpn
        rw [HEW.out, HM.out] at e1
        have hao : aW = some ⟨g, 0, none⟩ := by injection e1
        subst hao
        obtain ⟨p, hP⟩ : ∃ p, (rf.wild.getD i (0, [])).1 = p := ⟨_, rfl⟩
        obtain ⟨l, hLl⟩ : ∃ l, (rf.wild.getD i (0, [])).2 = l := ⟨_, rfl⟩
        rw [hP] at g0 hpn
        rw [hLl] at hdat hdl hdw
        obtain ⟨gL, cL, q, eL, _, cgp, hqq, _, hgLa, hgLl, hFq, hqa', hqg, hqW, hrow, hrl, hrw, hgW⟩ := HRi.out.rowi (n := p) (by rw [layR_len]; exact hpn)
        rw [layR_len] at eL
        have hqm : q ∈ qs := List.mem_of_getElem? hqq
        have hqW' : q ≠ g := fun e => hqW (by rw [HEW.out, e]; rfl)
        have x1 : wr.cell? ⟨a, 1, none⟩ = some (.slice (some ⟨gL, 0, none⟩) rf.L.length cL) := by rw [← eL]; exact hwa 1
        obtain ⟨row0, hrow0⟩ : ∃ l, (layR rf.wild (fun _ => rf.page) rf.L i).getD p [] = l := ⟨_, rfl⟩
        rw [hrow0] at hrow hrl
        have HSRC : Hid (∀ j v, (By l)[j]? = some v → wr.drew.cell? ((⟨q', 0, none⟩ : Addr).add j) = some v) := hidden fun j v hv => by
          obtain ⟨h1, rfl⟩ := getElem?_By l j v hv
          rw [Addr.add_lit, Nat.zero_add]
          exact hdat j (by omega)
        have HROW := hidden hrow
        have HMN : Hid ((By l).length = Nat.min rf.page rf.page) := hidden (by rw [By_length, hdl]; exact (Nat.min_self _).symm)
        have HFT : Hid (0 + (By l).length ≤ (By row0).length) := hidden (by rw [By_length, By_length, hdl, hrl]; omega)
        have HNXT : Hid (∀ u, u = wr.drew.setRow q (By l).toArray → Ch (fun j => j ∈ qs) u2 u ∧ RRest u F a rf.page (layR rf.wild (fun _ => rf.page) rf.L (i + 1)) rf.wild rf.keep vL vW vK qs ∧ u.cell? ⟨a, 1, none⟩ = some (.slice (some ⟨gL, 0, none⟩) rf.L.length cL) ∧ u.cell? ⟨a, 2, none⟩ = some (.slice (some ⟨g, 0, none⟩) m cW) ∧ u.cell? ⟨g, i * 2, none⟩ = some (.int .i64 (p : Int)) ∧ u.cell? ⟨g, i * 2 + 1, none⟩ = some (.slice (some ⟨q', 0, none⟩) rf.page cq) ∧ u.cell? ⟨gL, p, none⟩ = some (.slice (some ⟨q, 0, none⟩) rf.page rf.page)) := hidden fun u hu => by
          have hcu : Ch (fun j => j = q) wr u := by rw [hu]; exact (Ch.dr _ wr).trans (Ch.setRow (F := fun j => j = q) _ rfl _) fun _ _ h => h
          have hk : ∀ b o, b < wr.heap.size → b ≠ q → u.cell? ⟨b, o, none⟩ = wr.cell? ⟨b, o, none⟩ := fun b o hb hne => World.cell?_of_block (w := wr) (a := ⟨b, o, none⟩) (hcu.block b hb hne)
          have halr : a < wr.heap.size := Nat.lt_of_lt_of_le hal HC.out.size
          refine ⟨HC.out.trans hcu fun j _ e => e ▸ hqm, ?_, (hk a 1 halr (fun e => hqa' e.symm)).trans x1, (hk a 2 halr (fun e => hqa' e.symm)).trans x2, (hk g _ hgl' (fun e => hqW' e.symm)).trans g0, (hk g _ hgl' (fun e => hqW' e.symm)).trans g1, (hk gL p hgLl (fun e => hqg e.symm)).trans cgp⟩
          have := HRi.out.setrow (n := p) (q := q) (l' := l) (by rw [layR_len]; exact hpn) hqq hcu hdl hdw (by rw [hu]; exact setRow_heap _ _ _ _ _ _ hrow)
          show RRest u F a rf.page ((layR rf.wild (fun _ => rf.page) rf.L i).set (rf.wild.getD i (0, [])).1 ((rf.wild.getD i (0, [])).2.take rf.page ++ ((layR rf.wild (fun _ => rf.page) rf.L i).getD (rf.wild.getD i (0, [])).1 []).drop rf.page)) rf.wild rf.keep vL vW vK qs
          rw [hP, hLl, hrow0, List.take_of_length_le (by omega), List.drop_eq_nil_of_le (by omega), List.append_nil]
          exact this
        have HLB := hidden hdl
        have HRL := hidden hrl
        have hpi : (p : Int) < (rf.L.length : Int) := by omega
        clear hdat hdl hdw hP hLl hql hqn hwa e1 eL hrow hrl hrw hrow0 hqq HRi HC
        go_wp2_with fail
        go_region_held3 (fun u => u.cell? ⟨a, 1, none⟩ = some (.slice (some ⟨gL, 0, none⟩) rf.L.length cL) ∧ u.cell? ⟨a, 2, none⟩ = some (.slice (some ⟨g, 0, none⟩) m cW) ∧ u.cell? ⟨g, i * 2, none⟩ = some (.int .i64 (p : Int)) ∧ u.cell? ⟨g, i * 2 + 1, none⟩ = some (.slice (some ⟨q', 0, none⟩) rf.page cq) ∧ u.cell? ⟨gL, p, none⟩ = some (.slice (some ⟨q, 0, none⟩) rf.page rf.page)) (go_keep)
          (first | (refine step_copy_row rfl _ _ 35 35 rfl 5 Try.underlying35 hsz q 0 rf.page rf.page ⟨q', 0, none⟩ rf.page cq rfl rfl (By row0) 5 HROW.out (By l) HMN.out HSRC.out HFT.out (By_one _) ?_; intro u3 HU; have hu3 := HNXT.out u3 (by rw [HU.out, splice_all _ _ (by rw [By_length, By_length, HLB.out, HRL.out])]); obtain ⟨n1, n2, n3, n4, n5, n6, n7⟩ := hu3; replace n1 := hidden n1; replace n2 := hidden n2; clear HU))
        all_goals
          clear n3 n4 n5 n6 n7 HNXT HSRC HROW HMN HFT x1 x2 g0 g1 cgp
          go_wp2
          go_roundw
          case rel => exact ⟨i + 1, by omega, by go_num, n1, n2⟩
          case measure => simp [intOf]; omega
      · have hge : ¬ ((i : Int) < (m : Int)) := by omega
        obtain rfl : i = m := by omega
        have hA2 : wr.heap[a]? = some (.cells (rcells rf vL vW vK).toArray 59 (0, 0)) := (HC.out.block a hal hna).trans HA.out
        have f2 := free_of_row (i := 2) hA2
        have HV : Hid (Rv wr F a { rf with L := layR rf.wild (fun _ => rf.page) rf.L i }) := hidden ⟨vL, vW, vK, qs, hA2, HRi.out⟩
        have HCC : Hid (Ch F w wr) := hidden (HC2.out.trans HC.out fun j _ hj => (HQA.out j hj).2)
        clear hwa hA2 HRi HC HR HA
        go_wp2
        have hres := HV.out.unwild
        rw [← HM.out] at hres
        exact HNO'.out _ hres (HCC.out.trans (Ch.setCell (F := F) wr HV.out.fa _) fun _ _ h => h)
end Go.Proofs.Ytikpfcapnpppdaa
