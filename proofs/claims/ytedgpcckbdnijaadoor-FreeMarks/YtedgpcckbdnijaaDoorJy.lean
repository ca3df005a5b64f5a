/- Back at any mark, followed as its text goes. -/
import Derived.Test.YtedgpcckbdnijaaDoorJx
import Derived.Test.YtedgpcckbdnijaaDoorVi
namespace Go.Proofs.YtedgpcckbdnijaaDoor
open Go.RowKit Go.Maps Go.Shelf

attribute [local go_sem] Oper.semAt_some

set_option maxRecDepth 100000 in
theorem stL_at {K : Int → Option Int} {M : List Mq} (L : List Nat) {i : Nat} {q : Mq} (h : M[i]? = some q) : ∃ q2, (stL (K, M) L).2[i]? = some q2 ∧ q2.n = q.n ∧ q2.b = q.b := by
  have e := stL_nb L (K, M)
  have h1 : ((stL (K, M) L).2.map nb)[i]? = some (nb q) := by rw [e, List.getElem?_map, h]; rfl
  rw [List.getElem?_map] at h1
  cases h2 : (stL (K, M) L).2[i]? with
  | none => rw [h2] at h1; cases h1
  | some q2 =>
    rw [h2] at h1
    injection h1 with h1
    exact ⟨q2, rfl, congrArg Prod.fst h1, congrArg Prod.snd h1⟩
set_option maxRecDepth 100000 in
set_option maxHeartbeats 4000000 in
theorem back_any {w : World} {b m : Nat} {mv : Value} {last : Int} {K : Int → Option Int} {N R : List Mq} {q : Mq} (h : Fl w b m mv last K (N ++ q :: R)) (hN : ∀ x ∈ N, x.n ≠ q.n) :
    Calls Tryd.prog 12 #[pB b, .int .i64 q.n] w fun e u => e = .returned (.int .i64 0) ∧ Hid (∃ mv', mv'.ownBlock = mv.ownBlock ∧ Fl u b m mv' last (undo (q :: R) K) (N ++ [clr q]) ∧ Cf (Fb b m mv (N ++ q :: R)) w u) := by
  obtain ⟨t, ht⟩ : ∃ t, N.length = t := ⟨_, rfl⟩
  obtain ⟨r, hr⟩ : ∃ r, R.length = r := ⟨_, rfl⟩
  have hln : (N ++ q :: R).length = t + 1 + r := by rw [List.length_append, ht, List.length_cons, hr]; omega
  obtain ⟨ao, cap, rfl, hsh⟩ := h.row.shape
  rw [hln] at h hsh ⊢
  obtain ⟨g, rfl, hcap, hmx, hc⟩ : ∃ g, ao = some ⟨g, 0, none⟩ ∧ t + 1 + r ≤ cap ∧ cap ≤ maxLen ∧ ∀ (i : Nat) (q' : Mq), (N ++ q :: R)[i]? = some q' → w.cell? ⟨g, i * 2, none⟩ = some (.int .i64 q'.n) ∧ w.cell? ⟨g, i * 2 + 1, none⟩ = some (.map (some q'.b)) := by
    rcases hsh with h1 | h1
    · omega
    · exact h1
  have hcI : (cap : Int) ≤ 9223372036854775807 := by unfold maxLen at hmx; omega
  have htI : (t : Int) + 1 + (r : Int) ≤ (cap : Int) := by omega
  have hE : fdI (fun q' => q'.n == q.n) (N ++ q :: R) = (N.length : Int) := fdI_some (q := q) (by rw [List.getElem?_append_right (Nat.le_refl _)]; simp) (by simp) (fun j y hj hy => by
    rw [List.getElem?_append_left hj] at hy
    have := hN y (List.mem_of_getElem? hy)
    simpa using this)
  obtain ⟨M', hM'⟩ : ∃ M', N ++ [clr q] = M' := ⟨_, rfl⟩
  obtain ⟨K', hK'⟩ : ∃ K', undo (q :: R) K = K' := ⟨_, rfl⟩
  obtain ⟨M, hM⟩ : ∃ M, N ++ q :: R = M := ⟨_, rfl⟩
  have HALL : Hid (stL (K, M) ((dnL (1 + r) (1 + r)).map (t + ·)) = (K', M' ++ R.map clr)) := hidden (by
    have := stL_all K N (q :: R)
    rw [List.length_cons, hr, ht, hM, hK', show r + 1 = 1 + r by omega] at this
    rw [this, ← hM']
    simp)
  obtain ⟨Fq, hFq⟩ : ∃ F : Nat → Prop, Fb b m (.slice (some ⟨g, 0, none⟩) (t + 1 + r) cap) M = F := ⟨_, rfl⟩
  have HFq := hidden hFq
  rw [hM] at h hc hE
  have HML : Hid (M'.length = t + 1) := hidden (by rw [← hM', List.length_append, ht]; rfl)
  rw [hM', hK', hM, hFq]
  have HC := hidden hc
  have HLM : Hid (t + (1 + r) = M.length) := hidden (by rw [← hM, hln]; omega)
  obtain ⟨x, hx⟩ : ∃ x, w.alloc (.cells #[pB b] 25) = x := ⟨_, rfl⟩
  have hbx : Below w.heap.size w x := by rw [← hx]; exact bl_al (Below.refl _ _) (Nat.le_refl _) _
  have hcx : x.cell? ⟨w.heap.size, 0, none⟩ = some (pB b) := by rw [← hx]; simp
  have hxs : x.heap.size = w.heap.size + 1 := by rw [← hx]; simp
  have HX := hidden (h.on hbx)
  have HBX := hidden hbx
  have HFD := hidden (find_any HX.out q.n)
  have HW := hidden h
  rw [hE, ht] at HFD
  have e0 : decide (0 ≤ (t : Int)) = true := by simp
  rw [e0] at HFD
  generalize q.n = qn at *
  clear hsh hcap hmx hc hE hM' hK' hM hFq hln ht hr hN h hbx e0
  refine (callsIn_wide (n := 10)).1 ?_
  refine callsIn_of_wp_marks Tryd.func12 rfl trivial ?_ rfl
  simp only [Tryd.ntmps12, List.size_toArray, List.length_cons, List.length_nil, Nat.reduceAdd, Nat.reduceSub, Array.replicate_succ, Array.replicate_zero, List.push_toArray, List.append_toArray, List.nil_append, List.cons_append]
  gi_wp2_with (refine ⟨trivial, ?_⟩; gi_at_call 39; refine (callsIn_wide.2 HFD.out).mono ?_; rintro e w2 ⟨rfl, HB2⟩; refine Hid.out ?_)
  apply hidden
  have hc2 : w2.cell? ⟨w.heap.size, 0, none⟩ = some (pB b) := (HB2.out.cell (p := ⟨w.heap.size, 0, none⟩) (by rw [hxs]; exact Nat.lt_succ_self _)).trans hcx
  have H2 := hidden (HX.out.on HB2.out)
  have HBW : Hid (Below w.heap.size w w2) := hidden (HBX.out.trans (HB2.out.mono HBX.out.size))
  have hs2 : w.heap.size < w2.heap.size := by have := HB2.out.size; omega
  have cm := H2.out.fs.cm
  clear hcx hxs hx HX HFD HB2 HBX
  have hsub : t + 1 + r - t = 1 + r := by omega
  gi_wp2_with (refine ⟨trivial, ?_⟩; gi_at_call 40; refine (callsIn_wide.2 (back_made _ _ _ _)).mono ?_; rintro e w3 ⟨rfl, hw3⟩; refine Hid.out ?_)
  apply hidden
  rw [← hw3]
  have HW3 := hidden hw3
  clear cm hw3 hsub
  have hs3 : w3.heap.size = w2.heap.size + 1 := by rw [HW3.out]; simp
  have HB3 : Hid (Below w2.heap.size w2 w3) := hidden (by rw [HW3.out]; exact bl_al (Below.refl _ _) (Nat.le_refl _) _)
  have H3 := hidden (H2.out.on HB3.out)
  have hBs : w3.cell? ⟨w2.heap.size, 0, none⟩ = some (.slice (some ⟨g, t * 2, none⟩) (1 + r) (cap - t)) := by rw [HW3.out]; simp
  have hc3 : w3.cell? ⟨w.heap.size, 0, none⟩ = some (pB b) := (HB3.out.cell (p := ⟨w.heap.size, 0, none⟩) hs2).trans hc2
  have HBW3 : Hid (Below w.heap.size w w3) := hidden (HBW.out.trans (HB3.out.mono HBW.out.size))
  have HLT : Hid (∀ k, Fb b m (.slice (some ⟨g, 0, none⟩) (t + 1 + r) cap) M k → k < w.heap.size) := hidden (fun k hk => HW.out.lts hk)
  have HLS : Hid (∀ (L : List Nat) k, Fb b m (.slice (some ⟨g, 0, none⟩) (t + 1 + r) cap) (stL (K, M) L).2 k → k < w.heap.size) := hidden (fun L k hk => HLT.out k (Fb_map (nb_b (stL_nb L (K, M))) hk))
  have hbl := HLT.out b (.inl rfl)
  have hml := HLT.out m (.inr (.inl rfl))
  have hgl := HLT.out g (.inr (.inr (.inl rfl)))
  have HQB : Hid (∀ p ∈ M, p.b < w.heap.size ∧ p.b ≠ b ∧ p.b ≠ m ∧ p.b ≠ g) := hidden (fun p hp => by
    obtain ⟨n1, n2, n3⟩ := mk_ne HW.out
    exact ⟨HLT.out _ (.inr (.inr (.inr ⟨p, hp, rfl⟩))), (n3 p hp).2, (HW.out.maps p hp).2.1, fun e => (n3 p hp).1 (by rw [e]; rfl)⟩)
  have HGB : Hid (g ≠ b ∧ g ≠ m) := hidden (by
    obtain ⟨n1, n2, n3⟩ := mk_ne HW.out
    exact ⟨fun e => n1 (by rw [e]; rfl), fun e => n2 (by rw [e]; rfl)⟩)
  obtain ⟨Fk, hFk⟩ : ∃ F : Nat → Prop, F = fun k => k = b ∨ k = m ∨ (∃ p ∈ M, k = p.b) ∨ w3.heap.size ≤ k := ⟨_, rfl⟩
  have HFk := hidden hFk
  have hng : ¬ Fk g := by
    rw [hFk]
    rintro (e | e | ⟨p, hp, e⟩ | e)
    · exact HGB.out.1 e
    · exact HGB.out.2 e
    · exact (HQB.out p hp).2.2.2 e.symm
    · omega
  have hnB : ¬ Fk w2.heap.size := by
    rw [hFk]
    rintro (e | e | ⟨p, hp, e⟩ | e)
    · omega
    · omega
    · have := (HQB.out p hp).1
      omega
    · omega
  have HSEQ : Hid (SeqStopsK Fence.wide 9 Tryd.prog 62 #[.pointer (some ⟨w2.heap.size, 0, none⟩)] (miV M t) (Cf Fk) (fun ys => ys.map (fun x => x.1.1) = dnL (1 + r) (1 + r)) (fun _ => True) (1 + r) w3) := hidden (fun l J Jx W hW _ _ hY h0 => by
    refine (back1_in l w2.heap.size g (cap - t) (1 + r) t M HLM.out (by have := HLM.out; omega) (Cf Fk) (fun A B hk hA1 hA2 => ⟨World.cell?_of_block (hk.block _ hA1 hnB), fun i => World.cell?_of_block (hk.block _ hA2 hng)⟩) J Jx hY W ((hW.cell (p := ⟨w2.heap.size, 0, none⟩) (by rw [hs3]; exact Nat.lt_succ_self _)).trans hBs) (fun i q' hq' => ?_) h0).mono ?_
    · obtain ⟨d1, d2⟩ := HC.out i q' hq'
      have hgW : Below w.heap.size w W := HBW3.out.trans (hW.mono HBW3.out.size)
      exact ⟨(hgW.cell (p := ⟨g, i * 2, none⟩) hgl).trans d1, (hgW.cell (p := ⟨g, i * 2 + 1, none⟩) hgl).trans d2⟩
    · rintro e W' ⟨he, ⟨ys, hys, hj⟩ | hx⟩
      · exact ⟨he, .inl ⟨ys, hys, hj⟩⟩
      · exact ⟨he, .inr hx⟩)
  gi_wp2
  refine wpIn_rangeFunc_ownH (α := Mi M t) rfl (by decide : 1 ≤ 10) (gf := 62) (lb := #[.pointer (some ⟨w2.heap.size, 0, none⟩)]) rfl trivial (enters_of Tryd.func62 (by kernel_rfl) rfl)
    (encs := miV M t) (Kp := Cf Fk) (S := fun ys => ys.map (fun x => x.1.1) = dnL (1 + r) (1 + r)) (Sp := fun _ => True) (N := 1 + r) (w0 := w3) HSEQ.out (fun h k => h.go k) (fun W l o o' hl ho _ _ => ?hKb) (Below.refl _ _) (fun _ => rfl)
    (fun pre W => Hid (Fl W b m (.slice (some ⟨g, 0, none⟩) (t + 1 + r) cap) last (stL (K, M) (pre.map (fun x => t + x.1.1))).1 (stL (K, M) (pre.map (fun x => t + x.1.1))).2) ∧ Hid (Cf Fq w W) ∧ W.cell? ⟨w.heap.size, 0, none⟩ = some (pB b) ∧ w3.heap.size ≤ W.heap.size)
    (fun _ _ _ => False) ?hI (fun _ _ _ _ _ h _ _ => h) ?h0
    (fun x a' W => ∃ Bx, w3.heap.size ≤ Bx ∧ W.heap[Bx]? = some (.cells #[.int .i64 x.1.2.n, .map (some x.1.2.b)] 74 (0, 0)) ∧ a' = { tmps := #[pB b, .int .i64 qn, .pointer (some ⟨w.heap.size, 0, none⟩), undef, .int .i64 0, .int .i64 (t : Int), .bool true, undef, .pointer (some ⟨Bx, 0, none⟩), undef, undef, undef, .tuple #[.int .i64 (t : Int), .bool true], pB b, .int .i64 qn, .tuple #[.int .i64 (t : Int), .bool true], .int .i64 (t : Int), .bool true, .bool true, .bool false, pB b, .pointer (some ⟨b, 0, none⟩), .pointer (some ⟨b, 1025, none⟩), .slice (some ⟨g, 0, none⟩) (t + 1 + r) cap, .int .i64 (t : Int), .slice (some ⟨g, t * 2, none⟩) (1 + r) (cap - t), .func (.func 62) #[] #[.pointer (some ⟨w2.heap.size, 0, none⟩)], .int .i64 (x.1.1 : Int), .agg #[.int .i64 x.1.2.n, .map (some x.1.2.b)], undef, undef, undef, undef, undef, undef, undef, undef, undef, undef, undef, undef, undef, undef, undef, undef, undef, undef, undef, undef, undef, undef, undef, undef, undef, undef, undef, undef, undef, undef, undef, undef], defers := [] })
    ?hAx ?assign ?body ?done ?stop
  case hKb =>
    refine (Cf.ofGrown (grownBy_putObj' W l o')).wd (fun k hk => ?_)
    cases hk
    rw [HFk.out]
    exact .inr (.inr (.inr hl))
  case hI =>
    intro pre A B row hs hg hr
    have hcf := Cf.ofGrown hg
    refine ⟨hidden (hs.1.out.cf hcf (fun k hk e => ?_)), hidden (hs.2.1.out.trans hcf (fun k hk e => ?_)), ?_, Nat.le_trans hs.2.2.2 hg.size⟩
    · have h1 := (hr k e).1
      have := HLS.out _ k hk
      omega
    · have h1 := (hr k e).1
      omega
    · have h1 := cell_lt hs.2.2.1
      rw [← hs.2.2.1]
      exact World.cell?_of_block (hg.block w.heap.size h1 (fun e => by have := (hr _ e.symm).1; omega))
  case h0 => exact ⟨H3, hidden (Cf.of_below HBW3.out), hc3, Nat.le_refl _⟩
  case hAx =>
    rintro x a' _ A B row ⟨Bx, h1, h2, h3⟩ hg hr
    refine ⟨Bx, h1, ?_, h3⟩
    rw [hg.block Bx (lt_some h2) (fun e => ?_)]
    · exact h2
    · obtain ⟨_, o, ho, hc⟩ := hr _ e.symm
      rw [h2] at ho
      cases ho
      cases hc
  case assign =>
    rintro l pre x W K0 ⟨HI, HC', hbox, hsz⟩ hK
    unfold miV
    gi_wp2
    have hba : Below W.heap.size W (W.alloc (.cells #[.int .i64 x.1.2.n, .map (some x.1.2.b)] 74)) := bl_al (Below.refl _ _) (Nat.le_refl _) _
    exact hK _ _ ((KeepsOthers.alloc _ _).from _) (Cf.of_below hba) ⟨hidden (HI.out.on hba), hidden (HC'.out.trans (Cf.of_below (F := Fq) hba) (fun _ _ h => h)), (hba.cell (p := ⟨w.heap.size, 0, none⟩) (cell_lt hbox)).trans hbox, Nat.le_trans hsz hba.size⟩ ⟨W.heap.size, hsz, al_row W _, rfl⟩
  case body =>
    rintro l pre ⟨⟨i, q0⟩, hq0⟩ a' W hl ⟨r0, hr0⟩ ⟨HI, HCW, hbox, hsz⟩ ⟨Bx, hBx, hbx, rfl⟩ hlt
    simp only at hq0 hbx ⊢
    obtain ⟨q', hq', hn', hb'⟩ := stL_at (K := K) (pre.map (fun x => t + x.1.1)) hq0
    have HMB := hidden (nb_b (stL_nb (pre.map (fun x : Mi M t => t + x.1.1)) (K, M)))
    have HLM2 := hidden (HLS.out (pre.map (fun x => t + x.1.1)))
    have HSN : Hid (stL (K, M) ((pre ++ [(⟨(i, q0), hq0⟩ : Mi M t)]).map (fun x : Mi M t => t + x.1.1)) = (appB (stL (K, M) (pre.map (fun x => t + x.1.1))).1 q'.B, (stL (K, M) (pre.map (fun x => t + x.1.1))).2.set (t + i) (clr q'))) := hidden (by
      rw [List.map_append, List.map_cons, List.map_nil, stL_snoc]
      unfold stB
      rw [hq'])
    have HQM : Hid (∃ p ∈ M, q'.b = p.b) := hidden ⟨q0, List.mem_of_getElem? hq0, hb'⟩
    rw [← hn', ← hb'] at hbx ⊢
    generalize stL (K, M) (pre.map (fun x => t + x.1.1)) = sS at *
    obtain ⟨KS, MS⟩ := sS
    simp only at HI HMB HLM2 HSN hq'
    have hmk := HI.out.maps _ (List.mem_of_getElem? hq')
    obtain ⟨D, hown, hD, hszD⟩ := hmk.1.size
    have HD := hidden hD
    have HMK := hidden hmk
    have HQ' := hidden hq'
    have hqb2 : ¬ (q'.b = b ∨ q'.b = m) := by
      obtain ⟨p, hp, e⟩ := HQM.out
      have h1 := HQB.out p hp
      rw [e]
      rintro (e | e)
      · exact h1.2.1 e
      · exact h1.2.2.1 e
    have c1 : W.cell? ⟨Bx, 1, none⟩ = some (.map (some q'.b)) := by unfold World.cell?; rw [hbx]; rfl
    generalize hn : Maps.size D = n at *
    clear hD hmk hbx hq' hn' hb'
    gi_wp2_with (first
      | (gi_at_range; refine wpListIn_range_own _ rfl _ 56 rfl 3 3 kI Tryd.underlying56 _ q'.b n _ rfl hown ?_; intro v0 hrg0 hg0 hs0)
      | gi_in)
    go_frame
    rw [hn] at hrg0
    have hb0 : Below W.heap.size W v0 := ⟨hg0.os, hg0.tape, hg0.output, hg0.size, fun k hk => hg0.block k hk (by simp)⟩
    have hBxl := cell_lt c1
    have hbxl := cell_lt hbox
    gi_loopw [9, 10] (fun _ _ wr => ∃ (left : Lit → Bool) (cnt : Nat), Hid (wr.ranges Tryd.prog 3 (plainElem Tryd.prog 3) q'.b W.heap.size n D left cnt) ∧ Hid (Fl wr b m (.slice (some ⟨g, 0, none⟩) (t + 1 + r) cap) last (appL KS q'.B left) MS) ∧ Hid (Cf (fun k => k = b ∨ k = m) W wr))
      (fun _ _ wr => wr.rangeLeft q'.b W.heap.size)
    case atStart => exact ⟨_, _, hidden hrg0, hidden (by rw [appL_start HD.out]; exact HI.out.on hb0), hidden (Cf.of_below hb0)⟩
    case round =>
      obtain ⟨left, cnt, HRG, HFL, HCR⟩ := hrel
      have n1 : ¬ (w.heap.size = b ∨ w.heap.size = m) := by omega
      have n2 : ¬ (Bx = b ∨ Bx = m) := by omega
      have hboxr : wr.cell? ⟨w.heap.size, 0, none⟩ = some (pB b) := (World.cell?_of_block (HCR.out.block _ hbxl n1)).trans hbox
      have c1r : wr.cell? ⟨Bx, 1, none⟩ = some (.map (some q'.b)) := (World.cell?_of_block (HCR.out.block _ hBxl n2)).trans c1
      clear hrg0 hg0 hs0 hown
      gi_wp2_with (first
        | (gi_at_next; refine wpListIn_next_ranges_ii _ rfl _ rfl 3 3 .i64 .i64 kI Tryd.underlying3 Tryd.underlying3 q'.b W.heap.size n _ _ _ rfl HRG.out ?_ ?_)
        | gi_in)
      · intro _ hl0
        rw [appL_end hl0] at HFL
        obtain ⟨u, hru, hmu, hcu⟩ := (HFL.out.maps _ (List.mem_of_getElem? HQ'.out)).1.clear 0
        clear hl0
        gi_wp2
        have hcT : Cf (fun k => k = b ∨ k = m ∨ k = q'.b) W u := (HCR.out.wd fun k hk => by
          rcases hk with hk | hk
          · exact .inl hk
          · exact .inr (.inl hk)).go (hcu.wd fun k hk => .inr (.inr hk))
        have hqlt : q'.b < w.heap.size := by
          obtain ⟨p, hp, e⟩ := HQM.out
          rw [e]
          exact (HQB.out p hp).1
        refine ⟨⟨hcT.size, fun k o hB hk _ => (hcT.block k (lt_some hk) (by omega)).trans hk⟩, hcT.wd (fun k hk => ?_), ?_, hidden (HCW.out.trans hcT (fun k _ hk => ?_)), ?_, Nat.le_trans hsz hcT.size⟩
        · rw [HFk.out]
          rcases hk with hk | hk | hk
          · exact .inl hk
          · exact .inr (.inl hk)
          · obtain ⟨p, hp, e⟩ := HQM.out
            exact .inr (.inr (.inl ⟨p, hp, hk.trans e⟩))
        · have h6 := HFL.out.setI HQ'.out hcu hmu (fun k f h => by cases h)
          rw [HSN.out]
          exact hidden h6
        · rw [← HFq.out]
          rcases hk with hk | hk | hk
          · exact .inl hk
          · exact .inr (.inl hk)
          · obtain ⟨p, hp, e⟩ := HQM.out
            exact .inr (.inr (.inr ⟨p, hp, hk.trans e⟩))
        · exact (World.cell?_of_block (hcT.block w.heap.size hbxl (by omega))).trans hbox
      · intro x c v1 cnt1 hwx hwc hlx hat hrg1 hltc hg1 hs1 hen
        have hKx := HD.out.val hat
        have hpx := HMK.out.1.2 x c hKx
        have hcx := HMK.out.2.2 x c hKx
        obtain ⟨xn, rfl⟩ : ∃ xn : Nat, x = (xn : Int) := ⟨x.toNat, by omega⟩
        have hcf1 := Cf.ofGrown hg1
        have hF1 : Fl v1 b m (.slice (some ⟨g, 0, none⟩) (t + 1 + r) cap) last (appL KS q'.B left) MS := HFL.out.cf hcf1 (fun k hk e => by
          have := HLM2.out k hk
          have : W.heap.size = k := by injection e
          omega)
        have HSET := hidden (hF1.set xn (by omega) c hcx)
        rw [appL_step hKx] at HSET
        have hne1 : some w.heap.size ≠ some W.heap.size := by
          intro e
          injection e with e
          omega
        have hbox1 : v1.cell? ⟨w.heap.size, 0, none⟩ = some (pB b) := (World.cell?_of_block (hg1.block w.heap.size (cell_lt hboxr) hne1)).trans hboxr
        have HRG1 := hidden hrg1
        have HG1 := hidden hg1
        clear hrg1 hg1 hs1 hat hlx hKx
        gi_wp2_with (refine ⟨trivial, ?_⟩; gi_at_call 25; refine (CallsIn.inRound l (callsIn_wide.2 HSET.out)).mono ?_; rintro e u2 ⟨rfl, HU⟩)
        have HR2 := hidden (ranges_cf HRG1.out HU.out.2 hqb2 (by omega))
        have HC2 : Hid (Cf (fun k => k = b ∨ k = m) W u2) := hidden ((HCR.out.trans (Cf.ofGrown HG1.out) (fun k hk e => by
          have : W.heap.size = k := by injection e
          omega)).go HU.out.2)
        refine ⟨⟨_, cnt1, HR2, hidden HU.out.1, HC2⟩, ?_⟩
        rw [HR2.out.left_eq, HRG.out.left_eq]
        exact hltc
  case done =>
    rintro D xs W hD hS ⟨HI, HCW, hbox, hsz⟩ hK
    have hall := HALL.out
    rw [← hS, List.map_map] at hall
    have hall2 : stL (K, M) (xs.map (fun x => t + x.1.1)) = (K', M' ++ R.map clr) := hall
    rw [hall2] at HI
    simp only at HI
    clear hS hall hall2
    have HTK : Hid (Fl (W.setCell ⟨b, 1025, none⟩ (.slice (some ⟨g, 0, none⟩) (t + 1) cap)) b m (.slice (some ⟨g, 0, none⟩) (t + 1) cap) last K' M') := hidden (by
      have h1 : OwnM W (.slice (some ⟨g, 0, none⟩) (t + 1) cap) M' := by
        have h2 := HI.out.row.take (t + 1) (by rw [List.length_append, HML.out]; omega)
        rw [List.take_left' HML.out] at h2
        exact h2
      exact HI.out.putm (Cf.refl _ _) h1 (List.sublist_append_left _ _))
    have cm := HI.out.fs.cm
    have fm := HI.out.fs.fz 1025
    have HFB : Hid (∀ k, Fb b m (.slice (some ⟨g, 0, none⟩) (t + 1) cap) M' k → k < w.heap.size) := hidden (fun k hk => by
      have h1 := HLS.out ((dnL (1 + r) (1 + r)).map (t + ·)) k
      rw [HALL.out] at h1
      refine h1 ?_
      rcases hk with e | e | e | ⟨p, hp, e⟩
      · exact .inl e
      · exact .inr (.inl e)
      · exact .inr (.inr (.inl e))
      · exact .inr (.inr (.inr ⟨p, List.mem_append_left _ hp, e⟩)))
    have HCX : Hid (Cf Fq w (W.setCell ⟨b, 1025, none⟩ (.slice (some ⟨g, 0, none⟩) (t + 1) cap))) := hidden (HCW.out.go (Cf.setCell (F := Fq) W (p := ⟨b, 1025, none⟩) (by rw [← HFq.out]; exact .inl rfl) _))
    have HKD : Hid ((W.setCell ⟨b, 1025, none⟩ (.slice (some ⟨g, 0, none⟩) (t + 1) cap)).heap[D]? = some (.deferred (some []))) := hidden ((Below.heap_setCell _ _ _ _ (by simp only; omega)).trans hK)
    have HFIN : Hid (∀ X, X = (W.setCell ⟨b, 1025, none⟩ (.slice (some ⟨g, 0, none⟩) (t + 1) cap)).drew → X.heap[D]? = some (.deferred (some [])) ∧ Fl X b m (.slice (some ⟨g, 0, none⟩) (t + 1) cap) last K' M' ∧ Cf Fq w X) := hidden (by
      rintro X rfl
      exact ⟨HKD.out, HTK.out.drew 1, HCX.out.trans (Cf.drew Fq _ 1) (fun _ _ h => h)⟩)
    have HEND : Hid (∀ X, Fl X b m (.slice (some ⟨g, 0, none⟩) (t + 1) cap) last K' M' → Cf Fq w X → Fl (X.putObj D (.deferred none)) b m (.slice (some ⟨g, 0, none⟩) (t + 1) cap) last K' M' ∧ Cf Fq w (X.putObj D (.deferred none))) := hidden (by
      intro X h1 h2
      have hcD := Cf.ofGrown (grownBy_putObj' X D (.deferred none))
      refine ⟨h1.cf hcD (fun k hk e => by
        have := HFB.out k hk
        have : D = k := by injection e
        omega), h2.trans hcD (fun k hk e => by
        have : D = k := by injection e
        omega)⟩)
    clear HTK HKD HCX HI HCW
    by_cases hr0 : r = 0
    · subst hr0
      simp only [Nat.add_zero] at *
      by_cases hcp : cap = t + 1
      · subst hcp
        gi_wp2
        gi_region
        obtain ⟨X, hX⟩ : ∃ X, (W.setCell ⟨b, 1025, none⟩ (.slice (some ⟨g, 0, none⟩) (t + 1) (t + 1))).drew = X := ⟨_, rfl⟩
        obtain ⟨f1, f2, f3⟩ := HFIN.out X hX.symm
        rw [hX]
        have HF2 := hidden (HEND.out X f2 f3)
        have hclr := clear_none (some ⟨g, 0, none⟩) 0 0 X
        clear HFIN f2 f3
        gi_wp2
        refine ⟨by simp, .inl ⟨_, _, rfl, run_takeDeferred f1, ?_⟩⟩
        exact ⟨_, results_tmp rfl _ _ _, rfl, hidden ⟨_, rfl, HF2.out⟩⟩
      · have hlt1 : t + 1 < cap := by omega
        have hlt2 : (t : Int) + 1 < (cap : Int) := by omega
        have hne2 : ¬ cap - (t + 1) = 0 := by omega
        gi_wp2
        gi_region
        obtain ⟨X, hX⟩ : ∃ X, (W.setCell ⟨b, 1025, none⟩ (.slice (some ⟨g, 0, none⟩) (t + 1) cap)).drew = X := ⟨_, rfl⟩
        obtain ⟨f1, f2, f3⟩ := HFIN.out X hX.symm
        rw [hX]
        have HF2 := hidden (HEND.out X f2 f3)
        have hclr := clear_none (some ⟨g, (t + 1) * 2, none⟩) (cap - (t + 1)) 0 X
        clear HFIN f2 f3
        gi_wp2
        refine ⟨by simp, .inl ⟨_, _, rfl, run_takeDeferred f1, ?_⟩⟩
        exact ⟨_, results_tmp rfl _ _ _, rfl, hidden ⟨_, rfl, HF2.out⟩⟩
    · have hlt1 : t + 1 < cap := by omega
      have hlt2 : (t : Int) + 1 < (cap : Int) := by omega
      have hne2 : ¬ cap - (t + 1) = 0 := by omega
      have hsub : t + 1 + r - (t + 1) = r := by omega
      gi_wp2
      gi_region
      obtain ⟨X, hX⟩ : ∃ X, (W.setCell ⟨b, 1025, none⟩ (.slice (some ⟨g, 0, none⟩) (t + 1) cap)).drew = X := ⟨_, rfl⟩
      obtain ⟨f1, f2, f3⟩ := HFIN.out X hX.symm
      rw [hX]
      obtain ⟨Y, hclr, ho', hc'⟩ := run_clear_m (c := cap - (t + 1)) (n := r) f2.row HML.out (by omega) (by omega) 0
      have f1Y : Y.heap[D]? = some (.deferred (some [])) := (hc'.block D (lt_some f1) (by omega)).trans f1
      have HF2 := hidden (HEND.out Y (f2.turn (hc'.wd (fun y hy => by rw [hy]; rfl)) ho') (f3.go (hc'.wd (fun y hy => by rw [← HFq.out, hy]; exact .inr (.inr (.inl rfl))))))
      clear HFIN f2 f3 ho' hc'
      gi_wp2
      refine ⟨by simp, .inl ⟨_, _, rfl, run_takeDeferred f1Y, ?_⟩⟩
      exact ⟨_, results_tmp rfl _ _ _, rfl, hidden ⟨.slice (some ⟨g, 0, none⟩) (t + 1) cap, rfl, HF2.out⟩⟩
  case stop =>
    rintro D c pre W _ _ h _
    exact h.elim
end Go.Proofs.YtedgpcckbdnijaaDoor

/- One call of a list, as the law act makes it; what it does to what the marks know. -/

namespace Go.Proofs.YtedgpcckbdnijaaDoor
open Go.RowKit Go.Maps

/-- The least free page. -/
def lsP (K : Int → Option Int) : Option Nat := (List.range 65536).find? (fun p => decide (K (p : Int) = some 0))
set_option maxRecDepth 100000 in
theorem lsP_some {K : Int → Option Int} {p : Nat} (h : Lst K p) (hp : p < 65536) : lsP K = some p := by
  unfold lsP
  rw [List.find?_range_eq_some]
  refine ⟨by simp [h.1], by simpa using hp, fun j hj => ?_⟩
  have := h.2 j hj
  simp [this]
set_option maxRecDepth 100000 in
theorem lsP_none {K : Int → Option Int} (h : ∀ x, K x ≠ some 0) : lsP K = none := by
  unfold lsP
  rw [List.find?_eq_none]
  intro x _
  simp [h (x : Int)]
def actR (K : Int → Option Int) (kd A B : Int) : Int := if kd = 1 then (match lsP K with | some p => (p : Int) | none => -1) else if kd = 2 then giveE K A B else if kd = 3 then ((kL K (dueF A)).length : Int) else 0
def actK (K : Int → Option Int) (kd A B : Int) : Int → Option Int := if kd = 1 then (match lsP K with | some p => setK K p (-1) | none => K) else if kd = 2 then (if giveE K A B = 0 then setK K A B else K) else if kd = 3 then relK K A else K
def actM (K : Int → Option Int) (M : List Mq) (kd A B : Int) : List Mq := if kd = 1 then (match lsP K with | some p => noteM K p M | none => M) else if kd = 2 then (if giveE K A B = 0 then noteM K A M else M) else if kd = 3 then (relS (kL K (dueF A)) (K, M)).2 else M
set_option maxRecDepth 100000 in
theorem noteM_nb (K : Int → Option Int) (k : Int) : ∀ M : List Mq, (noteM K k M).map nb = M.map nb
  | [] => rfl
  | [q] => rfl
  | q :: r :: M => by
    have := noteM_nb K k (r :: M)
    unfold noteM
    rw [List.map_cons, this]
    rfl
set_option maxRecDepth 100000 in
theorem relS_nb : ∀ (l : List Int) (s : (Int → Option Int) × List Mq), (relS l s).2.map nb = s.2.map nb
  | [], _ => rfl
  | p :: l, s => by
    unfold relS
    rw [relS_nb l]
    exact noteM_nb _ _ _
set_option maxRecDepth 100000 in
theorem actM_nb (K : Int → Option Int) (M : List Mq) (kd A B : Int) : (actM K M kd A B).map nb = M.map nb := by
  unfold actM
  split
  · split
    · exact noteM_nb _ _ _
    · rfl
  · split
    · split
      · exact noteM_nb _ _ _
      · rfl
    · split
      · exact relS_nb _ _
      · rfl
set_option maxRecDepth 100000 in
theorem vals_set {K : Int → Option Int} (h : Vals K) (p s : Int) (hs : -1 ≤ s ∧ s ≤ 1099511627776) : Vals (setK K p s) := by
  intro x f hx
  unfold setK delK putK at hx
  by_cases e2 : s = -1
  · rw [if_pos e2] at hx
    by_cases e : x = p
    · simp [e] at hx
    · simp only [if_neg e] at hx; exact h x f hx
  · rw [if_neg e2] at hx
    by_cases e : x = p
    · simp [e] at hx; omega
    · simp only [if_neg e] at hx; exact h x f hx
set_option maxRecDepth 100000 in
theorem nb_ne {M M' : List Mq} (h : M.map nb = M'.map nb) (hn : M' ≠ []) : M ≠ [] := by
  rintro rfl
  exact hn (by simpa using h.symm)
set_option maxRecDepth 100000 in
theorem undo_rel : ∀ (l : List Int) (K : Int → Option Int) (M : List Mq), Vals K → M ≠ [] → undo (relS l (K, M)).2 (relS l (K, M)).1 = undo M K
  | [], _, _, _, _ => rfl
  | p :: l, K, M, h, hM => by
    unfold relS
    rw [undo_rel l _ _ (vals_set h p 0 (by decide)) (nb_ne (noteM_nb _ _ _) hM)]
    exact undo_note h p 0 hM
set_option maxRecDepth 100000 in
theorem undo_act {K : Int → Option Int} {M : List Mq} (hK : Vals K) (hP : Pgs K) (hM : M ≠ []) (kd A B : Int) : undo (actM K M kd A B) (actK K kd A B) = undo M K := by
  unfold actM actK
  by_cases h1 : kd = 1
  · rw [if_pos h1, if_pos h1]
    cases lsP K with
    | none => rfl
    | some p => exact undo_note hK p (-1) hM
  · rw [if_neg h1, if_neg h1]
    by_cases h2 : kd = 2
    · rw [if_pos h2, if_pos h2]
      by_cases h3 : giveE K A B = 0
      · rw [if_pos h3, if_pos h3]; exact undo_note hK A B hM
      · rw [if_neg h3, if_neg h3]
    · rw [if_neg h2, if_neg h2]
      by_cases h3 : kd = 3
      · rw [if_pos h3, if_pos h3, ← relS_K hP A M]
        exact undo_rel _ K M hK hM
      · rw [if_neg h3, if_neg h3]
set_option maxRecDepth 100000 in
theorem actM_nil (K : Int → Option Int) (kd A B : Int) : actM K [] kd A B = [] := by
  have := actM_nb K [] kd A B
  simpa using this
set_option maxRecDepth 100000 in
theorem act2 (K : Int → Option Int) (M : List Mq) (A B : Int) : actR K 2 A B = giveE K A B ∧ actK K 2 A B = (if giveE K A B = 0 then setK K A B else K) ∧ actM K M 2 A B = if giveE K A B = 0 then noteM K A M else M := by
  unfold actR actK actM
  have h : ¬ (2 : Int) = 1 := by decide
  rw [if_neg h, if_neg h, if_neg h, if_pos rfl, if_pos rfl, if_pos rfl]
  exact ⟨rfl, rfl, rfl⟩
set_option maxRecDepth 100000 in
theorem act3 (K : Int → Option Int) (M : List Mq) (A B : Int) : actR K 3 A B = ((kL K (dueF A)).length : Int) ∧ actK K 3 A B = relK K A ∧ actM K M 3 A B = (relS (kL K (dueF A)) (K, M)).2 := by
  unfold actR actK actM
  have h : ¬ (3 : Int) = 1 := by decide
  have h2 : ¬ (3 : Int) = 2 := by decide
  rw [if_neg h, if_neg h, if_neg h, if_neg h2, if_neg h2, if_neg h2, if_pos rfl, if_pos rfl, if_pos rfl]
  exact ⟨rfl, rfl, rfl⟩
def AcTo (w : World) (b m : Nat) (mv : Value) (last : Int) (K : Int → Option Int) (M : List Mq) (kd A B : Int) (u : World) : Prop := Fl u b m mv last (actK K kd A B) (actM K M kd A B) ∧ Cf (Fb b m mv M) w u
set_option maxRecDepth 100000 in
theorem AcTo.none {w u : World} {b m : Nat} {mv : Value} {last : Int} {K : Int → Option Int} {M : List Mq} {kd A B : Int} (h : Fl w b m mv last K M) (hu : Below w.heap.size w u) (h1 : kd ≠ 1) (h2 : kd ≠ 2) (h3 : kd ≠ 3) : AcTo w b m mv last K M kd A B u := by
  unfold AcTo actK actM
  rw [if_neg h1, if_neg h1, if_neg h2, if_neg h2, if_neg h3, if_neg h3]
  exact ⟨h.on hu, Cf.of_below hu⟩
set_option maxRecDepth 100000 in
set_option maxHeartbeats 2000000 in
theorem act_any {w : World} {b m : Nat} {mv : Value} {last : Int} {K : Int → Option Int} {M : List Mq} (h : Fl w b m mv last K M) (hT : Tz w) (kd A B : Int) (h7 : kd ≠ 7) :
    Calls Tryd.prog 10 #[pB b, .agg #[.int .i64 kd, .int .i64 A, .int .i64 B]] w fun e u => e = .returned (.int .i64 (actR K kd A B)) ∧ Hid (AcTo w b m mv last K M kd A B u) := by
  obtain ⟨x, hx⟩ : ∃ x, w.alloc (.cells #[.int .i64 kd, .int .i64 A, .int .i64 B] 38) = x := ⟨_, rfl⟩
  have hbx : Below w.heap.size w x := by rw [← hx]; exact bl_al (Below.refl _ _) (Nat.le_refl _) _
  have HX := hidden (h.on hbx)
  have HBX := hidden hbx
  have HW := hidden h
  have HCB : Hid (∀ u, Cf (Fb b m mv M) x u → Cf (Fb b m mv M) w u) := hidden (fun u hu => (Cf.of_below HBX.out).go hu)
  have hob : x.heap[w.heap.size]? = some (.cells #[.int .i64 kd, .int .i64 A, .int .i64 B] 38 (0, 0)) := by rw [← hx]; exact al_row _ _
  have k0 : x.cell? ⟨w.heap.size, 0, none⟩ = some (.int .i64 kd) := by unfold World.cell?; rw [hob]; rfl
  have k1 : x.cell? ⟨w.heap.size, 1, none⟩ = some (.int .i64 A) := by unfold World.cell?; rw [hob]; rfl
  have k2 : x.cell? ⟨w.heap.size, 2, none⟩ = some (.int .i64 B) := by unfold World.cell?; rw [hob]; rfl
  have HTX : Hid (Tz x) := hidden (fun j hj => (hbx.cell (p := ⟨0, j, none⟩) (World.block_lt_of_cell? w _ (hT j hj))).trans (hT j hj))
  clear h hT hbx hob
  by_cases h1 : kd = 1
  · subst h1
    have HK := hidden (take_any HX.out HTX.out)
    go_enter Tryd.func10, Tryd.ntmps10
    go_wp2_with (go_at_call 16; refine HK.out.mono ?_; rintro e u ⟨p, ok, rfl, HU⟩; refine Hid.out ?_)
    apply hidden
    cases ok with
    | true =>
      obtain ⟨hl, hf, hc⟩ : Lst K p ∧ Fl u b m mv last (setK K p (-1)) (noteM K p M) ∧ Cf (Fb b m mv M) x u := by
        rcases HU.out with ⟨_, a1, a2, a3⟩ | ⟨e, _⟩
        · exact ⟨a1, a2, a3⟩
        · cases e
      have hp := HW.out.fs.kept.2 _ _ hl.1
      have e1 := lsP_some hl (by omega)
      have HF : Hid (AcTo w b m mv last K M 1 A B u) := hidden (by
        unfold AcTo actK actM
        rw [e1, if_pos rfl, if_pos rfl]
        exact ⟨hf, HCB.out u hc⟩)
      have HR : Hid (actR K 1 A B = (p : Int)) := hidden (by unfold actR; rw [e1, if_pos rfl])
      clear hl hf hc hp e1 HU
      go_wp2_with fail
      go_ret
      exact ⟨by rw [HR.out]; rfl, HF⟩
    | false =>
      obtain ⟨rfl, hl, rfl⟩ : p = 0 ∧ (∀ x, K x ≠ some 0) ∧ u = x := by
        rcases HU.out with ⟨e, _⟩ | ⟨_, a1, a2, a3⟩
        · cases e
        · exact ⟨a1, a2, a3⟩
      have e1 := lsP_none hl
      have HF : Hid (AcTo w b m mv last K M 1 A B u) := hidden (by
        unfold AcTo actK actM
        rw [e1, if_pos rfl, if_pos rfl]
        exact ⟨HX.out, Cf.of_below HBX.out⟩)
      have HR : Hid (actR K 1 A B = -1) := hidden (by unfold actR; rw [e1, if_pos rfl])
      clear hl e1 HU
      go_wp2_with fail
      go_ret
      exact ⟨by rw [HR.out]; rfl, HF⟩
  have hk1 : (kd == 1) = false := by rw [beq_eq_false_iff_ne]; exact h1
  by_cases h2 : kd = 2
  · subst h2
    have HK := hidden (give_any HX.out A B)
    have HR : Hid (actR K 2 A B = giveE K A B) := hidden (act2 K M A B).1
    rw [HR.out]
    have HF : Hid (∀ u, ((giveE K A B = 0 ∧ Fl u b m mv last (setK K A B) (noteM K A M) ∧ Cf (Fb b m mv M) x u) ∨ (giveE K A B ≠ 0 ∧ u = x)) → AcTo w b m mv last K M 2 A B u) := hidden (fun u hu => by
      unfold AcTo
      rw [(act2 K M A B).2.1, (act2 K M A B).2.2]
      rcases hu with ⟨e, a1, a2⟩ | ⟨e, rfl⟩
      · rw [if_pos e, if_pos e]; exact ⟨a1, HCB.out u a2⟩
      · rw [if_neg e, if_neg e]; exact ⟨HX.out, Cf.of_below HBX.out⟩)
    generalize giveE K A B = ge at *
    go_enter Tryd.func10, Tryd.ntmps10
    go_wp2_with (go_at_call 17; refine HK.out.mono ?_; rintro e u ⟨rfl, HU⟩)
    go_ret
    exact ⟨rfl, hidden (HF.out u HU.out)⟩
  have hk2 : (kd == 2) = false := by rw [beq_eq_false_iff_ne]; exact h2
  by_cases h3 : kd = 3
  · subst h3
    have HK := hidden (release_any HX.out A)
    have HR : Hid (actR K 3 A B = ((kL K (dueF A)).length : Int)) := hidden (act3 K M A B).1
    rw [HR.out]
    have HF : Hid (∀ u, (Fl u b m mv last (relK K A) (relS (kL K (dueF A)) (K, M)).2 ∧ Cf (Fb b m mv M) x u) → AcTo w b m mv last K M 3 A B u) := hidden (fun u hu => by
      unfold AcTo
      rw [(act3 K M A B).2.1, (act3 K M A B).2.2]
      exact ⟨hu.1, HCB.out u hu.2⟩)
    generalize (kL K (dueF A)).length = ge at *
    go_enter Tryd.func10, Tryd.ntmps10
    go_wp2_with (go_at_call 18; refine HK.out.mono ?_; rintro e u ⟨rfl, HU⟩)
    go_ret
    exact ⟨rfl, hidden (HF.out u HU.out)⟩
  have hk3 : (kd == 3) = false := by rw [beq_eq_false_iff_ne]; exact h3
  have hk7 : (kd == 7) = false := by rw [beq_eq_false_iff_ne]; exact h7
  have HR : Hid (actR K kd A B = 0) := hidden (by unfold actR; rw [if_neg h1, if_neg h2, if_neg h3])
  rw [HR.out]
  have HF := hidden (AcTo.none (A := A) (B := B) HW.out HBX.out h1 h2 h3)
  clear h1 h2 h3 h7
  go_enter Tryd.func10, Tryd.ntmps10
  go_wp2_with fail
  go_ret
  exact ⟨rfl, HF⟩
end Go.Proofs.YtedgpcckbdnijaaDoor

/- The law's act at a Mark; Back at a mark that is none. -/

namespace Go.Proofs.YtedgpcckbdnijaaDoor
open Go.RowKit Go.Maps Go.Shelf

def MkTo (w : World) (b m : Nat) (mv : Value) (last : Int) (K : Int → Option Int) (M : List Mq) (r : Nat) (u : World) : Prop := ∃ mv' bq, Fl u b m mv' (last + 1) K (M.drop r ++ [⟨last + 1, bq, fun _ => none⟩]) ∧ Cf (Fb b m mv M) w u ∧ w.heap.size ≤ bq ∧ (∀ k, mv'.ownBlock = some k → mv.ownBlock = some k ∨ w.heap.size ≤ k)
set_option maxRecDepth 100000 in
set_option maxHeartbeats 2000000 in
theorem act_mark {w : World} {b m : Nat} {mv : Value} {last : Int} {K : Int → Option Int} {M : List Mq} (h : Fl w b m mv last K M) (A B : Int) (hn : Nums last M) (hl : last < 4611686018427387904) (r : Nat) (hr : r ≤ M.length) (ho : ∀ (i : Nat) (q : Mq), i < r → M[i]? = some q → 16 ≤ last + 1 - q.n) (hy : ∀ (i : Nat) (q : Mq), r ≤ i → M[i]? = some q → last + 1 - q.n < 16) (hM : M.length ≤ 1000) :
    Calls Tryd.prog 10 #[pB b, .agg #[.int .i64 7, .int .i64 A, .int .i64 B]] w fun e u => e = .returned (.int .i64 (last + 1)) ∧ Hid (MkTo w b m mv last K M r u) := by
  obtain ⟨x, hx⟩ : ∃ x, w.alloc (.cells #[.int .i64 7, .int .i64 A, .int .i64 B] 38) = x := ⟨_, rfl⟩
  have hbx : Below w.heap.size w x := by rw [← hx]; exact bl_al (Below.refl _ _) (Nat.le_refl _) _
  have hob : x.heap[w.heap.size]? = some (.cells #[.int .i64 7, .int .i64 A, .int .i64 B] 38 (0, 0)) := by rw [← hx]; exact al_row _ _
  have k0 : x.cell? ⟨w.heap.size, 0, none⟩ = some (.int .i64 7) := by unfold World.cell?; rw [hob]; rfl
  have HK := hidden (mark_any (h.on hbx) hn hl r hr ho hy hM)
  have HF : Hid (∀ u, (∃ mv' bq, Fl u b m mv' (last + 1) K (M.drop r ++ [⟨last + 1, bq, fun _ => none⟩]) ∧ Cf (Fb b m mv M) x u ∧ x.heap.size ≤ bq ∧ (∀ k, mv'.ownBlock = some k → mv.ownBlock = some k ∨ x.heap.size ≤ k)) → MkTo w b m mv last K M r u) := hidden (fun u hu => by
    obtain ⟨mv', bq, a1, a2, a3, a4⟩ := hu
    exact ⟨mv', bq, a1, (Cf.of_below hbx).go a2, Nat.le_trans hbx.size a3, fun k hk => (a4 k hk).imp id (fun e => Nat.le_trans hbx.size e)⟩)
  clear h hbx hob hn ho hy
  go_enter Tryd.func10, Tryd.ntmps10
  go_wp2_with (go_at_call 11; refine HK.out.mono ?_; rintro e u ⟨rfl, HU⟩)
  go_ret
  exact ⟨rfl, hidden (HF.out u HU.out)⟩
attribute [local go_sem] Oper.semAt_some
set_option maxRecDepth 100000 in
set_option maxHeartbeats 2000000 in
theorem back_no {w : World} {b m : Nat} {mv : Value} {last : Int} {K : Int → Option Int} {M : List Mq} (h : Fl w b m mv last K M) (z : Int) (hE : fdI (fun q' => q'.n == z) M = -1) :
    Calls Tryd.prog 12 #[pB b, .int .i64 z] w fun e u => e = .returned (.int .i64 1) ∧ Hid (Below w.heap.size w u) := by
  obtain ⟨x, hx⟩ : ∃ x, w.alloc (.cells #[pB b] 25) = x := ⟨_, rfl⟩
  have hbx : Below w.heap.size w x := by rw [← hx]; exact bl_al (Below.refl _ _) (Nat.le_refl _) _
  have hcx : x.cell? ⟨w.heap.size, 0, none⟩ = some (pB b) := by rw [← hx]; simp
  have HBX := hidden hbx
  have HFD := hidden (find_any (h.on hbx) z)
  rw [hE] at HFD
  have e0 : decide (0 ≤ (-1 : Int)) = false := by decide
  rw [e0] at HFD
  clear h hE hbx e0
  refine (callsIn_wide (n := 10)).1 ?_
  refine callsIn_of_wp_marks Tryd.func12 rfl trivial ?_ rfl
  simp only [Tryd.ntmps12, List.size_toArray, List.length_cons, List.length_nil, Nat.reduceAdd, Nat.reduceSub, Array.replicate_succ, Array.replicate_zero, List.push_toArray, List.append_toArray, List.nil_append, List.cons_append]
  gi_wp2_with (refine ⟨trivial, ?_⟩; gi_at_call 39; refine (callsIn_wide.2 HFD.out).mono ?_; rintro e w2 ⟨rfl, HB2⟩)
  exact ⟨_, results_tmp rfl _ _ _, rfl, hidden (HBX.out.trans (HB2.out.mono HBX.out.size))⟩
end Go.Proofs.YtedgpcckbdnijaaDoor
