/- Back, followed as its text goes. -/
import Derived.Test.YtedgpcckbdnijaaDoorUp
namespace Go.Proofs.YtedgpcckbdnijaaDoor
open Go.RowKit Go.Maps Go.Shelf

attribute [local go_sem] Oper.semAt_some

set_option maxRecDepth 100000 in
set_option maxHeartbeats 2000000 in
theorem back_at {w : World} {b m : Nat} {mv : Value} {last : Int} {K : Int → Option Int} {N : List Mq} {q : Mq} (h : Fl w b m mv last K (N ++ [q])) (hN : ∀ x ∈ N, x.n ≠ q.n) :
    Calls Tryd.prog 12 #[pB b, .int .i64 q.n] w fun e u => e = .returned (.int .i64 0) ∧ Hid (Fl u b m mv last (appB K q.B) (N ++ [{ q with B := fun _ => none }]) ∧ Cf (Fb b m mv (N ++ [q])) w u) := by
  obtain ⟨t, ht⟩ : ∃ t, N.length = t := ⟨_, rfl⟩
  have hln : (N ++ [q]).length = t + 1 := by rw [List.length_append, ht]; rfl
  obtain ⟨ao, cap, rfl, hsh⟩ := h.row.shape
  rw [hln] at h hsh ⊢
  obtain ⟨g, rfl, hcap, hmx, hc⟩ : ∃ g, ao = some ⟨g, 0, none⟩ ∧ t + 1 ≤ cap ∧ cap ≤ maxLen ∧ ∀ (i : Nat) (q' : Mq), (N ++ [q])[i]? = some q' → w.cell? ⟨g, i * 2, none⟩ = some (.int .i64 q'.n) ∧ w.cell? ⟨g, i * 2 + 1, none⟩ = some (.map (some q'.b)) := by
    rcases hsh with h1 | h1
    · omega
    · exact h1
  have hcI : (cap : Int) ≤ 9223372036854775807 := by unfold maxLen at hmx; omega
  have htI : (t : Int) + 1 ≤ (cap : Int) := by omega
  have hE : fdI (fun q' => q'.n == q.n) (N ++ [q]) = (N.length : Int) := fdI_some (q := q) (by rw [List.getElem?_append_right (Nat.le_refl _)]; simp) (by simp) (fun j y hj hy => by
    rw [List.getElem?_append_left hj] at hy
    have := hN y (List.mem_of_getElem? hy)
    simpa using this)
  obtain ⟨M', hM'⟩ : ∃ M', N ++ [{ q with B := fun _ => none }] = M' := ⟨_, rfl⟩
  obtain ⟨K', hK'⟩ : ∃ K', appB K q.B = K' := ⟨_, rfl⟩
  obtain ⟨M, hM⟩ : ∃ M, N ++ [q] = M := ⟨_, rfl⟩
  obtain ⟨Fq, hFq⟩ : ∃ F : Nat → Prop, Fb b m (.slice (some ⟨g, 0, none⟩) (t + 1) cap) M = F := ⟨_, rfl⟩
  have HM' := hidden hM'
  have HK' := hidden hK'
  have HM := hidden hM
  have HFq := hidden hFq
  rw [hM] at h hc hE
  rw [hM', hK', hM, hFq]
  have HC := hidden hc
  have HQ : Hid (M[t]? = some q) := hidden (by rw [← hM, ← ht, List.getElem?_append_right (Nat.le_refl _)]; simp)
  have HLM : Hid (t + 1 = M.length) := hidden (by rw [← hM, hln])
  obtain ⟨x, hx⟩ : ∃ x, w.alloc (.cells #[pB b] 25) = x := ⟨_, rfl⟩
  have hbx : Below w.heap.size w x := by rw [← hx]; exact bl_al (Below.refl _ _) (Nat.le_refl _) _
  have hcx : x.cell? ⟨w.heap.size, 0, none⟩ = some (pB b) := by rw [← hx]; simp
  have hxs : x.heap.size = w.heap.size + 1 := by rw [← hx]; simp
  have HX := hidden (h.on hbx)
  have HBX := hidden hbx
  have HFD := hidden (find_any HX.out q.n)
  have HW := hidden h
  rw [hE, ht] at HFD
  have e0 : decide (0 ≤ (t : Int)) = true := by simp
  rw [e0] at HFD
  generalize hqn : q.n = qn at *
  have HQN := hidden hqn
  clear hsh hcap hmx hc hE hM' hK' hM hFq hln ht hN h hbx e0 hqn
  refine (callsIn_wide (n := 10)).1 ?_
  refine callsIn_of_wp_marks Tryd.func12 rfl trivial ?_ rfl
  simp only [Tryd.ntmps12, List.size_toArray, List.length_cons, List.length_nil, Nat.reduceAdd, Nat.reduceSub, Array.replicate_succ, Array.replicate_zero, List.push_toArray, List.append_toArray, List.nil_append, List.cons_append]
  gi_wp2_with (refine ⟨trivial, ?_⟩; gi_at_call 39; refine (callsIn_wide.2 HFD.out).mono ?_; rintro e w2 ⟨rfl, HB2⟩; refine Hid.out ?_)
  apply hidden
  have hc2 : w2.cell? ⟨w.heap.size, 0, none⟩ = some (pB b) := (HB2.out.cell (p := ⟨w.heap.size, 0, none⟩) (by rw [hxs]; exact Nat.lt_succ_self _)).trans hcx
  have H2 := hidden (HX.out.on HB2.out)
  have HBW : Hid (Below w.heap.size w w2) := hidden (HBX.out.trans (HB2.out.mono HBX.out.size))
  have hs2 : w.heap.size < w2.heap.size := by have := HB2.out.size; omega
  have cm := H2.out.fs.cm
  clear hcx hxs hx HX HFD HB2 HBX
  gi_wp2_with (refine ⟨trivial, ?_⟩; gi_at_call 40; refine (callsIn_wide.2 (back_made _ _ _ _)).mono ?_; rintro e w3 ⟨rfl, hw3⟩; refine Hid.out ?_)
  apply hidden
  rw [← hw3]
  have HW3 := hidden hw3
  clear cm hw3
  have hs3 : w3.heap.size = w2.heap.size + 1 := by rw [HW3.out]; simp
  have HB3 : Hid (Below w2.heap.size w2 w3) := hidden (by rw [HW3.out]; exact bl_al (Below.refl _ _) (Nat.le_refl _) _)
  have H3 := hidden (H2.out.on HB3.out)
  have hBs : w3.cell? ⟨w2.heap.size, 0, none⟩ = some (.slice (some ⟨g, t * 2, none⟩) 1 (cap - t)) := by rw [HW3.out]; simp
  have hc3 : w3.cell? ⟨w.heap.size, 0, none⟩ = some (pB b) := (HB3.out.cell (p := ⟨w.heap.size, 0, none⟩) hs2).trans hc2
  have HBW3 : Hid (Below w.heap.size w w3) := hidden (HBW.out.trans (HB3.out.mono HBW.out.size))
  have HLT : Hid (∀ k, Fb b m (.slice (some ⟨g, 0, none⟩) (t + 1) cap) M k → k < w.heap.size) := hidden (fun k hk => HW.out.lts hk)
  have HLT' : Hid (∀ k, Fb b m (.slice (some ⟨g, 0, none⟩) (t + 1) cap) M' k → k < w.heap.size) := hidden (fun k hk => HLT.out k (by
    rw [← HM'.out] at hk
    rw [← HM.out]
    rcases hk with h1 | h1 | h1 | ⟨q', hq', h1⟩
    · exact .inl h1
    · exact .inr (.inl h1)
    · exact .inr (.inr (.inl h1))
    · rcases List.mem_append.1 hq' with h2 | h2
      · exact .inr (.inr (.inr ⟨q', List.mem_append_left _ h2, h1⟩))
      · simp only [List.mem_singleton] at h2
        subst h2
        exact .inr (.inr (.inr ⟨q, by simp, h1⟩))))
  have hbl := HLT.out b (.inl rfl)
  have hml := HLT.out m (.inr (.inl rfl))
  have hgl := HLT.out g (.inr (.inr (.inl rfl)))
  have hqM : q ∈ M := List.mem_of_getElem? HQ.out
  have hql := HLT.out q.b (.inr (.inr (.inr ⟨q, hqM, rfl⟩)))
  obtain ⟨Fk, hFk⟩ : ∃ F : Nat → Prop, F = fun k => k = b ∨ k = m ∨ k = q.b ∨ w3.heap.size ≤ k := ⟨_, rfl⟩
  have HFk := hidden hFk
  have hng : ¬ Fk g := by
    rw [hFk]
    obtain ⟨n1, n2, n3⟩ := mk_ne HW.out
    rintro (e | e | e | e)
    · exact n1 (by rw [← e]; rfl)
    · exact n2 (by rw [← e]; rfl)
    · exact (n3 q hqM).1 (by rw [← e]; rfl)
    · omega
  have hnB : ¬ Fk w2.heap.size := by
    rw [hFk]
    rintro (e | e | e | e) <;> omega
  have HSEQ : Hid (SeqStopsK Fence.wide 9 Tryd.prog 62 #[.pointer (some ⟨w2.heap.size, 0, none⟩)] (miV M t) (Cf Fk) (fun ys => ys.length = 1) (fun _ => True) 1 w3) := hidden (fun l J Jx W hW _ _ hY h0 => by
    refine (back1_in l w2.heap.size g (cap - t) 1 t M HLM.out (by have := HLM.out; omega) (Cf Fk) (fun A B hk hA1 hA2 => ⟨World.cell?_of_block (hk.block _ hA1 hnB), fun i => World.cell?_of_block (hk.block _ hA2 hng)⟩) J Jx hY W ((hW.cell (p := ⟨w2.heap.size, 0, none⟩) (by rw [hs3]; exact Nat.lt_succ_self _)).trans hBs) (fun i q' hq' => ?_) h0).mono ?_
    · obtain ⟨d1, d2⟩ := HC.out i q' hq'
      have hgW : Below w.heap.size w W := HBW3.out.trans (hW.mono HBW3.out.size)
      exact ⟨(hgW.cell (p := ⟨g, i * 2, none⟩) hgl).trans d1, (hgW.cell (p := ⟨g, i * 2 + 1, none⟩) hgl).trans d2⟩
    · rintro e W' ⟨he, ⟨ys, hys, hj⟩ | hx⟩
      · exact ⟨he, .inl ⟨ys, by have := congrArg List.length hys; simpa [dnL] using this, hj⟩⟩
      · exact ⟨he, .inr hx⟩)
  gi_wp2
  refine wpIn_rangeFunc_ownH (α := Mi M t) rfl (by decide : 1 ≤ 10) (gf := 62) (lb := #[.pointer (some ⟨w2.heap.size, 0, none⟩)]) rfl trivial (enters_of Tryd.func62 (by kernel_rfl) rfl)
    (encs := miV M t) (Kp := Cf Fk) (S := fun ys => ys.length = 1) (Sp := fun _ => True) (N := 1) (w0 := w3) HSEQ.out (fun h k => h.go k) (fun W l o o' hl ho _ _ => ?hKb) (Below.refl _ _) (fun _ => rfl)
    (fun pre W => Hid (Fl W b m (.slice (some ⟨g, 0, none⟩) (t + 1) cap) last (if pre.length = 0 then K else K') (if pre.length = 0 then M else M')) ∧ Hid (Cf Fq w W) ∧ W.cell? ⟨w.heap.size, 0, none⟩ = some (pB b) ∧ w3.heap.size ≤ W.heap.size)
    (fun _ _ _ => False) ?hI (fun _ _ _ _ _ h _ _ => h) ?h0
    (fun x a' W => ∃ Bx, w3.heap.size ≤ Bx ∧ W.heap[Bx]? = some (.cells #[.int .i64 x.1.2.n, .map (some x.1.2.b)] 74 (0, 0)) ∧ a' = { tmps := #[pB b, .int .i64 qn, .pointer (some ⟨w.heap.size, 0, none⟩), undef, .int .i64 0, .int .i64 (t : Int), .bool true, undef, .pointer (some ⟨Bx, 0, none⟩), undef, undef, undef, .tuple #[.int .i64 (t : Int), .bool true], pB b, .int .i64 qn, .tuple #[.int .i64 (t : Int), .bool true], .int .i64 (t : Int), .bool true, .bool true, .bool false, pB b, .pointer (some ⟨b, 0, none⟩), .pointer (some ⟨b, 1025, none⟩), .slice (some ⟨g, 0, none⟩) (t + 1) cap, .int .i64 (t : Int), .slice (some ⟨g, t * 2, none⟩) 1 (cap - t), .func (.func 62) #[] #[.pointer (some ⟨w2.heap.size, 0, none⟩)], .int .i64 (x.1.1 : Int), .agg #[.int .i64 x.1.2.n, .map (some x.1.2.b)], undef, undef, undef, undef, undef, undef, undef, undef, undef, undef, undef, undef, undef, undef, undef, undef, undef, undef, undef, undef, undef, undef, undef, undef, undef, undef, undef, undef, undef, undef, undef, undef], defers := [] })
    ?hAx ?assign ?body ?done ?stop
  case hKb =>
    refine (Cf.ofGrown (grownBy_putObj' W l o')).wd (fun k hk => ?_)
    cases hk
    rw [HFk.out]
    exact .inr (.inr (.inr hl))
  case hI =>
    intro pre A B row hs hg hr
    have hcf := Cf.ofGrown hg
    refine ⟨hidden (hs.1.out.cf hcf (fun k hk e => ?_)), hidden (hs.2.1.out.trans hcf (fun k hk e => ?_)), ?_, Nat.le_trans hs.2.2.2 hg.size⟩
    · have h1 := (hr k e).1
      by_cases e0 : pre.length = 0
      · rw [if_pos e0] at hk
        have := HLT.out k hk
        omega
      · rw [if_neg e0] at hk
        have := HLT'.out k hk
        omega
    · have h1 := (hr k e).1
      omega
    · have h1 := cell_lt hs.2.2.1
      rw [← hs.2.2.1]
      exact World.cell?_of_block (hg.block w.heap.size h1 (fun e => by have := (hr _ e.symm).1; omega))
  case h0 => exact ⟨by simpa using H3, hidden (Cf.of_below HBW3.out), hc3, Nat.le_refl _⟩
  case hAx =>
    rintro x a' _ A B row ⟨Bx, h1, h2, h3⟩ hg hr
    refine ⟨Bx, h1, ?_, h3⟩
    rw [hg.block Bx (lt_some h2) (fun e => ?_)]
    · exact h2
    · obtain ⟨_, o, ho, hc⟩ := hr _ e.symm
      rw [h2] at ho
      cases ho
      cases hc
  case assign =>
    rintro l pre x W K0 ⟨HI, HC', hbox, hsz⟩ hK
    unfold miV
    gi_wp2
    have hba : Below W.heap.size W (W.alloc (.cells #[.int .i64 x.1.2.n, .map (some x.1.2.b)] 74)) := bl_al (Below.refl _ _) (Nat.le_refl _) _
    exact hK _ _ ((KeepsOthers.alloc _ _).from _) (Cf.of_below hba) ⟨hidden (HI.out.on hba), hidden (HC'.out.trans (Cf.of_below (F := Fq) hba) (fun _ _ h => h)), (hba.cell (p := ⟨w.heap.size, 0, none⟩) (cell_lt hbox)).trans hbox, Nat.le_trans hsz hba.size⟩ ⟨W.heap.size, hsz, al_row W _, rfl⟩
  case body =>
    rintro l pre ⟨⟨i, q'⟩, hq'⟩ a' W hl ⟨r0, hr0⟩ ⟨HI, HCW, hbox, hsz⟩ ⟨Bx, hBx, hbx, rfl⟩ hlt
    obtain rfl : pre = [] := List.eq_nil_of_length_eq_zero (by omega)
    simp only at hq' hbx ⊢
    obtain rfl : i = 0 := by
      have h1 := (List.getElem?_eq_some_iff.1 hq').1
      have h2 := HLM.out
      omega
    obtain rfl : q' = q := by
      have h1 := HQ.out
      rw [Nat.add_zero] at hq'
      rw [hq'] at h1
      injection h1
    simp only [List.length_nil, if_true] at HI
    have hmk := (HI.out.maps _ hqM)
    obtain ⟨D, hown, hD, hszD⟩ := hmk.1.size
    have HD := hidden hD
    have HMK := hidden hmk
    have c1 : W.cell? ⟨Bx, 1, none⟩ = some (.map (some q'.b)) := by unfold World.cell?; rw [hbx]; rfl
    generalize hn : Maps.size D = n at *
    clear hD hmk hbx
    gi_wp2_with (first
      | (gi_at_range; refine wpListIn_range_own _ rfl _ 56 rfl 3 3 kI Tryd.underlying56 _ q'.b n _ rfl hown ?_; intro v0 hrg0 hg0 hs0)
      | gi_in)
    go_frame
    rw [hn] at hrg0
    have hb0 : Below W.heap.size W v0 := ⟨hg0.os, hg0.tape, hg0.output, hg0.size, fun k hk => hg0.block k hk (by simp)⟩
    have hBxl := cell_lt c1
    have hbxl := cell_lt hbox
    gi_loopw [9, 10] (fun _ _ wr => ∃ (left : Lit → Bool) (cnt : Nat), Hid (wr.ranges Tryd.prog 3 (plainElem Tryd.prog 3) q'.b W.heap.size n D left cnt) ∧ Hid (Fl wr b m (.slice (some ⟨g, 0, none⟩) (t + 1) cap) last (appL K q'.B left) M) ∧ Hid (Cf (fun k => k = b ∨ k = m) W wr))
      (fun _ _ wr => wr.rangeLeft q'.b W.heap.size)
    case atStart => exact ⟨_, _, hidden hrg0, hidden (by rw [appL_start HD.out]; exact HI.out.on hb0), hidden (Cf.of_below hb0)⟩
    case round =>
      obtain ⟨left, cnt, HRG, HFL, HCR⟩ := hrel
      have n1 : ¬ (w.heap.size = b ∨ w.heap.size = m) := by omega
      have n2 : ¬ (Bx = b ∨ Bx = m) := by omega
      have hboxr : wr.cell? ⟨w.heap.size, 0, none⟩ = some (pB b) := (World.cell?_of_block (HCR.out.block _ hbxl n1)).trans hbox
      have c1r : wr.cell? ⟨Bx, 1, none⟩ = some (.map (some q'.b)) := (World.cell?_of_block (HCR.out.block _ hBxl n2)).trans c1
      clear hrg0 hg0 hs0 hown
      gi_wp2_with (first
        | (gi_at_next; refine wpListIn_next_ranges_ii _ rfl _ rfl 3 3 .i64 .i64 kI Tryd.underlying3 Tryd.underlying3 q'.b W.heap.size n _ _ _ rfl HRG.out ?_ ?_)
        | gi_in)
      · intro _ hl0
        rw [appL_end hl0, HK'.out] at HFL
        obtain ⟨u, hru, hmu, hcu⟩ := (HFL.out.maps _ hqM).1.clear 0
        clear hl0
        gi_wp2
        have hcT : Cf (fun k => k = b ∨ k = m ∨ k = q'.b) W u := (HCR.out.wd fun k hk => by
          rcases hk with hk | hk
          · exact .inl hk
          · exact .inr (.inl hk)).go (hcu.wd fun k hk => .inr (.inr hk))
        refine ⟨⟨hcT.size, fun k o hB hk _ => (hcT.block k (lt_some hk) (by omega)).trans hk⟩, hcT.wd (fun k hk => ?_), ?_, hidden (HCW.out.trans hcT (fun k _ hk => ?_)), ?_, Nat.le_trans hsz hcT.size⟩
        · rw [HFk.out]
          rcases hk with hk | hk | hk
          · exact .inl hk
          · exact .inr (.inl hk)
          · exact .inr (.inr (.inl hk))
        · have h5 := HFL.out
          rw [← HM.out] at h5
          have h6 := h5.setB hcu hmu (fun k f h => by cases h)
          have h7 := HM'.out
          rw [← HQN.out] at h7
          rw [h7] at h6
          exact hidden (by simpa using h6)
        · rw [← HFq.out]
          rcases hk with hk | hk | hk
          · exact .inl hk
          · exact .inr (.inl hk)
          · exact .inr (.inr (.inr ⟨q', hqM, hk⟩))
        · exact (World.cell?_of_block (hcT.block w.heap.size hbxl (by omega))).trans hbox
      · intro x c v1 cnt1 hwx hwc hlx hat hrg1 hltc hg1 hs1 hen
        have hKx := HD.out.val hat
        have hpx := HMK.out.1.2 x c hKx
        have hcx := HMK.out.2.2 x c hKx
        obtain ⟨xn, rfl⟩ : ∃ xn : Nat, x = (xn : Int) := ⟨x.toNat, by omega⟩
        have hcf1 := Cf.ofGrown hg1
        have hF1 : Fl v1 b m (.slice (some ⟨g, 0, none⟩) (t + 1) cap) last (appL K q'.B left) M := HFL.out.cf hcf1 (fun k hk e => by
          have := HLT.out k hk
          have : W.heap.size = k := by injection e
          omega)
        have HSET := hidden (hF1.set xn (by omega) c hcx)
        rw [appL_step hKx] at HSET
        have hne1 : some w.heap.size ≠ some W.heap.size := by
          intro e
          injection e with e
          omega
        have hbox1 : v1.cell? ⟨w.heap.size, 0, none⟩ = some (pB b) := (World.cell?_of_block (hg1.block w.heap.size (cell_lt hboxr) hne1)).trans hboxr
        have HRG1 := hidden hrg1
        have HG1 := hidden hg1
        clear hrg1 hg1 hs1 hat hlx hKx
        gi_wp2_with (refine ⟨trivial, ?_⟩; gi_at_call 25; refine (CallsIn.inRound l (callsIn_wide.2 HSET.out)).mono ?_; rintro e u2 ⟨rfl, HU⟩)
        have hqb : ¬ (q'.b = b ∨ q'.b = m) := by
          have h1 := ((mk_ne HW.out).2.2 _ hqM).2
          have h2 := HMK.out.2.1
          rintro (e | e)
          · exact h1 e
          · exact h2 e
        have HR2 := hidden (ranges_cf HRG1.out HU.out.2 hqb (by omega))
        have HC2 : Hid (Cf (fun k => k = b ∨ k = m) W u2) := hidden ((HCR.out.trans (Cf.ofGrown HG1.out) (fun k hk e => by
          have : W.heap.size = k := by injection e
          omega)).go HU.out.2)
        refine ⟨⟨_, _, _, _, _, _, _, _, _, _, _, ⟨_, cnt1, HR2, hidden HU.out.1, HC2⟩, rfl⟩, ?_⟩
        rw [HR2.out.left_eq, HRG.out.left_eq]
        exact hltc
  case done =>
    rintro D xs W hD hS ⟨HI, HCW, hbox, hsz⟩ hK
    have hx0 : ¬ xs.length = 0 := by omega
    rw [if_neg hx0, if_neg hx0] at HI
    have cm := HI.out.fs.cm
    have fm := HI.out.fs.fz 1025
    clear hS
    have HS1 := hidden (HI.out.same)
    have HKD : Hid ((W.setCell ⟨b, 1025, none⟩ (.slice (some ⟨g, 0, none⟩) (t + 1) cap)).heap[D]? = some (.deferred (some []))) := hidden ((Below.heap_setCell _ _ _ _ (by simp only; omega)).trans hK)
    have HCX : Hid (Cf Fq w (W.setCell ⟨b, 1025, none⟩ (.slice (some ⟨g, 0, none⟩) (t + 1) cap))) := hidden (HCW.out.go (Cf.setCell (F := Fq) W (p := ⟨b, 1025, none⟩) (by rw [← HFq.out]; exact .inl rfl) _))
    have HFIN : Hid (∀ X, X = (W.setCell ⟨b, 1025, none⟩ (.slice (some ⟨g, 0, none⟩) (t + 1) cap)).drew → X.heap[D]? = some (.deferred (some [])) ∧ Fl (X.putObj D (.deferred none)) b m (.slice (some ⟨g, 0, none⟩) (t + 1) cap) last K' M' ∧ Cf Fq w (X.putObj D (.deferred none))) := hidden (by
      rintro X rfl
      have hcD := Cf.ofGrown (grownBy_putObj' (W.setCell ⟨b, 1025, none⟩ (.slice (some ⟨g, 0, none⟩) (t + 1) cap)).drew D (.deferred none))
      refine ⟨HKD.out, ?_, ?_⟩
      · have h1 : Fl (W.setCell ⟨b, 1025, none⟩ (.slice (some ⟨g, 0, none⟩) (t + 1) cap)).drew b m (.slice (some ⟨g, 0, none⟩) (t + 1) cap) last K' M' := HS1.out.drew 1
        exact h1.cf hcD (fun k hk e => by
          have := HLT'.out k hk
          have : D = k := by injection e
          omega)
      · exact (HCX.out.trans (Cf.drew Fq _ 1) (fun _ _ h => h)).trans hcD (fun k hk e => by
          have : D = k := by injection e
          omega))
    clear HS1 HKD HCX
    by_cases hcp : cap = t + 1
    · subst hcp
      gi_wp2
      gi_region
      obtain ⟨X, hX⟩ : ∃ X, (W.setCell ⟨b, 1025, none⟩ (.slice (some ⟨g, 0, none⟩) (t + 1) (t + 1))).drew = X := ⟨_, rfl⟩
      obtain ⟨f1, f2, f3⟩ := HFIN.out X hX.symm
      rw [hX]
      have HF2 := hidden f2
      have HF3 := hidden f3
      have hclr := clear_none (some ⟨g, 0, none⟩) 0 0 X
      clear HFIN f2 f3
      gi_wp2
      refine ⟨by simp, .inl ⟨_, _, rfl, run_takeDeferred f1, ?_⟩⟩
      exact ⟨_, results_tmp rfl _ _ _, rfl, hidden ⟨HF2.out, HF3.out⟩⟩
    · have hlt1 : t + 1 < cap := by omega
      have hlt2 : (t : Int) + 1 < (cap : Int) := by omega
      have hne2 : ¬ cap - (t + 1) = 0 := by omega
      gi_wp2
      gi_region
      obtain ⟨X, hX⟩ : ∃ X, (W.setCell ⟨b, 1025, none⟩ (.slice (some ⟨g, 0, none⟩) (t + 1) cap)).drew = X := ⟨_, rfl⟩
      obtain ⟨f1, f2, f3⟩ := HFIN.out X hX.symm
      rw [hX]
      have HF2 := hidden f2
      have HF3 := hidden f3
      have hclr := clear_none (some ⟨g, (t + 1) * 2, none⟩) (cap - (t + 1)) 0 X
      clear HFIN f2 f3
      gi_wp2
      refine ⟨by simp, .inl ⟨_, _, rfl, run_takeDeferred f1, ?_⟩⟩
      exact ⟨_, results_tmp rfl _ _ _, rfl, hidden ⟨HF2.out, HF3.out⟩⟩
  case stop =>
    rintro D c pre W _ _ h _
    exact h.elim
end Go.Proofs.YtedgpcckbdnijaaDoor
