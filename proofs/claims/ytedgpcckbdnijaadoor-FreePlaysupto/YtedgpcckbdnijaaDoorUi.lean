/- A list with its marks; note, change. -/
import Derived.Test.YtedgpcckbdnijaaDoorUh
namespace Go.Proofs.YtedgpcckbdnijaaDoor
open Go.RowKit Go.Maps

/-- A mark: its number, the block of its map, what the map has. -/
structure Mq where
  n : Int
  b : Nat
  B : Int → Option Int
def mkC (M : List Mq) : List Value := M.flatMap (fun q => [.int .i64 q.n, .map (some q.b)])
set_option maxRecDepth 100000 in
theorem mkC_len : ∀ M : List Mq, (mkC M).length = M.length * 2
  | [] => rfl
  | q :: M => by
    have := mkC_len M
    unfold mkC at *
    simp [List.flatMap_cons] at *
    omega
set_option maxRecDepth 100000 in
theorem mkC_at : ∀ (M : List Mq) (i : Nat) (q : Mq), M[i]? = some q → (mkC M)[2 * i]? = some (.int .i64 q.n) ∧ (mkC M)[2 * i + 1]? = some (.map (some q.b))
  | [], i, q, h => by simp at h
  | q' :: M, 0, q, h => by
    simp at h
    subst h
    exact ⟨rfl, rfl⟩
  | q' :: M, i + 1, q, h => by
    have := mkC_at M i q (by simpa using h)
    unfold mkC at *
    rw [List.flatMap_cons]
    exact ⟨by simpa [show 2 * (i + 1) = 2 * i + 2 by omega] using this.1, by simpa [show 2 * (i + 1) + 1 = 2 * i + 1 + 2 by omega] using this.2⟩
set_option maxRecDepth 100000 in
theorem mkC_append (M N : List Mq) : mkC (M ++ N) = mkC M ++ mkC N := by unfold mkC; simp
/-- The slice value v owns the marks. -/
def OwnM (w : World) (v : Value) (M : List Mq) : Prop := w.ownsRow 0 74 2 v M.length (mkC M)
set_option maxRecDepth 100000 in
theorem OwnM.nil (w : World) : OwnM w (.slice none 0 0) [] := World.ownsRow_nil w 0 74 2
set_option maxRecDepth 100000 in
theorem OwnM.lt {w : World} {v : Value} {M : List Mq} (h : OwnM w v M) {k : Nat} (hk : v.ownBlock = some k) : k < w.heap.size := by
  unfold OwnM at h
  exact (h.lt k hk).2
set_option maxRecDepth 100000 in
theorem OwnM.cf {w u : World} {v : Value} {M : List Mq} {F : Nat → Prop} (h : OwnM w v M) (hc : Cf F w u) (hf : ∀ k, v.ownBlock = some k → ¬ F k) : OwnM u v M := by
  unfold OwnM at *
  rcases h.2 with h2 | ⟨g, cap, cur, e, hg, hh, rest⟩
  · exact ⟨h.1, .inl h2⟩
  · refine ⟨h.1, .inr ⟨g, cap, cur, e, hg, ?_, rest⟩⟩
    rw [hc.block g (lt_some hh) (hf g (by rw [e]; rfl))]
    exact hh
set_option maxRecDepth 100000 in
/-- Its block is one of marks. -/
theorem OwnM.ty {w : World} {v : Value} {M : List Mq} (h : OwnM w v M) {k : Nat} (hk : v.ownBlock = some k) : ∃ cs, w.heap[k]? = some (.cells cs 74 (0, 0)) := by
  unfold OwnM at h
  rcases h.2 with ⟨rfl, _⟩ | ⟨g, cap, cur, rfl, _, hh, _⟩
  · cases hk
  · injection hk with hk
    have hk' : g = k := hk
    rw [← hk']
    exact ⟨_, hh⟩
set_option maxRecDepth 100000 in
theorem OwnM.shape {w : World} {v : Value} {M : List Mq} (h : OwnM w v M) : ∃ ao cap, v = .slice ao M.length cap ∧ (M.length = 0 ∨ ∃ g, ao = some ⟨g, 0, none⟩ ∧ M.length ≤ cap ∧ cap ≤ maxLen ∧ ∀ (i : Nat) (q : Mq), M[i]? = some q → w.cell? ⟨g, i * 2, none⟩ = some (.int .i64 q.n) ∧ w.cell? ⟨g, i * 2 + 1, none⟩ = some (.map (some q.b))) := by
  unfold OwnM at h
  rcases h.2 with ⟨rfl, h0⟩ | ⟨g, cap, cur, rfl, hg, hh, hnc, hm, hs, ht⟩
  · exact ⟨none, 0, by rw [h0], .inl h0⟩
  · refine ⟨_, cap, rfl, .inr ⟨g, rfl, hnc, hm, fun i q hq => ?_⟩⟩
    have hlt := (List.getElem?_eq_some_iff.1 hq).1
    obtain ⟨h1, h2⟩ := mkC_at M i q hq
    have e1 := World.ownsRow.cellAt h (i * 2) (by omega)
    have e2 := World.ownsRow.cellAt h (i * 2 + 1) (by omega)
    rw [Nat.mul_comm] at h1 h2
    rw [e1, e2]
    exact ⟨h1, h2⟩
/-- A LIST IN MEMORY, with its marks. -/
structure Fl (w : World) (b m : Nat) (mv : Value) (last : Int) (K : Int → Option Int) (M : List Mq) : Prop where
  fs : Fs w b m mv last K
  row : OwnM w mv M
  maps : ∀ q ∈ M, MK w q.b q.B ∧ q.b ≠ m ∧ ∀ k f, q.B k = some f → -1 ≤ f ∧ f ≤ 1099511627776
  apart : M.Pairwise (fun p q => p.b ≠ q.b)
/-- Its blocks. -/
def Fb (b m : Nat) (mv : Value) (M : List Mq) (k : Nat) : Prop := k = b ∨ k = m ∨ mv.ownBlock = some k ∨ ∃ q ∈ M, k = q.b
set_option maxRecDepth 100000 in
theorem mk_ne {w : World} {b m : Nat} {mv : Value} {last : Int} {K : Int → Option Int} {M : List Mq} (h : Fl w b m mv last K M) : mv.ownBlock ≠ some b ∧ mv.ownBlock ≠ some m ∧ ∀ q ∈ M, mv.ownBlock ≠ some q.b ∧ q.b ≠ b := by
  obtain ⟨W, hb, _⟩ := h.fs.box
  refine ⟨fun e => ?_, fun e => ?_, fun q hq => ⟨fun e => ?_, fun e => ?_⟩⟩
  · obtain ⟨cs, hcs⟩ := h.row.ty e
    unfold Lb at hb
    rw [hb] at hcs
    injection hcs with hcs
    injection hcs with _ h2 _
    exact absurd h2 (by decide)
  · obtain ⟨cs, hcs⟩ := h.row.ty e
    exact h.fs.kept.ne hcs rfl
  · obtain ⟨cs, hcs⟩ := h.row.ty e
    exact (h.maps q hq).1.ne hcs rfl
  · exact (h.maps q hq).1.ne hb e.symm
section
variable {w u : World} {b m : Nat} {mv : Value} {last : Int} {K : Int → Option Int} {M : List Mq}
set_option maxRecDepth 100000 in
theorem Fl.cf {F : Nat → Prop} (h : Fl w b m mv last K M) (hc : Cf F w u) (hf : ∀ k, Fb b m mv M k → ¬ F k) : Fl u b m mv last K M :=
  ⟨h.fs.cf hc (hf b (.inl rfl)) (hf m (.inr (.inl rfl))), h.row.cf hc (fun k hk => hf k (.inr (.inr (.inl hk)))), fun q hq => ⟨(h.maps q hq).1.cf hc (hf q.b (.inr (.inr (.inr ⟨q, hq, rfl⟩)))), (h.maps q hq).2⟩, h.apart⟩
set_option maxRecDepth 100000 in
theorem Fl.on (h : Fl w b m mv last K M) (hb : Below w.heap.size w u) : Fl u b m mv last K M := h.cf (F := fun _ => False) (Cf.of_below hb) (fun _ _ h => h)
set_option maxRecDepth 100000 in
theorem Fl.lts (h : Fl w b m mv last K M) {k : Nat} (hk : Fb b m mv M k) : k < w.heap.size := by
  rcases hk with rfl | rfl | hk | ⟨q, hq, rfl⟩
  · exact h.fs.lt
  · exact h.fs.mlt
  · exact h.row.lt hk
  · exact (h.maps q hq).1.lt
set_option maxRecDepth 100000 in
/-- set. -/
theorem Fl.set (h : Fl w b m mv last K M) (k : Nat) (hk : 2 ≤ k ∧ k < 65536) (s : Int) (hs : -1 ≤ s ∧ s ≤ 1099511627776) :
    Calls Tryd.prog 25 #[pB b, .int .i64 (k : Int), .int .i64 s] w fun e u => e = .returned (.tuple #[]) ∧ Hid (Fl u b m mv last (setK K k s) M ∧ Cf (fun x => x = b ∨ x = m) w u) := by
  refine (set_any h.fs k hk s hs).mono ?_
  rintro e u ⟨rfl, hu⟩
  obtain ⟨h1, h2⟩ := hu.out
  obtain ⟨n1, n2, n3⟩ := mk_ne h
  refine ⟨rfl, hidden ⟨⟨h1, h.row.cf h2 (fun k hk e => ?_), fun q hq => ⟨(h.maps q hq).1.cf h2 (fun e => ?_), (h.maps q hq).2⟩, h.apart⟩, h2⟩⟩
  · rcases e with rfl | rfl
    · exact n1 hk
    · exact n2 hk
  · rcases e with e | e
    · exact (n3 q hq).2 e
    · exact (h.maps q hq).2.1 e
end
set_option maxRecDepth 100000 in
theorem Fl.drew {w : World} {b m : Nat} {mv : Value} {last : Int} {K : Int → Option Int} {M : List Mq} (h : Fl w b m mv last K M) (q : Nat) : Fl (w.drewN q) b m mv last K M := h.cf (Cf.drew (fun _ => False) w q) (fun _ _ h => h)
/-- What the last mark notes. -/
def noteM (K : Int → Option Int) (k : Int) : List Mq → List Mq
  | [] => []
  | [q] => [{ q with B := if (q.B k).isSome then q.B else putK q.B k (stdK K k) }]
  | q :: r :: M => q :: noteM K k (r :: M)
set_option maxRecDepth 100000 in
theorem noteM_last (K : Int → Option Int) (k : Int) : ∀ (M : List Mq) (q : Mq), noteM K k (M ++ [q]) = M ++ [{ q with B := if (q.B k).isSome then q.B else putK q.B k (stdK K k) }]
  | [], q => rfl
  | [a], q => rfl
  | a :: b :: M, q => by
    have := noteM_last K k (b :: M) q
    simp only [List.cons_append] at this ⊢
    unfold noteM
    rw [this]
set_option maxRecDepth 100000 in
theorem last_of {M : List Mq} (h : M ≠ []) : ∃ N q, M = N ++ [q] := ⟨M.dropLast, M.getLast h, (List.dropLast_concat_getLast h).symm⟩
set_option maxRecDepth 100000 in
theorem stdK_ge {K : Int → Option Int} (h : Vals K) (k : Int) : -1 ≤ stdK K k ∧ stdK K k ≤ 1099511627776 := by
  unfold stdK
  cases hK : K k with
  | none => simp
  | some f => have := h k f hK; simp; omega
set_option maxRecDepth 100000 in
theorem mkC_same (N : List Mq) (q : Mq) (B : Int → Option Int) : mkC (N ++ [{ q with B := B }]) = mkC (N ++ [q]) := by rw [mkC_append, mkC_append]; rfl
set_option maxRecDepth 100000 in
set_option maxHeartbeats 1000000 in
theorem note_any {w : World} {b m : Nat} {mv : Value} {last : Int} {K : Int → Option Int} {M : List Mq} (h : Fl w b m mv last K M) (k : Int) (hk : 2 ≤ k ∧ k < 65536) :
    Calls Tryd.prog 65 #[pB b, .int .i64 k] w fun e u => e = .returned (.tuple #[]) ∧ Hid (Fl u b m mv last K (noteM K k M) ∧ Cf (fun x => ∃ q ∈ M, x = q.b) w u) := by
  have HL := hidden h
  have cm := h.fs.cm
  obtain ⟨ao, cap, rfl, hsh⟩ := h.row.shape
  by_cases h0 : M = []
  · subst h0
    clear hsh
    clear h
    simp only [List.length_nil] at *
    go_enter Tryd.func65, Tryd.ntmps65
    go_wp2_with fail
    try simp only [Exit.inBlock, Exit.then]
    refine bodyPost_ret (results_none rfl _ _ _) rfl ?_
    exact ⟨rfl, hidden ⟨HL.out, Cf.refl _ _⟩⟩
  · obtain ⟨N, q, hM⟩ := last_of h0
    have hqM : q ∈ M := by rw [hM]; simp
    obtain ⟨g, rfl, hcap, hmx, hc⟩ : ∃ g, ao = some ⟨g, 0, none⟩ ∧ M.length ≤ cap ∧ cap ≤ maxLen ∧ ∀ (i : Nat) (q' : Mq), M[i]? = some q' → w.cell? ⟨g, i * 2, none⟩ = some (.int .i64 q'.n) ∧ w.cell? ⟨g, i * 2 + 1, none⟩ = some (.map (some q'.b)) := by
      rcases hsh with h1 | h1
      · exact absurd (List.eq_nil_of_length_eq_zero h1) h0
      · exact h1
    obtain ⟨e1, e2⟩ := hc N.length q (by rw [hM, List.getElem?_append_right (Nat.le_refl _)]; simp)
    have HQ := hidden (h.maps q hqM)
    obtain ⟨n, hn⟩ : ∃ n : Nat, N.length = n := ⟨_, rfl⟩
    have hln : M.length = n + 1 := by rw [hM, List.length_append, hn]; rfl
    rw [hn] at e1 e2
    rw [hln] at cm hcap ⊢
    have HL' : Hid (Fl w b m (.slice (some ⟨g, 0, none⟩) (n + 1) cap) last K M) := by rw [← hln]; exact HL
    have HMN := hidden hM
    obtain ⟨M', hM'⟩ : ∃ M', noteM K k M = M' := ⟨_, rfl⟩
    have HM' : Hid (M' = N ++ [{ q with B := if (q.B k).isSome then q.B else putK q.B k (stdK K k) }]) := hidden (by rw [← hM', hM, noteM_last])
    obtain ⟨Fq, hFq⟩ : ∃ F : Nat → Prop, F = fun x => ∃ q ∈ M, x = q.b := ⟨_, rfl⟩
    have HFQ : Hid (Fq q.b) := hidden (by rw [hFq]; exact ⟨q, hqM, rfl⟩)
    rw [hM', ← hFq]
    have hn2 : (n : Int) ≤ 9223372036854775806 := by unfold maxLen at hmx; omega
    clear hmx hcap HL h hc hsh h0 hn hln hM hM' hFq hqM
    go_enter Tryd.func65, Tryd.ntmps65
    go_wp2_with fail
    go_quiet (fail)
    clear cm e1 e2
    obtain ⟨x, hx⟩ : ∃ x, w.drewN nq = x := ⟨_, rfl⟩
    have HC : Hid (∀ F, Cf F w x) := hidden (fun F => by rw [← hx]; exact Cf.drew F w nq)
    have HLX : Hid (Fl x b m (.slice (some ⟨g, 0, none⟩) (n + 1) cap) last K (N ++ [q])) := hidden (by rw [← HMN.out]; exact HL'.out.cf (HC.out (fun _ => False)) (fun _ _ h => h))
    obtain ⟨hq1, hq2, hq3⟩ := HQ.out
    have hqx := hq1.cf (HC.out (fun _ => False)) (fun h => h)
    have hlk := hqx.look k (wf64 k (by omega) (by omega))
    have HST := hidden (stand_any HLX.out.fs k (by omega))
    rw [hx]
    clear HL' hx HQ hq1
    cases hB : q.B k with
    | some f =>
      rw [hB] at hlk
      simp only [Option.isSome, Option.getD] at hlk
      have HF : Hid (Fl x b m (.slice (some ⟨g, 0, none⟩) (n + 1) cap) last K M') := hidden (by
        rw [HM'.out, if_pos (by rw [hB]; rfl)]
        exact HLX.out)
      clear HLX hq2 hq3 HST
      go_wp2_with fail
      try simp only [Exit.inBlock, Exit.then]
      first | refine bodyPost_end (results_none rfl _ _ _) rfl ?_ | refine bodyPost_ret (results_none rfl _ _ _) rfl ?_
      exact ⟨rfl, hidden ⟨HF.out, HC.out _⟩⟩
    | none =>
      rw [hB] at hlk
      simp only [Option.isSome, Option.getD] at hlk
      have hv := stdK_ge HLX.out.fs.vals k
      obtain ⟨w1, hr, hm1, hc1⟩ := hqx.store k (stdK K k) hk (wf64 _ (by omega) (by omega))
      have HF : Hid (Fl w1 b m (.slice (some ⟨g, 0, none⟩) (n + 1) cap) last K M' ∧ Cf Fq w w1) := hidden (by
        rw [HM'.out, if_neg (by rw [hB]; decide)]
        obtain ⟨n1, n2, n3⟩ := mk_ne HLX.out
        have hap := HLX.out.apart
        rw [List.pairwise_append] at hap
        refine ⟨⟨HLX.out.fs.cf hc1 (fun e => (n3 q (by simp)).2 e.symm) (fun e => hq2 e.symm), ?_, fun q' hq' => ?_, ?_⟩, (HC.out _).go (hc1.wd fun x hx => by rw [hx]; exact HFQ.out)⟩
        · have := HLX.out.row.cf hc1 (fun x hx e => (n3 q (by simp)).1 (by rw [hx, e]))
          unfold OwnM at *
          rw [mkC_same, List.length_append] at *
          exact this
        · rcases List.mem_append.1 hq' with hq' | hq'
          · have := HLX.out.maps q' (List.mem_append_left _ hq')
            exact ⟨this.1.cf hc1 (fun e => hap.2.2 q' hq' q (by simp) e), this.2⟩
          · simp only [List.mem_singleton] at hq'
            subst hq'
            refine ⟨hm1, hq2, fun x f hx => ?_⟩
            simp only at hx
            unfold putK at hx
            by_cases e : x = k
            · rw [if_pos e] at hx; cases hx; exact hv
            · rw [if_neg e] at hx; exact hq3 x f hx
        · rw [List.pairwise_append]
          exact ⟨hap.1, by simp, fun a ha c hc' => by simp only [List.mem_singleton] at hc'; subst hc'; exact hap.2.2 a ha q (by simp)⟩)
      clear HLX hq2 hq3 hm1 hc1 hv hqx HM' HMN
      generalize stdK K k = sk at *
      go_wp2_with (go_at_call 54; refine same_call HST.out ?_)
      try simp only [Exit.inBlock, Exit.then]
      first | refine bodyPost_end (results_none rfl _ _ _) rfl ?_ | refine bodyPost_ret (results_none rfl _ _ _) rfl ?_
      exact ⟨rfl, HF⟩
set_option maxRecDepth 100000 in
/-- change. -/
theorem change_any {w : World} {b m : Nat} {mv : Value} {last : Int} {K : Int → Option Int} {M : List Mq} (h : Fl w b m mv last K M) (k : Nat) (hk : 2 ≤ k ∧ k < 65536) (s : Int) (hs : -1 ≤ s ∧ s ≤ 1099511627776) :
    Calls Tryd.prog 45 #[pB b, .int .i64 (k : Int), .int .i64 s] w fun e u => e = .returned (.tuple #[]) ∧ Hid (Fl u b m mv last (setK K k s) (noteM K k M) ∧ Cf (Fb b m mv M) w u) := by
  have hn := note_any h (k : Int) (by omega)
  clear h
  go_enter Tryd.func45, Tryd.ntmps45
  go_wp2_with (first
    | (go_at_call 65; refine hn.mono ?_; rintro e w1 ⟨rfl, HN⟩)
    | (go_at_call 25; refine (HN.out.1.set k hk s hs).mono ?_; rintro e w2 ⟨rfl, HS⟩))
  go_end0
  exact ⟨rfl, hidden ⟨HS.out.1, (HN.out.2.wd fun x hx => .inr (.inr (.inr hx))).go (HS.out.2.wd fun x hx => by
    rcases hx with hx | hx
    · exact .inl hx
    · exact .inr (.inl hx))⟩⟩
end Go.Proofs.YtedgpcckbdnijaaDoor
