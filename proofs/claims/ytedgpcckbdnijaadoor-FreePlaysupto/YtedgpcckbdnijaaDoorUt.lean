/- Mark. -/
import Derived.Test.YtedgpcckbdnijaaDoorUs
namespace Go.Proofs.YtedgpcckbdnijaaDoor
open Go.RowKit Go.Maps

set_option maxRecDepth 100000 in
theorem infoM : (Tryd.prog.info? 74).map (fun i => (i.zero, i.size, i.bytes)) = some (some (.agg #[.int .i64 0, .map none]), 2, 16) := by kernel_rfl
set_option maxRecDepth 100000 in
theorem run_app_m (w : World) (ty : TypeId) (M : List Mq) (q : Mq) (mv : Value) (gs : Nat) (hown : OwnM w mv M) (h0 : w.cell? ⟨gs, 0, none⟩ = some (.int .i64 q.n)) (h1 : w.cell? ⟨gs, 1, none⟩ = some (.map (some q.b))) (hM : M.length ≤ 1000) :
    ∃ v' w', (Builtin.append_ #[61, 61] ty #[mv, .slice (some ⟨gs, 0, none⟩) 1 1]).run Tryd.prog w = .ok v' w' ∧ OwnM w' v' (M ++ [q]) ∧ Gr w mv w' v' := by
  obtain ⟨i0, hi, hz0, hz1, hz2⟩ := info_parts infoM
  obtain ⟨v', w', hr, h2, h3, _, h4⟩ := run_append_own_at (P := Tryd.prog) w 0 61 ty 74 i0 (.agg #[.int .i64 0, .map none]) 2 16 Tryd.underlying61 hi hz0 hz1 hz2 rfl (by decide) mv M.length (mkC M) hown ⟨gs, 0, none⟩ 1 1 [.int .i64 q.n, .map (some q.b)] rfl
    (fun j u hu => by
      match j, hu with
      | 0, hu => simp at hu; subst hu; simpa [Addr.add_lit] using h0
      | 1, hu => simp at hu; subst hu; simpa [Addr.add_lit] using h1
      | j + 2, hu => simp at hu) (by simp [Value.oneCell']) (by unfold maxLen; omega) (by omega) (Nat.zero_le _)
  refine ⟨v', w', hr, ?_, ⟨h3, h4.imp id fun e => ⟨_, e, Nat.le_refl _⟩⟩⟩
  unfold OwnM
  rw [mkC_append, List.length_append]
  exact h2
set_option maxRecDepth 100000 in
theorem step_m {ops : Array Oper} {o : Oper} {a : Act} {w : World} {K : Act → World → Prop} {Q : Exit → Act → World → Prop} {E : Prop} (hgd : o.guard = none) (s x : Operand)
    (ho : o.op = .call { callee := .builtin .append, args := #[s, x], argTypes := #[61, 61] }) (M : List Mq) (q : Mq) (mv : Value) (gs : Nat) (hs : a.eval s = mv) (hx : a.eval x = .slice (some ⟨gs, 0, none⟩) 1 1)
    (hown : OwnM w mv M) (h0 : w.cell? ⟨gs, 0, none⟩ = some (.int .i64 q.n)) (h1 : w.cell? ⟨gs, 1, none⟩ = some (.map (some q.b))) (hM : M.length ≤ 1000)
    (h : ∀ v' w', OwnM w' v' (M ++ [q]) → Gr w mv w' v' → K (a.put o.dst v') w') :
    if Region.wanted o (yielded ops a.tmps) = true then Oper.wp Tryd.prog o a w K Q else E := by
  have hw : Region.wanted o (yielded ops a.tmps) = true := by simp [Region.wanted, hgd]
  rw [if_pos hw]
  obtain ⟨v', w', hr, h2, h3⟩ := run_app_m w o.type M q mv gs hown h0 h1 hM
  have hfin := h v' w' h2 h3
  unfold Oper.wp
  simp [execOp, ho, resolve, invoke, builtin, hs, hx, hr, Result.andThen]
  exact hfin
set_option maxRecDepth 100000 in
theorem Gr.cfo {w w' : World} {v v' : Value} (h : Gr w v w' v') : Cf (fun k => v.ownBlock = some k) w w' := Cf.ofGrown h.grow
set_option maxRecDepth 100000 in
/-- A new mark. -/
theorem Fl.marked {w w1 : World} {b m : Nat} {mv mv' : Value} {last : Int} {K : Int → Option Int} {M : List Mq} {q : Mq} {F : Nat → Prop} (h : Fl w b m mv last K M) (hc : Cf F w w1) (hF : ∀ k, F k → mv.ownBlock = some k) (ho : OwnM w1 mv' (M ++ [q])) (hq : MK w1 q.b q.B) (hqn : w.heap.size ≤ q.b) (hqv : ∀ k f, q.B k = some f → -1 ≤ f ∧ f ≤ 1099511627776) :
    Fl (w1.setCell ⟨b, 1025, none⟩ mv') b m mv' last K (M ++ [q]) ∧ Cf (Fb b m mv M) w (w1.setCell ⟨b, 1025, none⟩ mv') := by
  obtain ⟨n1, n2, n3⟩ := mk_ne h
  have hfs : Fs w1 b m mv last K := h.fs.cf hc (fun e => n1 (hF _ e)) (fun e => n2 (hF _ e))
  have hc2 : Cf (· = b) w1 (w1.setCell ⟨b, 1025, none⟩ mv') := Cf.setCell (F := (· = b)) w1 (p := ⟨b, 1025, none⟩) rfl _
  obtain ⟨W, hb, _⟩ := hfs.box
  refine ⟨⟨hfs.setm mv', ho.cf hc2 (fun k hk e => ?_), fun q' hq' => ?_, ?_⟩, (hc.wd fun k hk => .inr (.inr (.inl (hF k hk)))).go (hc2.wd fun k hk => .inl hk)⟩
  · obtain ⟨cs, hcs⟩ := ho.ty hk
    rw [e] at hcs
    unfold Lb at hb
    rw [hb] at hcs
    injection hcs with hcs
    injection hcs with _ h2 _
    exact absurd h2 (by decide)
  · rcases List.mem_append.1 hq' with hq' | hq'
    · have h3 := h.maps q' hq'
      exact ⟨(h3.1.cf hc (fun e => (n3 q' hq').1 (hF _ e))).cf hc2 (fun e => (n3 q' hq').2 e), h3.2⟩
    · simp only [List.mem_singleton] at hq'
      subst hq'
      refine ⟨hq.cf hc2 (fun e => ?_), ?_, hqv⟩
      · have := h.fs.lt
        omega
      · have := h.fs.mlt
        omega
  · rw [List.pairwise_append]
    refine ⟨h.apart, by simp, fun a ha c hc' => ?_⟩
    simp only [List.mem_singleton] at hc'
    subst hc'
    have := (h.maps a ha).1.lt
    omega
/-- The world where the append stands. -/
def Wa (x : World) (L : Int) (W : World) : Prop := ∃ k, W = ((x.drewN k).alloc (.map #[] 0)).alloc (.cells #[.int .i64 L, .map (some x.heap.size)] 74)
set_option maxRecDepth 100000 in
theorem app_ahead {x W : World} {b m : Nat} {mv : Value} {L : Int} {K : Int → Option Int} {M : List Mq} (h : Fl x b m mv L K M) (hW : Wa x L W) : OwnM W mv M ∧ W.cell? ⟨x.heap.size + 1, 0, none⟩ = some (.int .i64 L) ∧ W.cell? ⟨x.heap.size + 1, 1, none⟩ = some (.map (some x.heap.size)) ∧ MK W x.heap.size (fun _ => none) ∧ Below x.heap.size x W := by
  obtain ⟨k, rfl⟩ := hW
  have hd : Below x.heap.size x (x.drewN k) := ⟨rfl, rfl, rfl, Nat.le_refl _, fun _ _ => rfl⟩
  have h1 : Below (x.drewN k).heap.size (x.drewN k) ((x.drewN k).alloc (.map #[] 0)) := bl_al (Below.refl _ _) (Nat.le_refl _) _
  have e1 : ((x.drewN k).alloc (.map #[] 0)).heap.size = x.heap.size + 1 := by show ((x.drewN k).alloc (.map #[] 0)).heap.size = (x.drewN k).heap.size + 1; simp
  have h2 : Below ((x.drewN k).alloc (.map #[] 0)).heap.size ((x.drewN k).alloc (.map #[] 0)) (((x.drewN k).alloc (.map #[] 0)).alloc (.cells #[.int .i64 L, .map (some x.heap.size)] 74)) := bl_al (Below.refl _ _) (Nat.le_refl _) _
  have hb := al_row ((x.drewN k).alloc (.map #[] 0)) (.cells #[.int .i64 L, .map (some x.heap.size)] 74)
  rw [e1] at hb
  have hB : Below x.heap.size x (((x.drewN k).alloc (.map #[] 0)).alloc (.cells #[.int .i64 L, .map (some x.heap.size)] 74)) := (hd.trans h1).trans (h2.mono (by rw [e1]; exact Nat.le_succ _))
  have hm := MK.made (x.drewN k)
  refine ⟨(h.on hB).row, ?_, ?_, hm.on h2, hB⟩
  · unfold World.cell?; rw [hb]; rfl
  · unfold World.cell?; rw [hb]; rfl
set_option maxRecDepth 100000 in
theorem app_done {x W w' : World} {b m : Nat} {mv v' : Value} {L : Int} {K : Int → Option Int} {M : List Mq} (h : Fl x b m mv L K M) (hW : Wa x L W) (ho : OwnM w' v' (M ++ [⟨L, x.heap.size, fun _ => none⟩])) (hg : Gr W mv w' v') :
    w'.cell? ⟨b, 1025, none⟩ = some mv ∧ w'.frozen? ⟨b, 1025, none⟩ = false ∧ (Fl (w'.setCell ⟨b, 1025, none⟩ v') b m v' L K (M ++ [⟨L, x.heap.size, fun _ => none⟩]) ∧ Cf (Fb b m mv M) x (w'.setCell ⟨b, 1025, none⟩ v')) ∧ (∀ k, v'.ownBlock = some k → mv.ownBlock = some k ∨ x.heap.size ≤ k) := by
  obtain ⟨h1, _, _, h4, h5⟩ := app_ahead h hW
  have hc : Cf (fun k => mv.ownBlock = some k) x w' := (Cf.of_below h5).go hg.cfo
  obtain ⟨n1, n2, n3⟩ := mk_ne h
  have hfs : Fs w' b m mv L K := h.fs.cf hc n1 n2
  have hmk : MK w' x.heap.size (fun _ => none) := h4.cf hg.cfo (fun e => by
    have := h.row.lt e
    omega)
  refine ⟨hfs.cm, hfs.fz 1025, h.marked hc (fun _ e => e) ho hmk (Nat.le_refl _) (fun k f e => by cases e), fun k hk => ?_⟩
  rcases hg.own with e | ⟨k', e, hk'⟩
  · exact .inl (by rw [← e]; exact hk)
  · right
    rw [e] at hk
    injection hk with hk
    have := h5.size
    omega
set_option maxRecDepth 100000 in
set_option maxHeartbeats 2000000 in
theorem mark_young {w : World} {b m : Nat} {mv : Value} {last : Int} {K : Int → Option Int} {M : List Mq} (h : Fl w b m mv last K M) (hn : Nums last M) (hl : last < 4611686018427387904) (hy : ∀ q ∈ M, last + 1 - q.n < 16) (hM : M.length ≤ 1000) :
    Calls Tryd.prog 11 #[pB b] w fun e u => e = .returned (.int .i64 (last + 1)) ∧ Hid (∃ mv' bq, Fl u b m mv' (last + 1) K (M ++ [⟨last + 1, bq, fun _ => none⟩]) ∧ Cf (Fb b m mv M) w u ∧ w.heap.size ≤ bq ∧ (∀ k, mv'.ownBlock = some k → mv.ownBlock = some k ∨ w.heap.size ≤ k)) := by
  have hmm := @run_makeMap Tryd.prog
  have cl := h.fs.cl
  have fl := h.fs.fz 1026
  have hn0 := hn.1
  have hcs : Cf (· = b) w (w.setCell ⟨b, 1026, none⟩ (.int .i64 (last + 1))) := Cf.setCell (F := (· = b)) w (p := ⟨b, 1026, none⟩) rfl _
  have H1 : Hid (Fl (w.setCell ⟨b, 1026, none⟩ (.int .i64 (last + 1))) b m mv (last + 1) K M) := hidden (by
    obtain ⟨n1, n2, n3⟩ := mk_ne h
    exact ⟨h.fs.setl _, h.row.cf hcs (fun k hk e => n1 (by rw [hk, e])), fun q hq => ⟨(h.maps q hq).1.cf hcs (fun e => (n3 q hq).2 e), (h.maps q hq).2⟩, h.apart⟩)
  have HFG := hidden (forget_none H1.out ⟨by omega, by omega, fun q hq => by have := hn.2.2 q hq; omega⟩ hy)
  have HCS := hidden hcs
  have HW := hidden h
  clear h hn hy hcs
  go_enter Tryd.func11, Tryd.ntmps11
  go_wp2_with (go_at_call 38; refine HFG.out.mono ?_; rintro e x ⟨rfl, HX⟩; refine Hid.out ?_)
  apply hidden
  have cm := HX.out.1.fs.cm
  have cl2 := HX.out.1.fs.cl
  obtain ⟨ao, cap, rfl, _⟩ := HX.out.1.row.shape
  have hbl := HX.out.1.fs.lt
  have hba : Below x.heap.size x (x.alloc (.map #[] 0)) := bl_al (Below.refl _ _) (Nat.le_refl _) _
  have cmA : (x.alloc (.map #[] 0)).cell? ⟨b, 1025, none⟩ = some (.slice ao M.length cap) := (hba.cell (p := ⟨b, 1025, none⟩) hbl).trans cm
  have clA : (x.alloc (.map #[] 0)).cell? ⟨b, 1026, none⟩ = some (.int .i64 (last + 1)) := (hba.cell (p := ⟨b, 1026, none⟩) hbl).trans cl2
  have hbb : Below x.heap.size x ((x.alloc (.map #[] 0)).alloc (.cells #[.int .i64 (last + 1), .map (some x.heap.size)] 74)) := hba.trans ((bl_al (Below.refl _ _) (Nat.le_refl _) _).mono hba.size)
  have cmB : ((x.alloc (.map #[] 0)).alloc (.cells #[.int .i64 (last + 1), .map (some x.heap.size)] 74)).cell? ⟨b, 1025, none⟩ = some (.slice ao M.length cap) := (hbb.cell (p := ⟨b, 1025, none⟩) hbl).trans cm
  clear cl fl HFG H1 hba hbb
  go_wp2_with fail
  go_region_law (first
    | (refine step_m rfl (.tmp 16) (.tmp 23) rfl M ⟨last + 1, x.heap.size, fun _ => none⟩ (.slice ao M.length cap) (x.heap.size + 1) rfl rfl (app_ahead HX.out.1 (by first | exact ⟨0, rfl⟩ | exact ⟨1, rfl⟩ | exact ⟨2, rfl⟩)).1 (app_ahead HX.out.1 (by first | exact ⟨0, rfl⟩ | exact ⟨1, rfl⟩ | exact ⟨2, rfl⟩)).2.1 (app_ahead HX.out.1 (by first | exact ⟨0, rfl⟩ | exact ⟨1, rfl⟩ | exact ⟨2, rfl⟩)).2.2.1 hM ?_; intro v' w' ho hg; have hd := app_done HX.out.1 (by first | exact ⟨0, rfl⟩ | exact ⟨1, rfl⟩ | exact ⟨2, rfl⟩) ho hg; obtain ⟨vo, vc, rfl, _⟩ := ho.shape; have c2 := hd.1; have f2 := hd.2.1; have HD := hidden hd.2.2; clear ho hg hd))
  all_goals
    have hl2 : (M ++ [(⟨last + 1, x.heap.size, fun _ => none⟩ : Mq)]).length = M.length + 1 := by simp
    rw [hl2] at HD
    obtain ⟨z, hz⟩ : ∃ z, w'.setCell ⟨b, 1025, none⟩ (.slice vo (M.length + 1) vc) = z := ⟨_, rfl⟩
    rw [hz] at HD ⊢
    have cl3 := HD.out.1.1.fs.cl
    have HCW : Hid (Cf (· = b) w x) := hidden (HCS.out.go HX.out.2)
    clear hz c2 f2 cmA clA cmB cm cl2 hl2
    go_wp2_with fail
    go_ret
    refine ⟨rfl, hidden ⟨_, x.heap.size, HD.out.1.1, (HCW.out.wd fun k hk => .inl hk).go HD.out.1.2, HCW.out.size, fun k hk => ?_⟩⟩
    rcases HD.out.2 k hk with e | e
    · exact .inl e
    · exact .inr (Nat.le_trans HCW.out.size e)
end Go.Proofs.YtedgpcckbdnijaaDoor
