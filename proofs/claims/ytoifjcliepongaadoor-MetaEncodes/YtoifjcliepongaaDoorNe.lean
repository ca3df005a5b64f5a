/- owned answers true: each answer is its owner's. -/
import Derived.Test.YtoifjcliepongaaDoorNd
namespace Go.Proofs.YtoifjcliepongaaDoor
open Go.RowKit

set_option maxRecDepth 100000 in
theorem app_run7 {ops : Array Oper} {rest : List Oper} {o : Oper} {a : Act} {w : World} {Q : Exit → Act → World → Prop} (hgd : o.guard = none) (s x : Operand) (t1 t2 : TypeId)
    (ho : o.op = .call { callee := .builtin .append, args := #[s, x], argTypes := #[t1, t2] }) (v u : Value) (hs : a.eval s = v) (hx : a.eval x = u) {v' : Value} {w' : World}
    (hr : (Builtin.append_ #[t1, t2] o.type #[v, u]).run Tryd.prog w = .ok v' w') (h : wpList Tryd.prog ops Q rest (a.put o.dst v') w') : wpList Tryd.prog ops Q (o :: rest) a w := by
  refine wpList_plain hgd fun K hK => ?_
  unfold Oper.wp execOp
  simp only [ho, resolve, invoke, builtin, Sem.run_bind, Sem.run_pure, Result.andThen_ok, List.map_toArray, List.map_cons, List.map_nil, hs, hx, hr]
  exact hK _ _ h
set_option maxRecDepth 100000 in
theorem OwnB.shape5 {w : World} {B : Nat} {x : Value} {l : List Int} (h : OwnB w B x l) (h0 : 0 < l.length) : ∃ b cap, x = .slice (some ⟨b, 0, none⟩) l.length cap ∧ l.length ≤ cap := by
  rcases h.2 with ⟨rfl, h1⟩ | ⟨k, cap, cur, rfl, _, hk, hnc, _⟩
  · omega
  · exact ⟨k, cap, rfl, hnc⟩

/-- While the answers are written over. -/
structure P1 (u wr : World) (B : Nat) (G : List (Option (Nat × List Int))) (v : Value) (i k : Nat) : Prop where
  hv : OwnS wr B v G
  rows : ∀ (t g : Nat) (l : List Int), G[t]? = some (some (g, l)) → ∃ l', l'.length = l.length ∧ Wf l' ∧ Bk wr g l' ∧ (t < i → l' = rp l.length ((t : Int) + 1)) ∧ (t = i → ∀ s, s < k → l'.getD s 0 = (i : Int) + 1)
  bl : Below B u wr
set_option maxRecDepth 100000 in
theorem P1.next {u wr : World} {B : Nat} {G : List (Option (Nat × List Int))} {v : Value} {i k : Nat} (h : P1 u wr B G v i k) (hk : ∀ g l, G[i]? = some (some (g, l)) → l.length ≤ k) : P1 u wr B G v (i + 1) 0 := by
  refine ⟨h.hv, fun t g l e => ?_, h.bl⟩
  obtain ⟨l', h1, h2, h3, h4, h5⟩ := h.rows t g l e
  refine ⟨l', h1, h2, h3, fun ht => ?_, fun _ s hs => by omega⟩
  by_cases hti : t = i
  · subst hti
    exact rp_of l' l.length _ h1 fun s hs => h5 rfl s (Nat.lt_of_lt_of_le hs (hk g l e))
  · exact h4 (by omega)
set_option maxRecDepth 100000 in
theorem P1.set {u wr : World} {B : Nat} {G : List (Option (Nat × List Int))} {v : Value} {i k g : Nat} {l : List Int} (h : P1 u wr B G v i k) (hGt : Gt u B G) (hi : i < 255) (e : G[i]? = some (some (g, l))) (hk : k < l.length) : P1 u (wr.setCell ⟨g, k, none⟩ (.int .u8 ((i : Int) + 1))) B G v i (k + 1) := by
  obtain ⟨l0, a1, a2, a3, _, a5⟩ := h.rows i g l e
  have hBg := (hGt.rows i g l e).2.1
  have hgr : wr.grownBy (wr.setCell ⟨g, k, none⟩ (.int .u8 ((i : Int) + 1))) (some g) := ⟨rfl, rfl, rfl, by simp [World.setCell], fun j _ hj => Below.heap_setCell _ _ _ _ (fun e => hj (by simp [e]))⟩
  have hne := ownS_ne h.hv a3 u8_neS
  refine ⟨World.ownsRow.kept h.hv hgr (.inr fun e => hne e.symm), fun t g' l' e' => ?_, h.bl.setCell (p := ⟨g, k, none⟩) hBg _⟩
  by_cases hti : t = i
  · subst hti
    have ee := e.symm.trans e'
    injection ee with ee
    injection ee with ee
    injection ee with e1 e2
    subst e1 e2
    refine ⟨l0.set k ((t : Int) + 1), by rw [List.length_set]; exact a1, fun y hy => ?_, ?_, fun ht => by omega, fun _ s hs => ?_⟩
    · rcases List.mem_or_eq_of_mem_set hy with hy | rfl
      · exact a2 y hy
      · omega
    · unfold Bk
      have := set_row (i := k) (u := .int .u8 ((t : Int) + 1)) a3
      rw [this]
      simp [By, List.map_set]
    · by_cases hsk : s = k
      · subst hsk
        simp [List.getD, a1, hk]
      · have := a5 rfl s (by omega)
        simp only [List.getD] at this ⊢
        rw [List.getElem?_set_ne (Ne.symm hsk)]
        exact this
  · obtain ⟨l2, b1, b2, b3, b4, b5⟩ := h.rows t g' l' e'
    have hgg : g' ≠ g := by
      rcases Nat.lt_or_ge t i with hlt | hge
      · have := hGt.ne t i g' g l' l e' e hlt; omega
      · have := hGt.ne i t g g' l l' e e' (by omega); omega
    exact ⟨l2, b1, b2, (Below.heap_setCell _ _ _ _ (by exact hgg)).trans b3, b4, fun h => absurd h hti⟩

set_option maxRecDepth 100000 in
set_option maxHeartbeats 8000000 in
theorem owned_any (v : Value) (B : Nat) (G : List (Option (Nat × List Int))) (u : World) (hO : OwnS u B v G) (hG : Gt u B G) (hB : B ≤ u.heap.size) (hlen : G.length = 4) :
    Calls Tryd.prog 14 #[v] u fun e u' => e = .returned (.bool true) ∧ Below B u u' := by
  rcases hO.shape with ⟨_, h2⟩ | ⟨gs, caps, hv, hBs, hcap, hgl, hcs⟩
  · rw [h2] at hlen; cases hlen
  rw [hlen] at hv hcap
  subst hv
  have HGT := hidden hG
  have HL := hidden hlen
  have P0 : Hid (P1 u u B G (.slice (some ⟨gs, 0, none⟩) 4 caps) 0 0) := hidden ⟨hO, fun t g l e => by obtain ⟨h1, h2, h3, h4⟩ := hG.rows t g l e; exact ⟨l, rfl, h3, h1, fun h => by omega, fun _ s hs => by omega⟩, Below.refl _ _⟩
  clear hO hG hlen hcs
  go_enter Tryd.func14, Tryd.ntmps14
  go_wp2_with fail
  go_loopw [3] (fun i wr => ∃ j : Nat, j ≤ 4 ∧ i = .int .i64 j ∧ Hid (P1 u wr B G (.slice (some ⟨gs, 0, none⟩) 4 caps) j 0)) (fun i _ => 4 - (intOf i).toNat)
  case atStart => exact ⟨0, by omega, rfl, P0⟩
  case round =>
    obtain ⟨j, hj, rfl, HP⟩ := hrel
    clear P0
    by_cases hlt : j < 4
    · have hjc : (j : Int) < 4 := by omega
      obtain ⟨x, hx⟩ : ∃ x, G[j]? = some x := ⟨_, List.getElem?_eq_getElem (by rw [HL.out]; exact hlt)⟩
      have HX := hidden hx
      clear hx
      obtain ⟨N, hN, hcell⟩ : ∃ N : Nat, (N ≤ 65536 ∧ ∀ g l, x = some (g, l) → l.length = N) ∧ ∀ wq, OwnS wq B (.slice (some ⟨gs, 0, none⟩) 4 caps) G → ∃ xo, wq.cell? ⟨gs, j, none⟩ = some (.slice xo N N) ∧ ∀ g l, x = some (g, l) → xo = some ⟨g, 0, none⟩ := by
        have hsh : ∀ wq, OwnS wq B (.slice (some ⟨gs, 0, none⟩) 4 caps) G → wq.cell? ⟨gs, j, none⟩ = some (gV x) := fun wq hq => by
          rcases hq.shape with ⟨_, h2⟩ | ⟨gs', caps', hv', _, _, _, hcs'⟩
          · have := HL.out; rw [h2] at this; cases this
          · injection hv' with e1 _ _
            injection e1 with e1
            injection e1 with e1 _
            rw [e1]
            exact hcs' j x HX.out
        cases x with
        | none => exact ⟨0, ⟨by omega, fun g l e => by cases e⟩, fun wq hq => ⟨none, hsh wq hq, fun g l e => by cases e⟩⟩
        | some p =>
          obtain ⟨g, l⟩ := p
          refine ⟨l.length, ⟨(HGT.out.rows j g l HX.out).2.2.2, fun g' l' e => ?_⟩, fun wq hq => ⟨some ⟨g, 0, none⟩, hsh wq hq, fun g' l' e => ?_⟩⟩
          · injection e with e; injection e with _ e; rw [e]
          · injection e with e; injection e with e _; rw [e]
      have HCELL := hidden hcell
      have HN := hidden hN.2
      have hN6 := hN.1
      have hwr : IntKind.u8.wrap ((j : Int) + 1) = (j : Int) + 1 := by rw [IntKind.wrap_u8]; omega
      clear hcell hN
      go_wp2_with fail
      go_loopw [4] (fun i' wr' => ∃ k : Nat, k ≤ N ∧ i' = .int .i64 k ∧ Hid (P1 u wr' B G (.slice (some ⟨gs, 0, none⟩) 4 caps) j k)) (fun i' _ => N - (intOf i').toNat)
      case atStart => exact ⟨0, by omega, rfl, HP⟩
      case round =>
        clear HP
        obtain ⟨k, hk, rfl, HP⟩ := hrel
        obtain ⟨xo, hc, hxo⟩ := HCELL.out wr HP.out.hv
        by_cases hkl : k < N
        · have hkc : (k : Int) < (N : Int) := by omega
          obtain ⟨g, l, hxe⟩ : ∃ g l, x = some (g, l) := by
            cases x with
            | none =>
              exfalso
              rcases HP.out.hv.shape with ⟨_, h2⟩ | ⟨gs', caps', hv', _, _, _, hcs'⟩
              · have := HL.out; rw [h2] at this; cases this
              · injection hv' with e1 _ _
                injection e1 with e1
                injection e1 with e1 _
                have h5 := hcs' j none HX.out
                rw [← e1, hc] at h5
                injection h5 with h5
                injection h5 with _ h5 _
                have h6 : N = 0 := h5
                omega
            | some p => exact ⟨p.1, p.2, rfl⟩
          have hxe2 := hxo g l hxe
          subst hxe2
          have hl := HN.out g l hxe
          have hGj : G[j]? = some (some (g, l)) := by rw [HX.out, hxe]
          obtain ⟨l0, a1, a2, a3, _, _⟩ := HP.out.rows j g l hGj
          have hcb := a3.cell k (by omega)
          obtain ⟨y0, hcb⟩ : ∃ y, wr.cell? ⟨g, k, none⟩ = some y := ⟨_, hcb⟩
          have hfr := a3.free k
          have HP2 := hidden (HP.out.set HGT.out (by omega) hGj (by omega))
          clear HP a1 a2 a3 hxo hxe hl hGj
          go_wp2
          go_roundw
          case rel => exact ⟨k + 1, by omega, by go_num, HP2⟩
          case measure => simp [intOf]; omega
        · have hkc : ¬ (k : Int) < (N : Int) := by omega
          have HP2 := hidden (HP.out.next (fun g l e => by
            have h1 := HX.out.symm.trans e
            injection h1 with h1
            have := HN.out g l h1
            omega))
          clear HP hxo
          go_wp2
          go_roundw
          case rel => exact ⟨j + 1, by omega, by go_num, HP2⟩
          case measure => simp [intOf]; omega
    · obtain rfl : j = 4 := by omega
      rw [show ((4 : Nat) : Int) = 4 from rfl]
      have hvb : ∀ g, Value.ownBlock (.slice (some ⟨gs, 0, none⟩) 4 caps) = some g → g < wr.heap.size := fun g hg => (World.ownsRow.lt HP.out.hv g hg).2
      have HQ : Hid (Q2 u wr B wr.heap.size G 0 (.slice none 0 0) (.slice (some ⟨gs, 0, none⟩) 4 caps) []) := hidden ⟨HP.out.hv, OwnH.nil _ _, rfl, (fun q b m c e => by simp at e), (fun t g l _ e => by
        obtain ⟨l', h1, h2, h3, h4, _⟩ := HP.out.rows t g l e
        have ht : t < 4 := by have := (List.getElem?_eq_some_iff.1 e).1; rw [HL.out] at this; exact this
        rw [h4 ht] at h3
        exact ⟨h3, fun q b m c e => by simp at e⟩), HP.out.bl, hB, Nat.le_refl _, hvb⟩
      have hB2 : B ≤ wr.heap.size := Nat.le_trans hB HP.out.bl.size
      obtain ⟨B2, hB2e⟩ : ∃ B2, wr.heap.size = B2 := ⟨_, rfl⟩
      rw [hB2e] at HQ hB2
      clear HP hvb hB2e
      go_wp2_with fail
      go_loopw [5, 6] (fun vG i wr' => ∃ (j : Nat) (H : List (Nat × Nat × Nat)), j ≤ 4 ∧ i = .int .i64 j ∧ Hid (Q2 u wr' B B2 G j vG (.slice (some ⟨gs, 0, none⟩) 4 caps) H)) (fun _ i _ => 4 - (intOf i).toNat)
      case atStart => exact ⟨0, [], by omega, rfl, HQ⟩
      case round =>
        clear HQ
        obtain ⟨j, H, hj, rfl, HQ⟩ := hrel
        by_cases hlt : j < 4
        · have hjc : (j : Int) < 4 := by omega
          obtain ⟨y, hy⟩ : ∃ x, G[j]? = some x := ⟨_, List.getElem?_eq_getElem (by rw [HL.out]; exact hlt)⟩
          have hcell : wr.cell? ⟨gs, j, none⟩ = some (gV y) := by
            rcases HQ.out.hv.shape with ⟨_, h2⟩ | ⟨gs', caps', hv', _, _, _, hcs'⟩
            · have := HL.out; rw [h2] at this; cases this
            · injection hv' with e1 _ _
              injection e1 with e1
              injection e1 with e1 _
              rw [e1]
              exact hcs' j y hy
          obtain ⟨n, hn6, hP2⟩ := HQ.out.into HGT.out y hy
          have HP0 := hidden hP2
          have hwr : IntKind.u8.wrap ((j : Int) + 1) = (j : Int) + 1 := by rw [IntKind.wrap_u8]; omega
          clear hP2 HQ hy
          generalize gV y = x0 at *
          go_wp2_with fail
          go_loopw [5, 7, 8] (fun vG x i' wr' => ∃ (k : Nat) (H : List (Nat × Nat × Nat)), k ≤ 16 ∧ i' = .int .i64 k ∧ Hid (P2 u wr' B B2 G j n k k x vG (.slice (some ⟨gs, 0, none⟩) 4 caps) H)) (fun _ _ i' _ => 16 - (intOf i').toNat)
          case atStart => exact ⟨0, H, by omega, rfl, HP0⟩
          case round =>
            clear HP0 hcell
            obtain ⟨k, H, hk, rfl, HP⟩ := hrel
            by_cases hkl : k < 16
            · have hkc : (k : Int) < 16 := by omega
              have HPa := hidden (HP.out.on ((Below.refl _ _).alloc (Nat.le_refl _) (.cells #[.int .u8 ((j : Int) + 1)] 5)))
              have hcl : (wr.alloc (.cells #[.int .u8 ((j : Int) + 1)] 5)).cell? ⟨wr.heap.size, 0, none⟩ = some (.int .u8 ((j : Int) + 1)) := (lit_cell5 wr #[.int .u8 ((j : Int) + 1)] 5 (0, 0) 0 wr.heap.size rfl).trans rfl
              obtain ⟨x1, v1, hr1, ho1, ha1⟩ := app_one (wr.alloc (.cells #[.int .u8 ((j : Int) + 1)] 5)) B 29 _ _ ((j : Int) + 1) wr.heap.size HPa.out.hx hcl (by rw [rp_length]; omega) (Nat.le_trans HPa.out.bB HPa.out.bl.size)
              have HP1 := hidden (HPa.out.appX ho1 ha1)
              have HR1 := hidden hr1
              clear hr1 ho1 ha1 hcl HPa HP
              go_wp2_with (at_builtin; refine app_run7 rfl _ _ 29 29 rfl _ _ rfl rfl HR1.out ?_; refine Hid.out ?_)
              apply hidden
              obtain ⟨b, c, hx1, hbc⟩ := HP1.out.hx.shape5 (by rw [rp_length]; omega)
              rw [rp_length] at hx1 hbc
              rw [hx1] at HP1 ⊢
              have HPb := hidden (HP1.out.on ((Below.refl _ _).alloc (Nat.le_refl _) (.cells #[hV (b, n + (k + 1), c)] 29)))
              have hcl2 : (v1.alloc (.cells #[hV (b, n + (k + 1), c)] 29)).cell? ⟨v1.heap.size, 0, none⟩ = some (hV (b, n + (k + 1), c)) := (lit_cell5 v1 #[hV (b, n + (k + 1), c)] 29 (0, 0) 0 v1.heap.size rfl).trans rfl
              have HCL2 := hidden hcl2
              have hlenH : H.length + 1 ≤ 1000000 := by have := HP1.out.len; omega
              have hb2 : B2 ≤ v1.heap.size := HP1.out.b2
              clear hcl2 HR1 HP1 hx1
              go_wp2_with (at_builtin; refine app_grownH _ rfl _ _ rfl B2 H _ (b, n + (k + 1), c) rfl HPb.out.hG v1.heap.size rfl HCL2.out hlenH (by simp; omega) ?_; intro vG2 w2 HOH HGH)
              have HP3 := hidden (HPb.out.appG hkl (by omega) rfl HOH.out HGH.out hB2)
              clear HPb HCL2 HOH HGH
              go_wp2
              go_roundw
              case rel => exact ⟨k + 1, _, by omega, by go_num, HP3⟩
              case measure => simp [intOf]; omega
            · obtain rfl : k = 16 := by omega
              have HQ2 := hidden HP.out.out
              clear HP
              go_wp2
              go_roundw
              case rel => exact ⟨j + 1, _, by omega, by go_num, HQ2⟩
              case measure => simp [intOf]; omega
        · obtain rfl : j = 4 := by omega
          rw [show ((4 : Nat) : Int) = 4 from rfl]
          have hH : H.length = 64 := HQ.out.len
          obtain ⟨gH, capH, hvH, _, hcapH, hglH, hcsH⟩ := HQ.out.hG.shape (by omega)
          rw [hH] at hvH hcapH
          subst hvH
          have HROW := hidden HQ.out.rows
          have HBL := hidden HQ.out.bl
          have HCS := hidden hcsH
          have HH := hidden hH
          clear HQ hcsH hH
          go_wp2_with fail
          go_loop [9] (fun i => ∃ q : Nat, q ≤ 64 ∧ i = .int .i64 q) (fun i => 64 - (intOf i).toNat)
          case atStart => exact ⟨0, by omega, rfl⟩
          case round =>
            obtain ⟨q, hq, rfl⟩ := hrel
            by_cases hq6 : q < 64
            · have hqc : (q : Int) < 64 := by omega
              obtain ⟨p, hp⟩ : ∃ p, H[q]? = some p := ⟨_, List.getElem?_eq_getElem (by rw [HH.out]; exact hq6)⟩
              obtain ⟨b, m, c⟩ := p
              have hce : wr.cell? ⟨gH, q, none⟩ = some (.slice (some ⟨b, 0, none⟩) m c) := HCS.out q _ hp
              obtain ⟨⟨hmc, hm7⟩, _, hcells⟩ := HROW.out q b m c hp
              have HCE := hidden hcells
              have hdv : (q : Int) / 16 = ((q / 16 : Nat) : Int) := by omega
              have hdv2 : Int.tdiv (q : Int) 16 = ((q / 16 : Nat) : Int) := by rw [Int.tdiv_eq_ediv_of_nonneg (by omega)]; omega
              obtain ⟨z, hz⟩ : ∃ z : Nat, q / 16 = z := ⟨_, rfl⟩
              rw [hz] at hdv hdv2 HCE
              have hz4 : z < 4 := by omega
              have hwz : IntKind.u8.wrap ((z : Int) + 1) = (z : Int) + 1 := by rw [IntKind.wrap_u8]; omega
              clear hcells hp hz
              go_wp2_with fail
              go_loop [10] (fun i => ∃ k : Nat, k ≤ m ∧ i = .int .i64 k) (fun i => m - (intOf i).toNat)
              case atStart => exact ⟨0, by omega, rfl⟩
              case round =>
                obtain ⟨k, hk, rfl⟩ := hrel
                by_cases hkm : k < m
                · have hkc : (k : Int) < (m : Int) := by omega
                  have hcc := HCE.out k hkm
                  have hself : (((z : Int) + 1) == ((z : Int) + 1)) = true := by simp
                  go_wp2
                  go_round
                  case rel => exact ⟨k + 1, by omega, by go_num⟩
                  case measure => simp [intOf]; omega
                · have hkc : ¬ (k : Int) < (m : Int) := by omega
                  go_wp2
                  go_round
                  case rel => exact ⟨q + 1, by omega, by go_num⟩
                  case measure => simp [intOf]; omega
            · have hqc : ¬ (q : Int) < 64 := by omega
              go_wp2
              go_ret
              exact ⟨rfl, HBL.out⟩
end Go.Proofs.YtoifjcliepongaaDoor
