/- The chapter's first examples: awake answers true. -/
import Derived.Test.YtikpfcapnpppdaaPl12
import Derived.Deep.RegionLawGrows
import Derived.Deep.RegionHeld3
namespace Go.Proofs.Ytikpfcapnpppdaa
open Go.RowKit

set_option maxRecDepth 100000 in
theorem alloc_row (u : World) (o : Obj) : (u.alloc o).heap[u.heap.size]? = some o := by
  show (u.heap.push o)[u.heap.size]? = some o
  simp
set_option maxRecDepth 100000 in
theorem alloc_lt (u : World) (o : Obj) : u.heap.size < (u.alloc o).heap.size := by simp
/-- What the last test of the examples leans on. -/
def Wo (w0 : World) (gb gc a : Nat) (l7 lc : List Int) (u : World) : Prop :=
  (∃ X d, St w0 u X a d ∧ d.page = 512 ∧ d.pages = 4) ∧ u.heap[gb]? = some (.cells (By l7).toArray 5 (0, 0)) ∧ u.heap[gc]? = some (.cells (By lc).toArray 5 (0, 0))
set_option maxRecDepth 100000 in
theorem Wo.on {w0 : World} {gb gc a : Nat} {l7 lc : List Int} {u v : World} (h : Wo w0 gb gc a l7 lc u) (hb : Below u.heap.size u v) : Wo w0 gb gc a l7 lc v := by
  obtain ⟨⟨X, d, hs, h1, h2⟩, h3, h4⟩ := h
  exact ⟨⟨_, d, hs.page hb, h1, h2⟩, (hb.block _ (lt_of_some h3)).trans h3, (hb.block _ (lt_of_some h4)).trans h4⟩
/-- A row of bytes as a string. -/
def Cv (u : World) (g n c : Nat) (l : List Int) : Prop := (convert 35 9 (.slice (some ⟨g, 0, none⟩) n c)).run Try.prog u = .ok (.string (strOfNums l)) u
set_option maxRecDepth 100000 in
theorem cv_row {u : World} {g n : Nat} {l : List Int} (h : u.heap[g]? = some (.cells (By l).toArray 5 (0, 0))) (hl : l.length = n ∧ Wf l) (hn : n ≤ 140737488355328) : Cv u g n n l := conv_sl (row_sl h hl.1 hl.2 hn)
set_option maxRecDepth 100000 in
theorem Wo.al {w0 : World} {gb gc a : Nat} {l7 lc : List Int} {u : World} (h : Wo w0 gb gc a l7 lc u) (o : Obj) : Wo w0 gb gc a l7 lc (u.alloc o) := h.on ((Below.refl _ _).alloc (Nat.le_refl _) o)
set_option maxRecDepth 100000 in
theorem Wo.dr {w0 : World} {gb gc a : Nat} {l7 lc : List Int} {u : World} (h : Wo w0 gb gc a l7 lc u) : Wo w0 gb gc a l7 lc u.drew := h.on (Below.refl _ _).drew
set_option maxRecDepth 100000 in
theorem Wo_page {w0 : World} {gb gc a : Nat} {l7 lc : List Int} {u : World} (h : Wo w0 gb gc a l7 lc u) (n : Nat) (c : Int) (hn : n ≤ 67108864) : Calls Try.prog 17 #[.int .i64 (n : Int), .int .u8 c] u fun e v => ∃ g, e = .returned (.slice (some ⟨g, 0, none⟩) n n) ∧ Wo w0 gb gc a l7 lc v ∧ v.heap[g]? = some (.cells (By (List.replicate n c)).toArray 5 (0, 0)) ∧ Below u.heap.size u v := by
  refine (page_any u n c hn).mono ?_
  rintro e v ⟨rfl, hh, hb⟩
  exact ⟨_, rfl, h.on hb, hh, hb⟩
set_option maxRecDepth 100000 in
theorem Wo_dv {w0 : World} {gb gc a : Nat} {l7 lc : List Int} {u : World} (h : Wo w0 gb gc a l7 lc u) : ∃ F d, Dv u F a d ∧ d.page = 512 ∧ d.pages = 4 := by
  obtain ⟨⟨X, d, hs, h1, h2⟩, h3, h4⟩ := h
  obtain ⟨F, hD⟩ := hs.dv
  exact ⟨F, d, hD, h1, h2⟩
set_option maxRecDepth 100000 in
theorem Wo_Page {w0 : World} {gb gc a : Nat} {l7 lc : List Int} {u : World} (h : Wo w0 gb gc a l7 lc u) : Calls Try.prog 11 #[.pointer (some ⟨a, 0, none⟩)] u fun e w' => e = .returned (.int .i64 512) ∧ w' = u := by
  obtain ⟨F, d, hD, h1, h2⟩ := Wo_dv h
  have := pg_any u F a d hD
  rw [h1] at this
  exact this
set_option maxRecDepth 100000 in
theorem Wo_Pages {w0 : World} {gb gc a : Nat} {l7 lc : List Int} {u : World} (h : Wo w0 gb gc a l7 lc u) : Calls Try.prog 13 #[.pointer (some ⟨a, 0, none⟩)] u fun e w' => e = .returned (.int .i64 4) ∧ w' = u := by
  obtain ⟨F, d, hD, h1, h2⟩ := Wo_dv h
  have := pgs_any u F a d hD
  rw [h2] at this
  exact this
set_option maxRecDepth 100000 in
/-- append that grows, guarded or not, as one step of a region that draws. -/
theorem step_append_more {ops : Array Oper} {o : Oper} {a : Act} {w : World} {K : Act → World → Prop} {Q : Exit → Act → World → Prop} {E : Prop}
    (hw : Region.wanted o (yielded ops a.tmps) = true) (s x : Operand) (hop : o.op = Op.call { callee := Callee.builtin Builtin.append, args := #[s, x], argTypes := #[35, 35] })
    (g1 n cap : Nat) (l1 : List Int) (hs : a.eval s = .slice (some ⟨g1, 0, none⟩) n cap) (hlo : l1.length = n) (holds : w.heap[g1]? = some (.cells (By l1).toArray 5 (0, 0)))
    (g2 m c : Nat) (l2 : List Int) (hx : a.eval x = .slice (some ⟨g2, 0, none⟩) m c) (hn : l2.length = m) (hc : w.heap[g2]? = some (.cells (By l2).toArray 5 (0, 0)))
    (hfull : cap < n + m) (N : Nat) (hN : n + m = N) (b2 : N ≤ 140737488355328) (hwf : Wf (l1 ++ l2))
    (hK : ∀ g3 c3 w', Sl w' (some ⟨g3, 0, none⟩) N c3 (l1 ++ l2) → Below w.heap.size w w' → K (a.put o.dst (.slice (some ⟨g3, 0, none⟩) N c3)) w') :
    if Region.wanted o (yielded ops a.tmps) = true then Oper.wp Try.prog o a w K Q else E := by
  rw [if_pos hw]
  obtain ⟨i0, hi, hz0, hz1, hz2⟩ := info_parts info5
  obtain ⟨v', w', hrun, r1, r2⟩ := run_append_arg_grows (P := Try.prog) w 35 o.type 5 i0 (.int .u8 0) 1 1 Try.underlying35 hi hz0 hz1 hz2 rfl (by decide) ⟨g1, 0, none⟩ n cap (By l1) (by rw [By_length]; omega) (row_cells holds) ⟨g2, 0, none⟩ m c (By l2) (by rw [By_length]; omega) (row_cells hc) hfull (by unfold maxLen; omega) (by omega)
  unfold Oper.wp
  simp [execOp, hop, resolve, invoke, builtin, hs, hx, hrun, Result.andThen]
  have hb : Below w.heap.size w w' := (Below.refl _ _).grown r2 (Nat.le_refl _) (fun k hk => by cases hk)
  rcases r1.2 with ⟨_, h0⟩ | ⟨g3, c3, cur, rfl, h4⟩
  · omega
  · rw [hN]
    refine hK g3 c3 w' ?_ hb
    have ho : OwnB w' w.heap.size (.slice (some ⟨g3, 0, none⟩) (n + m) c3) (l1 ++ l2) := by
      unfold OwnB
      rw [By_append, List.length_append, hlo, hn]
      exact r1
    have hlen : (l1 ++ l2).length = N := by rw [List.length_append]; omega
    obtain ⟨ao, c', e, hsl, _⟩ := ho.sl hwf (by omega)
    rw [hlen, hN] at e
    rw [hlen] at hsl
    injection e with e1 e2 e3
    subst e1 e3
    exact hsl

set_option maxRecDepth 100000 in
set_option maxHeartbeats 2000000 in
theorem awake_any (w : World) : Calls Try.prog 4 #[] w fun e w' => e = .returned (.bool true) ∧ Below w.heap.size w w' := by
  obtain ⟨l7, h7⟩ : ∃ l, List.replicate 512 (7 : Int) = l := ⟨_, rfl⟩
  obtain ⟨l2, h2⟩ : ∃ l, List.replicate 512 (2 : Int) = l := ⟨_, rfl⟩
  have HL7 : Hid (l7.length = 512 ∧ Wf l7) := hidden (by rw [← h7]; exact ⟨List.length_replicate .., replicate_wf _ _ (by omega)⟩)
  have HL2 : Hid (l2.length = 512 ∧ Wf l2) := hidden (by rw [← h2]; exact ⟨List.length_replicate .., replicate_wf _ _ (by omega)⟩)
  have H7 := hidden h7
  have H2 := hidden h2
  clear h7 h2
  have hN := St_New w 512 4 (by decide)
  go_enter Try.func4, Try.ntmps4
  go_wp2_with (go_at_call 6; refine hN.mono ?_; rintro e w1 ⟨a, rfl, s1⟩; have S1 : Hid (St w w1 (fun _ => False) a dA) := hidden s1; clear s1; refine Hid.out ?_)
  apply hidden
  clear hN
  go_wp2_with (go_at_call 6; refine same_call (New_no 512 3 w1 (by decide)) ?_; refine Hid.out ?_)
  apply hidden
  have c1 := St_page w w1 _ a dA S1.out 512 7 (by omega)
  go_wp2_with (go_at_call 17; refine c1.mono ?_; rintro e w2 ⟨g, X2, rfl, r2, s2, x2, k2⟩; have S2 := hidden s2; have R2 := hidden r2; have Xg := hidden x2; clear s2 r2 x2 k2; refine Hid.out ?_)
  apply hidden
  clear c1 S1
  rw [H7.out] at R2
  have c2 : Calls Try.prog 16 #[.pointer (some ⟨a, 0, none⟩), .int .i64 2, .slice (some ⟨g, 0, none⟩) 512 512] w2 fun e u => e = .returned (.int .i64 0) ∧ St w u X2 a (dB l7) ∧ ∀ k, X2 k → u.heap[k]? = w2.heap[k]? := St_Write w w2 X2 a dA S2.out 2 g 512 l7 rfl (by decide) HL7.out.1 HL7.out.2 R2.out Xg.out (by decide) (by decide) (by decide) rfl
  go_wp2_with (go_at_call 16; refine c2.mono ?_; rintro e w3 ⟨rfl, s3, k3⟩; have S3 := hidden s3; clear s3 k3; refine Hid.out ?_)
  apply hidden
  clear c2 S2 R2 Xg
  have c3 : Calls Try.prog 18 #[.pointer (some ⟨a, 0, none⟩), .int .i64 2] w3 fun e u => ∃ g X', e = .returned (.tuple #[.slice (some ⟨g, 0, none⟩) 512 512, .int .i64 0]) ∧ u.heap[g]? = some (.cells (By (rd (dB l7) 2)).toArray 5 (0, 0)) ∧ St w u X' a (dC l7) ∧ X' g ∧ (∀ k, X2 k → X' k ∧ u.heap[k]? = w3.heap[k]?) := St_Read w w3 X2 a (dB l7) S3.out 2 rfl (by show 2 < 4; omega) (by show (0 : Int) ≤ 0; omega) (by show (0 : Int) < 4611686018427387904; omega)
  rw [dB_read] at c3
  go_wp2_with (go_at_call 18; refine c3.mono ?_; rintro e w4 ⟨gb, X4, rfl, r4, s4, x4, k4⟩; have S4 := hidden s4; have R4 := hidden r4; have Xb := hidden x4; clear s4 r4 x4 k4; refine Hid.out ?_)
  apply hidden
  clear c3 S3
  have c4 : Calls Try.prog 19 #[.pointer (some ⟨a, 0, none⟩)] w4 fun e w' => e = .returned (.int .i64 1) ∧ w' = w4 := by
    obtain ⟨F, hD⟩ := S4.out.dv
    exact lse_any w4 F a (dC l7) hD
  go_wp2_with (go_at_call 19; refine same_call c4 ?_; refine Hid.out ?_)
  apply hidden
  clear c4
  have c5 : Calls Try.prog 20 #[.pointer (some ⟨a, 0, none⟩)] w4 fun e u => e = .returned (.int .i64 0) ∧ St w u X4 a (dE l7) ∧ ∀ k, X4 k → u.heap[k]? = w4.heap[k]? := St_Sync w w4 X4 a (dC l7) S4.out rfl rfl (by show (0 : Int) ≤ 0; omega) (by show (0 : Int) < 4611686018427387904; omega)
  go_wp2_with (go_at_call 20; refine c5.mono ?_; rintro e w5 ⟨rfl, s5, k5⟩; have S5 := hidden s5; have R5 := hidden ((k5 gb Xb.out).trans R4.out); clear s5 k5; refine Hid.out ?_)
  apply hidden
  clear c5 S4 R4
  have c6 := St_page w w5 X4 a (dE l7) S5.out 512 2 (by omega)
  go_wp2_with (go_at_call 17; refine c6.mono ?_; rintro e w6 ⟨g6, X6, rfl, r6, s6, x6, k6⟩; have S6 := hidden s6; have R6 := hidden r6; have Xg := hidden x6; have B6 := hidden ((k6 gb Xb.out).2.trans R5.out); replace Xb := hidden (k6 gb Xb.out).1; clear s6 r6 x6 k6; refine Hid.out ?_)
  apply hidden
  clear c6 S5 R5
  rw [H2.out] at R6
  have c7 : Calls Try.prog 16 #[.pointer (some ⟨a, 0, none⟩), .int .i64 3, .slice (some ⟨g6, 0, none⟩) 512 512] w6 fun e u => e = .returned (.int .i64 0) ∧ St w u X6 a (dF l7 l2) ∧ ∀ k, X6 k → u.heap[k]? = w6.heap[k]? := St_Write w w6 X6 a (dE l7) S6.out 3 g6 512 l2 rfl (by show 3 < 4; omega) HL2.out.1 HL2.out.2 R6.out Xg.out (by show (0 : Int) ≤ 1; omega) (by show (1 : Int) < 4611686018427387904; omega) (by show 0 < 4398046511103; omega) rfl
  go_wp2_with (go_at_call 16; refine c7.mono ?_; rintro e w7 ⟨rfl, s7, k7⟩; have S7 := hidden s7; have B7 := hidden ((k7 gb Xb.out).trans B6.out); clear s7 k7; refine Hid.out ?_)
  apply hidden
  clear c7 S6 R6 B6 Xg
  have c8 := St_page w w7 X6 a (dF l7 l2) S7.out 512 2 (by omega)
  go_wp2_with (go_at_call 17; refine c8.mono ?_; rintro e w8 ⟨g8, X8, rfl, r8, s8, x8, k8⟩; have S8 := hidden s8; have B8 := hidden ((k8 gb Xb.out).2.trans B7.out); replace Xb := hidden (k8 gb Xb.out).1; clear s8 r8 x8 k8; refine Hid.out ?_)
  apply hidden
  clear c8 S7 B7
  have c9 : Calls Try.prog 16 #[.pointer (some ⟨a, 0, none⟩), .int .i64 4, .slice (some ⟨g8, 0, none⟩) 512 512] w8 fun e w' => e = .returned (.int .i64 30) ∧ w' = w8 := by
    obtain ⟨F, hD⟩ := S8.out.dv
    exact Write_no w8 F a (dF l7 l2) 4 _ 512 512 hD 30 rfl (by omega)
  go_wp2_with (go_at_call 16; refine same_call c9 ?_; refine Hid.out ?_)
  apply hidden
  clear c9
  have c10 : Calls Try.prog 21 #[.pointer (some ⟨a, 0, none⟩), .agg #[.slice none 0 0, .int .i64 0, .int .i64 2]] w8 fun e u => e = .returned (.tuple #[]) ∧ St w u X8 a (dG l7 l2) ∧ ∀ k, X8 k → u.heap[k]? = w8.heap[k]? := St_Crash w w8 X8 a (dF l7 l2) S8.out none 0 0 [] 0 2 (Ks.nil _) rfl
  go_wp2_with (go_at_call 21; refine c10.mono ?_; rintro e w9 ⟨rfl, s9, k9⟩; have S9 := hidden s9; have B9 := hidden ((k9 gb Xb.out).trans B8.out); clear s9 k9; refine Hid.out ?_)
  apply hidden
  clear c10 S8 B8
  have c11 : Calls Try.prog 9 #[.pointer (some ⟨a, 0, none⟩)] w9 fun e w' => e = .returned (.bool false) ∧ w' = w9 := by
    obtain ⟨F, hD⟩ := S9.out.dv
    exact up_any w9 F a (dG l7 l2) hD
  go_wp2_with (go_at_call 9; refine same_call c11 ?_; refine Hid.out ?_)
  apply hidden
  clear c11
  have c12 : Calls Try.prog 18 #[.pointer (some ⟨a, 0, none⟩), .int .i64 2] w9 fun e w' => e = .returned (.tuple #[.slice none 0 0, .int .i64 3]) ∧ w' = w9 := by
    obtain ⟨F, hD⟩ := S9.out.dv
    exact Read_no w9 F a (dG l7 l2) 2 hD 3 rfl (by omega)
  go_wp2_with (go_at_call 18; refine same_call c12 ?_; refine Hid.out ?_)
  apply hidden
  clear c12
  have c13 : Calls Try.prog 22 #[.pointer (some ⟨a, 0, none⟩)] w9 fun e u => e = .returned (.tuple #[]) ∧ St w u X8 a (dH l7 l2) ∧ ∀ k, X8 k → u.heap[k]? = w9.heap[k]? := St_Start w w9 X8 a (dG l7 l2) S9.out
  go_wp2_with (go_at_call 22; refine c13.mono ?_; rintro e w10 ⟨rfl, s10, k10⟩; have S10 := hidden s10; have B10 := hidden ((k10 gb Xb.out).trans B9.out); clear s10 k10; refine Hid.out ?_)
  apply hidden
  clear c13 S9 B9
  have c14 : Calls Try.prog 18 #[.pointer (some ⟨a, 0, none⟩), .int .i64 3] w10 fun e u => ∃ g X', e = .returned (.tuple #[.slice (some ⟨g, 0, none⟩) 512 512, .int .i64 0]) ∧ u.heap[g]? = some (.cells (By (rd (dH l7 l2) 3)).toArray 5 (0, 0)) ∧ St w u X' a { dH l7 l2 with cr := 2 } ∧ X' g ∧ (∀ k, X8 k → X' k ∧ u.heap[k]? = w10.heap[k]?) := St_Read w w10 X8 a (dH l7 l2) S10.out 3 rfl (by show 3 < 4; omega) (by show (0 : Int) ≤ 1; omega) (by show (1 : Int) < 4611686018427387904; omega)
  rw [dH_read l7 l2 HL7.out.1 HL2.out.1] at c14
  go_wp2_with (go_at_call 18; refine c14.mono ?_; rintro e w11 ⟨gc, X11, rfl, r11, s11, x11, k11⟩; have S11 := hidden s11; have R11 := hidden r11; have B11 := hidden ((k11 gb Xb.out).2.trans B10.out); clear s11 r11 x11 k11; refine Hid.out ?_)
  apply hidden
  clear c14 S10 B10 Xb
  obtain ⟨lc, hlc⟩ : ∃ l, List.take 2 l2 ++ List.replicate 510 (0 : Int) = l := ⟨_, rfl⟩
  rw [hlc] at R11
  have HLC : Hid (lc.length = 512 ∧ Wf lc) := hidden (by
    rw [← hlc]
    exact ⟨by rw [List.length_append, List.length_take, HL2.out.1, List.length_replicate]; rfl, (HL2.out.2.take 2).append (replicate_wf _ _ (by omega))⟩)
  have HCE : Hid ([2, 2] ++ List.replicate 510 (0 : Int) = lc) := hidden (by
    rw [← hlc, ← H2.out]; rfl)
  clear hlc
  have WO : Hid (Wo w gb gc a l7 lc w11) := hidden ⟨⟨_, _, S11.out, rfl, rfl⟩, B11.out, R11.out⟩
  clear S11 R11 B11
  obtain ⟨z510, hz510⟩ : ∃ l, List.replicate 510 (0 : Int) = l := ⟨_, rfl⟩
  rw [hz510] at HCE
  have HZ : Hid (z510.length = 510 ∧ Wf z510) := hidden (by rw [← hz510]; exact ⟨List.length_replicate .., replicate_wf _ _ (by omega)⟩)
  obtain ⟨lit, hlit⟩ : ∃ o : Obj, Obj.cells #[.int .u8 2, .int .u8 2] 5 (0, 0) = o := ⟨_, rfl⟩
  have HLit := hidden hlit
  obtain ⟨S7, hS7⟩ : ∃ x, strOfNums l7 = x := ⟨_, rfl⟩
  obtain ⟨SC, hSC⟩ : ∃ x, strOfNums lc = x := ⟨_, rfl⟩
  have CB : Hid (∀ u, Wo w gb gc a l7 lc u → (convert 35 9 (.slice (some ⟨gb, 0, none⟩) 512 512)).run Try.prog u = .ok (.string S7) u) := hidden fun u hu => by rw [← hS7]; exact cv_row hu.2.1 HL7.out (by omega)
  have CC : Hid (∀ u, Wo w gb gc a l7 lc u → (convert 35 9 (.slice (some ⟨gc, 0, none⟩) 512 512)).run Try.prog u = .ok (.string SC) u) := hidden fun u hu => by rw [← hSC]; exact cv_row hu.2.2 HLC.out (by omega)
  have P1 : Hid (Calls Try.prog 17 #[.int .i64 512, .int .u8 7] w11.drew fun e v => ∃ g, e = .returned (.slice (some ⟨g, 0, none⟩) 512 512) ∧ Hid (Wo w gb gc a l7 lc v) ∧ (convert 35 9 (.slice (some ⟨g, 0, none⟩) 512 512)).run Try.prog v = .ok (.string S7) v) := hidden (by
    refine (Wo_page WO.out.dr 512 7 (by omega)).mono ?_
    rintro e v ⟨g, rfl, h1, h2, _⟩
    refine ⟨g, rfl, hidden h1, ?_⟩
    rw [H7.out] at h2
    rw [← hS7]
    exact cv_row h2 HL7.out (by omega))
  have P2 : Hid (∀ u, Wo w gb gc a l7 lc u → Calls Try.prog 17 #[.int .i64 510, .int .u8 0] u fun e v => ∃ g, e = .returned (.slice (some ⟨g, 0, none⟩) 510 510) ∧ Hid (Wo w gb gc a l7 lc v) ∧ Hid (v.heap[g]? = some (.cells (By z510).toArray 5 (0, 0))) ∧ Hid (Below u.heap.size u v)) := hidden fun u hu => by
    refine (Wo_page hu 510 0 (by omega)).mono ?_
    rintro e v ⟨g, rfl, h1, h2, h3⟩
    rw [hz510] at h2
    exact ⟨g, rfl, hidden h1, hidden h2, hidden h3⟩
  have kb0 := CB.out _ WO.out.dr
  have e7 : (S7.toList == S7.toList) = true := by simp
  have e1 : ((1 : Int) == 1) = true := rfl
  have eC : (SC.toList == SC.toList) = true := by simp
  have HSC := hidden hSC
  clear hS7 hSC hz510 H7 H2 HL7 HL2 hlit
  go_wp2_with fail
  refine wp_region_held_drew (S := fun u => (convert 35 9 (.slice (some ⟨gb, 0, none⟩) 512 512)).run Try.prog u = .ok (.string S7) u ∧ (convert 35 9 (.slice (some ⟨gc, 0, none⟩) 512 512)).run Try.prog u = .ok (.string SC) u) (by kernel_rfl) (⟨CB.out _ WO.out.dr, CC.out _ WO.out.dr⟩) (fun hHeld => ?_)
  refine wpAnyH_take (i := 0) (v := ?_) rfl (by kernel_rfl) (by kernel_rfl) (by kernel_rfl) (fun _ _ _ h => h) (Or.inl ⟨by rfl, ?_⟩) (by assumption) ?_
  rotate_left
  · (intro w hSw; (try dsimp only at hSw); go_simp; try (with_reducible rfl))
  try simp only [Act.put, List.getElem_toArray, List.getElem_cons_zero, List.setIfInBounds_toArray, List.set_cons_zero, List.set_cons_succ]
  refine wpAnyH_take (i := 1) (v := ?_) rfl (by kernel_rfl) (by kernel_rfl) (by kernel_rfl) (fun _ _ _ h => h) (Or.inl ⟨by rfl, ?_⟩) (by assumption) ?_
  rotate_left
  · (intro w hSw; (try dsimp only at hSw); go_simp; try (with_reducible rfl))
  try simp only [Act.put, List.getElem_toArray, List.getElem_cons_succ, List.getElem_cons_zero, List.setIfInBounds_toArray, List.set_cons_zero, List.set_cons_succ]
  refine wpAnyH_ready (rs := [2]) (by kernel_rfl) (by simp) ?_
  refine AllReadyH.cons rfl (fun K hK => ?_) AllReadyH.nil
  go_simp
  go_at_call 17
  refine P1.out.mono ?_
  rintro e u1 ⟨g1, rfl, W1, k1⟩
  dsimp only
  refine hK.out _ _ ⟨CB.out u1 W1.out, CC.out u1 W1.out⟩ (fun hHeld => ?_)
  clear hK K
  try simp only [Act.put, List.getElem_toArray, List.getElem_cons_succ, List.getElem_cons_zero, List.setIfInBounds_toArray, List.set_cons_zero, List.set_cons_succ]
  refine wpAnyH_ready (rs := [3]) (by kernel_rfl) (by simp) ?_
  refine AllReadyH.cons rfl (fun K hK => ?_) AllReadyH.nil
  go_simp
  refine hK.out _ _ ⟨CB.out u1 W1.out, CC.out u1 W1.out⟩ (fun hHeld => ?_)
  clear hK K
  try simp only [Act.put, List.getElem_toArray, List.getElem_cons_succ, List.getElem_cons_zero, List.setIfInBounds_toArray, List.set_cons_zero, List.set_cons_succ]
  refine wpAnyH_take (i := 4) (v := ?_) rfl (by kernel_rfl) (by kernel_rfl) (by kernel_rfl) (fun _ _ _ h => h) (Or.inl ⟨by rfl, ?_⟩) (by assumption) ?_
  rotate_left
  · (intro w hSw; (try dsimp only at hSw); go_simp; try (with_reducible rfl))
  try simp only [Act.put, List.getElem_toArray, List.getElem_cons_succ, List.getElem_cons_zero, List.setIfInBounds_toArray, List.set_cons_zero, List.set_cons_succ]
  refine wpAnyH_take (i := 5) (v := ?_) rfl (by kernel_rfl) (by kernel_rfl) (by kernel_rfl) (fun _ _ _ h => h) (Or.inl ⟨by rfl, ?_⟩) (by assumption) ?_
  rotate_left
  · (intro w hSw; (try dsimp only at hSw); go_simp; try (with_reducible rfl))
  try simp only [Act.put, List.getElem_toArray, List.getElem_cons_succ, List.getElem_cons_zero, List.setIfInBounds_toArray, List.set_cons_zero, List.set_cons_succ]
  refine wpAnyH_take (i := 6) (v := ?_) rfl (by kernel_rfl) (by kernel_rfl) (by kernel_rfl) (fun _ _ _ h => h) (Or.inl ⟨by rfl, ?_⟩) (by assumption) ?_
  rotate_left
  · (intro w hSw; (try dsimp only at hSw); go_simp; try (with_reducible rfl))
  try simp only [Act.put, List.getElem_toArray, List.getElem_cons_succ, List.getElem_cons_zero, List.setIfInBounds_toArray, List.set_cons_zero, List.set_cons_succ]
  refine wpAnyH_take (i := 7) (v := ?_) rfl (by kernel_rfl) (by kernel_rfl) (by kernel_rfl) (fun _ _ _ h => h) (Or.inl ⟨by rfl, ?_⟩) (by assumption) ?_
  rotate_left
  · (intro w hSw; (try dsimp only at hSw); go_simp; try (with_reducible rfl))
  try simp only [Act.put, List.getElem_toArray, List.getElem_cons_succ, List.getElem_cons_zero, List.setIfInBounds_toArray, List.set_cons_zero, List.set_cons_succ]
  refine wpAnyH_take (i := 8) (v := ?_) rfl (by kernel_rfl) (by kernel_rfl) (by kernel_rfl) (fun _ _ _ h => h) (Or.inl ⟨by rfl, ?_⟩) (by assumption) ?_
  rotate_left
  · (intro w hSw; (try dsimp only at hSw); go_simp; try (with_reducible rfl))
  try simp only [Act.put, List.getElem_toArray, List.getElem_cons_succ, List.getElem_cons_zero, List.setIfInBounds_toArray, List.set_cons_zero, List.set_cons_succ]
  refine wpAnyH_take (i := 9) (v := ?_) rfl (by kernel_rfl) (by kernel_rfl) (by kernel_rfl) (fun _ _ _ h => h) (Or.inl ⟨by rfl, ?_⟩) (by assumption) ?_
  rotate_left
  · (intro w hSw; (try dsimp only at hSw); go_simp; try (with_reducible rfl))
  try simp only [Act.put, List.getElem_toArray, List.getElem_cons_succ, List.getElem_cons_zero, List.setIfInBounds_toArray, List.set_cons_zero, List.set_cons_succ]
  refine wpAnyH_take (i := 10) (v := ?_) rfl (by kernel_rfl) (by kernel_rfl) (by kernel_rfl) (fun _ _ _ h => h) (Or.inl ⟨by rfl, ?_⟩) (by assumption) ?_
  rotate_left
  · (intro w hSw; (try dsimp only at hSw); go_simp; try (with_reducible rfl))
  try simp only [Act.put, List.getElem_toArray, List.getElem_cons_succ, List.getElem_cons_zero, List.setIfInBounds_toArray, List.set_cons_zero, List.set_cons_succ]
  refine wpAnyH_take (i := 11) (v := ?_) rfl (by kernel_rfl) (by kernel_rfl) (by kernel_rfl) (fun _ _ _ h => h) (Or.inl ⟨by rfl, ?_⟩) (by assumption) ?_
  rotate_left
  · (intro w hSw; (try dsimp only at hSw); go_simp; try (with_reducible rfl))
  try simp only [Act.put, List.getElem_toArray, List.getElem_cons_succ, List.getElem_cons_zero, List.setIfInBounds_toArray, List.set_cons_zero, List.set_cons_succ]
  refine wpAnyH_ready (rs := [12, 13]) (by kernel_rfl) (by simp) ?_
  refine AllReadyH.cons rfl (fun K hK => ?_) (AllReadyH.cons rfl (fun K hK => ?_) AllReadyH.nil)
  case' refine_1 =>
    go_simp
    refine hK.out _ _ ⟨CB.out _ (W1.out.al _), CC.out _ (W1.out.al _)⟩ (fun hHeld => ?_)
    clear hK K
    try simp only [Act.put, List.getElem_toArray, List.getElem_cons_succ, List.getElem_cons_zero, List.setIfInBounds_toArray, List.set_cons_zero, List.set_cons_succ]
    refine wpAnyH_ready (rs := [13]) (by kernel_rfl) (by simp) ?_
    refine AllReadyH.cons rfl (fun K hK => ?_) AllReadyH.nil
    go_simp
    go_at_call 17
    refine (P2.out _ (W1.out.al _)).mono ?_
    rintro e v ⟨g2, rfl, W2, r2, b2⟩
    dsimp only
    refine hK.out _ _ ⟨CB.out v W2.out, CC.out v W2.out⟩ (fun hHeld => ?_)
    clear hK K
    try simp only [Act.put, List.getElem_toArray, List.getElem_cons_succ, List.getElem_cons_zero, List.setIfInBounds_toArray, List.set_cons_zero, List.set_cons_succ]
    have RL : Hid (v.heap[u1.heap.size]? = some (.cells (By [2, 2]).toArray 5 (0, 0))) := hidden ((b2.out.block u1.heap.size (alloc_lt _ _)).trans (alloc_row _ _))
    generalize u1.heap.size = gl at RL ⊢
  case' refine_2 =>
    go_simp
    go_at_call 17
    refine (P2.out _ W1.out).mono ?_
    rintro e u2 ⟨g2, rfl, W2', r2', b2⟩
    dsimp only
    refine hK.out _ _ ⟨CB.out u2 W2'.out, CC.out u2 W2'.out⟩ (fun hHeld => ?_)
    clear hK K
    try simp only [Act.put, List.getElem_toArray, List.getElem_cons_succ, List.getElem_cons_zero, List.setIfInBounds_toArray, List.set_cons_zero, List.set_cons_succ]
    refine wpAnyH_ready (rs := [12]) (by kernel_rfl) (by simp) ?_
    refine AllReadyH.cons rfl (fun K hK => ?_) AllReadyH.nil
    go_simp
    refine hK.out _ _ ⟨CB.out _ (W2'.out.al _), CC.out _ (W2'.out.al _)⟩ (fun hHeld => ?_)
    clear hK K
    try simp only [Act.put, List.getElem_toArray, List.getElem_cons_succ, List.getElem_cons_zero, List.setIfInBounds_toArray, List.set_cons_zero, List.set_cons_succ]
    have W2 := hidden (W2'.out.al (Obj.cells #[Value.int IntKind.u8 2, Value.int IntKind.u8 2] 5 (0, 0)))
    have r2 := hidden ((Below.heap_alloc u2 (Obj.cells #[Value.int IntKind.u8 2, Value.int IntKind.u8 2] 5 (0, 0)) g2 (lt_of_some r2'.out)).trans r2'.out)
    have RL : Hid ((u2.alloc (Obj.cells #[Value.int IntKind.u8 2, Value.int IntKind.u8 2] 5 (0, 0))).heap[u2.heap.size]? = some (.cells (By [2, 2]).toArray 5 (0, 0))) := hidden (alloc_row _ _)
    generalize u2.alloc (Obj.cells #[Value.int IntKind.u8 2, Value.int IntKind.u8 2] 5 (0, 0)) = v at *
    generalize u2.heap.size = gl at RL ⊢
  all_goals
    refine wpAnyH_ready (rs := [14]) (by kernel_rfl) (by simp) ?_
    refine AllReadyH.cons rfl (fun K hK => ?_) AllReadyH.nil
    refine step_append_more (by rfl) (.tmp 99) (.tmp 100) rfl gl 2 2 [2, 2] rfl rfl RL.out g2 510 510 z510 rfl HZ.out.1 r2.out (by omega) 512 rfl (by omega) (by rw [HCE.out]; exact HLC.out.2) ?_
    intro g3 c3 v3 sl3 b3
    rw [HCE.out] at sl3
    have W3 := hidden (W2.out.on b3)
    have k3 : (convert 35 9 (.slice (some ⟨g3, 0, none⟩) 512 c3)).run Try.prog v3 = .ok (.string SC) v3 := by rw [← HSC.out]; exact conv_sl sl3
    clear sl3 b3
    refine hK.out _ _ ⟨CB.out v3 W3.out, CC.out v3 W3.out⟩ (fun hHeld => ?_)
    clear hK K
    try simp only [Act.put, List.getElem_toArray, List.getElem_cons_succ, List.getElem_cons_zero, List.setIfInBounds_toArray, List.set_cons_zero, List.set_cons_succ]
    refine wpAnyH_ready (rs := [15]) (by kernel_rfl) (by simp) ?_
    refine AllReadyH.cons rfl (fun K hK => ?_) AllReadyH.nil
    go_simp
    refine hK.out _ _ ⟨CB.out v3 W3.out, CC.out v3 W3.out⟩ (fun hHeld => ?_)
    clear hK K
    try simp only [Act.put, List.getElem_toArray, List.getElem_cons_succ, List.getElem_cons_zero, List.setIfInBounds_toArray, List.set_cons_zero, List.set_cons_succ]
    refine wpAnyH_take (i := 16) (v := ?_) rfl (by kernel_rfl) (by kernel_rfl) (by kernel_rfl) (fun _ _ _ h => h) (Or.inl ⟨by rfl, ?_⟩) (by assumption) ?_
    rotate_left
    · (intro w hSw; (try dsimp only at hSw); go_simp; try (with_reducible rfl))
    try simp only [Act.put, List.getElem_toArray, List.getElem_cons_succ, List.getElem_cons_zero, List.setIfInBounds_toArray, List.set_cons_zero, List.set_cons_succ]
    refine wpAnyH_take (i := 17) (v := ?_) rfl (by kernel_rfl) (by kernel_rfl) (by kernel_rfl) (fun _ _ _ h => h) (Or.inl ⟨by rfl, ?_⟩) (by assumption) ?_
    rotate_left
    · (intro w hSw; (try dsimp only at hSw); go_simp; try (with_reducible rfl))
    try simp only [Act.put, List.getElem_toArray, List.getElem_cons_succ, List.getElem_cons_zero, List.setIfInBounds_toArray, List.set_cons_zero, List.set_cons_succ]
    refine wpAnyH_take (i := 18) (v := ?_) rfl (by kernel_rfl) (by kernel_rfl) (by kernel_rfl) (fun _ _ _ h => h) (Or.inl ⟨by rfl, ?_⟩) (by assumption) ?_
    rotate_left
    · (intro w hSw; (try dsimp only at hSw); go_simp; try (with_reducible rfl))
    try simp only [Act.put, List.getElem_toArray, List.getElem_cons_succ, List.getElem_cons_zero, List.setIfInBounds_toArray, List.set_cons_zero, List.set_cons_succ]
    refine wpAnyH_take (i := 19) (v := ?_) rfl (by kernel_rfl) (by kernel_rfl) (by kernel_rfl) (fun _ _ _ h => h) (Or.inl ⟨by rfl, ?_⟩) (by assumption) ?_
    rotate_left
    · (intro w hSw; (try dsimp only at hSw); go_simp; try (with_reducible rfl))
    try simp only [Act.put, List.getElem_toArray, List.getElem_cons_succ, List.getElem_cons_zero, List.setIfInBounds_toArray, List.set_cons_zero, List.set_cons_succ]
    refine wpAnyH_ready (rs := [20]) (by kernel_rfl) (by simp) ?_
    refine AllReadyH.cons rfl (fun K hK => ?_) AllReadyH.nil
    go_simp
    go_at_call 11
    refine same_call (Wo_Page W3.out) ?_
    dsimp only
    refine hK.out _ _ ⟨CB.out v3 W3.out, CC.out v3 W3.out⟩ (fun hHeld => ?_)
    clear hK K
    try simp only [Act.put, List.getElem_toArray, List.getElem_cons_succ, List.getElem_cons_zero, List.setIfInBounds_toArray, List.set_cons_zero, List.set_cons_succ]
    refine wpAnyH_take (i := 21) (v := ?_) rfl (by kernel_rfl) (by kernel_rfl) (by kernel_rfl) (fun _ _ _ h => h) (Or.inl ⟨by rfl, ?_⟩) (by assumption) ?_
    rotate_left
    · (intro w hSw; (try dsimp only at hSw); go_simp; try (with_reducible rfl))
    try simp only [Act.put, List.getElem_toArray, List.getElem_cons_succ, List.getElem_cons_zero, List.setIfInBounds_toArray, List.set_cons_zero, List.set_cons_succ]
    refine wpAnyH_take (i := 22) (v := ?_) rfl (by kernel_rfl) (by kernel_rfl) (by kernel_rfl) (fun _ _ _ h => h) (Or.inl ⟨by rfl, ?_⟩) (by assumption) ?_
    rotate_left
    · (intro w hSw; (try dsimp only at hSw); go_simp; try (with_reducible rfl))
    try simp only [Act.put, List.getElem_toArray, List.getElem_cons_succ, List.getElem_cons_zero, List.setIfInBounds_toArray, List.set_cons_zero, List.set_cons_succ]
    refine wpAnyH_take (i := 23) (v := ?_) rfl (by kernel_rfl) (by kernel_rfl) (by kernel_rfl) (fun _ _ _ h => h) (Or.inl ⟨by rfl, ?_⟩) (by assumption) ?_
    rotate_left
    · (intro w hSw; (try dsimp only at hSw); go_simp; try (with_reducible rfl))
    try simp only [Act.put, List.getElem_toArray, List.getElem_cons_succ, List.getElem_cons_zero, List.setIfInBounds_toArray, List.set_cons_zero, List.set_cons_succ]
    refine wpAnyH_take (i := 24) (v := ?_) rfl (by kernel_rfl) (by kernel_rfl) (by kernel_rfl) (fun _ _ _ h => h) (Or.inl ⟨by rfl, ?_⟩) (by assumption) ?_
    rotate_left
    · (intro w hSw; (try dsimp only at hSw); go_simp; try (with_reducible rfl))
    try simp only [Act.put, List.getElem_toArray, List.getElem_cons_succ, List.getElem_cons_zero, List.setIfInBounds_toArray, List.set_cons_zero, List.set_cons_succ]
    refine wpAnyH_ready (rs := [25]) (by kernel_rfl) (by simp) ?_
    refine AllReadyH.cons rfl (fun K hK => ?_) AllReadyH.nil
    go_simp
    go_at_call 13
    refine same_call (Wo_Pages W3.out) ?_
    dsimp only
    refine hK.out _ _ ⟨CB.out v3 W3.out, CC.out v3 W3.out⟩ (fun hHeld => ?_)
    clear hK K
    try simp only [Act.put, List.getElem_toArray, List.getElem_cons_succ, List.getElem_cons_zero, List.setIfInBounds_toArray, List.set_cons_zero, List.set_cons_succ]
    refine wpAnyH_take (i := 26) (v := ?_) rfl (by kernel_rfl) (by kernel_rfl) (by kernel_rfl) (fun _ _ _ h => h) (Or.inl ⟨by rfl, ?_⟩) (by assumption) ?_
    rotate_left
    · (intro w hSw; (try dsimp only at hSw); go_simp; try (with_reducible rfl))
    try simp only [Act.put, List.getElem_toArray, List.getElem_cons_succ, List.getElem_cons_zero, List.setIfInBounds_toArray, List.set_cons_zero, List.set_cons_succ]
    refine wpAnyH_take (i := 27) (v := ?_) rfl (by kernel_rfl) (by kernel_rfl) (by kernel_rfl) (fun _ _ _ h => h) (Or.inl ⟨by rfl, ?_⟩) (by assumption) ?_
    rotate_left
    · (intro w hSw; (try dsimp only at hSw); go_simp; try (with_reducible rfl))
    try simp only [Act.put, List.getElem_toArray, List.getElem_cons_succ, List.getElem_cons_zero, List.setIfInBounds_toArray, List.set_cons_zero, List.set_cons_succ]
    refine wpAnyH_take (i := 28) (v := ?_) rfl (by kernel_rfl) (by kernel_rfl) (by kernel_rfl) (fun _ _ _ h => h) (Or.inl ⟨by rfl, ?_⟩) (by assumption) ?_
    rotate_left
    · (intro w hSw; (try dsimp only at hSw); go_simp; try (with_reducible rfl))
    try simp only [Act.put, List.getElem_toArray, List.getElem_cons_succ, List.getElem_cons_zero, List.setIfInBounds_toArray, List.set_cons_zero]
    refine wpAnyH_done (by kernel_rfl) ?_ _
    go_wp2
    go_ret
    obtain ⟨⟨X, d, hs, _, _⟩, _, _⟩ := W3.out
    exact ⟨rfl, hs.be⟩
end Go.Proofs.Ytikpfcapnpppdaa
