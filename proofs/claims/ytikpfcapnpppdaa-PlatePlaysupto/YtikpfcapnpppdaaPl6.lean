/- Read. -/
import Derived.Test.YtikpfcapnpppdaaPl5
namespace Go.Proofs.Ytikpfcapnpppdaa
open Go.RowKit

set_option maxRecDepth 100000 in
/-- A copy into a row that is known whole, the new world told. -/
theorem copy_row {P : Program} {w : World} {ops : Array Oper} {rest : List Oper} {o : Oper} {a : Act} {Q : Exit → Act → World → Prop} (hgd : o.guard = none) (d s : Operand) (dT sT : TypeId)
    (ho : o.op = .call { callee := .builtin .copy, args := #[d, s], argTypes := #[dT, sT] }) (elem : TypeId) (hu : P.underlying dT = some (.slice elem)) (hsz : (P.info? elem).map (·.size) = some 1)
    (g off dLen dCap : Nat) (ad : Addr) (sLen sCap : Nat) (hd : a.eval d = .slice (some ⟨g, off, none⟩) dLen dCap) (hs : a.eval s = .slice (some ad) sLen sCap)
    (cur : List Value) (t : TypeId) (hg : w.heap[g]? = some (.cells cur.toArray t (0, 0))) (cs : List Value) (hn : cs.length = Nat.min sLen dLen)
    (hsrc : ∀ j v, cs[j]? = some v → w.cell? (ad.add j) = some v) (hfit : off + cs.length ≤ cur.length) (h1 : ∀ v ∈ cs, v.oneCell' = true)
    (h : ∀ u, Hid (u = w.setRow g (splice cur off cs).toArray) → wpList P ops Q rest (a.put o.dst (goInt cs.length)) u) : wpList P ops Q (o :: rest) a w := by
  by_cases h0 : cs.length = 0
  · have e : cs = [] := List.eq_nil_of_length_eq_zero h0
    refine wpList_copy_nothing hgd d s dT sT ho elem hu hsz _ _ dLen dCap sLen sCap hd hs (by omega) ?_
    have := h w (hidden ?_)
    · rw [h0] at this; exact this
    · rw [e, show splice cur off [] = cur from by simp [splice]]
      exact (setRow_self w g _ t _ hg).symm
  · exact wpList_copy_own hgd d s dT sT ho elem hu hsz g off dLen dCap ad sLen sCap hd hs cur.toArray t hg cs hn hsrc (by simpa using hfit) h1 (h _ (hidden (by simp [splice])))

set_option maxRecDepth 100000 in
theorem splice_all {α : Type} (cur cs : List α) (h : cs.length = cur.length) : splice cur 0 cs = cs := by simp [splice, h]

set_option maxRecDepth 100000 in
theorem Dv.set5 {w : World} {F : Nat → Prop} {a : Nat} {d : D} (h : Dv w F a d) (x : Int) : Dv (w.setCell ⟨a, 5, none⟩ (.int .i64 x)) F a { d with cr := x } := by
  obtain ⟨bs, bl, vL, vK, ha, hr⟩ := h
  exact ⟨bs, bl, vL, vK, heap_setCell_self ha, hr.self (lt_of_some ha) 5 _⟩
set_option maxRecDepth 100000 in
theorem Dv.set6 {w : World} {F : Nat → Prop} {a : Nat} {d : D} (h : Dv w F a d) (x : Int) : Dv (w.setCell ⟨a, 6, none⟩ (.int .i64 x)) F a { d with cw := x } := by
  obtain ⟨bs, bl, vL, vK, ha, hr⟩ := h
  exact ⟨bs, bl, vL, vK, heap_setCell_self ha, hr.self (lt_of_some ha) 6 _⟩
set_option maxRecDepth 100000 in
theorem Dv.set7 {w : World} {F : Nat → Prop} {a : Nat} {d : D} (h : Dv w F a d) (x : Int) : Dv (w.setCell ⟨a, 7, none⟩ (.int .i64 x)) F a { d with cs := x } := by
  obtain ⟨bs, bl, vL, vK, ha, hr⟩ := h
  exact ⟨bs, bl, vL, vK, heap_setCell_self ha, hr.self (lt_of_some ha) 7 _⟩
set_option maxRecDepth 100000 in
theorem Dv.fa {w : World} {F : Nat → Prop} {a : Nat} {d : D} (h : Dv w F a d) : F a := by
  obtain ⟨bs, bl, vL, vK, ha, hr⟩ := h
  exact hr.fa
set_option maxRecDepth 100000 in
theorem Dv.dr {w : World} {F : Nat → Prop} {a : Nat} {d : D} (h : Dv w F a d) : Dv w.drew F a d := h.keep (fun _ f _ => f) (Nat.le_refl _) fun _ _ _ => rfl

set_option maxRecDepth 100000 in
theorem Read_no (w : World) (F : Nat → Prop) (a : Nat) (d : D) (n : Int) (h : Dv w F a d) (e : Int) (he : refu d n = e) (h0 : e ≠ 0) : Calls Try.prog 18 #[.pointer (some ⟨a, 0, none⟩), .int .i64 n] w fun e' w' => e' = .returned (.tuple #[.slice none 0 0, .int .i64 e]) ∧ w' = w := by
  have hc := refuses_any w F a d n h
  rw [he] at hc
  clear he h
  go_enter Try.func18, Try.ntmps18
  go_wp2_with (go_at_call 43; refine same_call hc ?_)
  go_ret2
  exact ⟨rfl, rfl⟩

set_option maxRecDepth 100000 in
theorem Rest.rdlen {w : World} {F : Nat → Prop} {a : Nat} {d : D} {bs bl : Nat} {vL vK : Value} (h : Rest w F a d.page d.pages d.safe d.loose d.last d.keep bs bl vL vK) {n : Nat} (hn : n < d.pages) : (rd d n).length = d.page ∧ Wf (rd d n) := by
  obtain ⟨h1, h2, h3⟩ := h.lst n hn
  unfold rd
  split
  · rename_i hp
    obtain ⟨g, c', q, e, _, _, _, _, _, _, _, _, _, _, _, _, _, _, _, h6, h7⟩ := h.lo.item (k := (d.last.getD n 0).toNat - 1) (by omega)
    exact ⟨h6, h7⟩
  · refine ⟨?_, (h.ws.drop _).take _⟩
    have hx : n * d.page + d.page ≤ d.page * d.pages := by
      rw [Nat.mul_comm d.page d.pages, ← Nat.succ_mul]; exact Nat.mul_le_mul_right _ hn
    simp [h.ns]
    omega

set_option maxRecDepth 100000 in
set_option maxHeartbeats 1000000 in
theorem Read_yes (w : World) (F : Nat → Prop) (a : Nat) (d : D) (n : Nat) (h : Dv w F a d) (he : refu d n = 0) (hn : n < d.pages) (h1 : 0 ≤ d.cr) (h2 : d.cr < 4611686018427387904) (hF : ∀ k, F k → k < w.heap.size) :
    Calls Try.prog 18 #[.pointer (some ⟨a, 0, none⟩), .int .i64 (n : Int)] w fun e' w' => ∃ g, e' = .returned (.tuple #[.slice (some ⟨g, 0, none⟩) d.page d.page, .int .i64 0]) ∧ w.heap.size ≤ g ∧ w'.heap[g]? = some (.cells (By (rd d n)).toArray 5 (0, 0)) ∧ Dv w' F a { d with cr := d.cr + 1 } ∧ Ch F w w' := by
  have hc := refuses_any w F a d n h
  rw [he] at hc
  obtain ⟨i0, hi, hz0, hz1, hz2⟩ := info_parts info5
  have hsz : (Try.prog.info? 5).map (·.size) = some 1 := by rw [hi]; simp [hz1]
  obtain ⟨bs, bl, vL, vK, hc', hf, hr, ha⟩ := h.c
  have c5 : w.cell? ⟨a, 5, none⟩ = some (.int .i64 d.cr) := hc' 5
  have f5 := hf 5
  obtain ⟨rl, rw'⟩ := hr.rdlen hn
  have HRW := hidden rw'
  have HRL := hidden rl
  have hp2 := hr.p2
  have H := hidden h
  have HF := hidden hF
  clear hr ha hc' hf he h rl rw' hF
  generalize hR : d.cr = cr at *
  go_enter Try.func18, Try.ntmps18
  go_wp2_with (go_at_call 43; refine same_call hc ?_)
  clear hc
  go_region
  have hD1 : Dv (w.setCell ⟨a, 5, none⟩ (.int .i64 (cr + 1))).drew F a { d with cr := cr + 1 } := (H.out.set5 _).dr
  have hC1 : Ch F w (w.setCell ⟨a, 5, none⟩ (.int .i64 (cr + 1))).drew := (Ch.setCell w (p := ⟨a, 5, none⟩) H.out.fa _).trans (Ch.dr F _) fun _ _ h => h
  have hs1 : (w.setCell ⟨a, 5, none⟩ (.int .i64 (cr + 1))).drew.heap.size = w.heap.size := by simp [World.setCell, World.drew]
  generalize (w.setCell ⟨a, 5, none⟩ (.int .i64 (cr + 1))).drew = u at hD1 hC1 hs1 ⊢
  obtain ⟨d1, hd1⟩ : ∃ d1, { d with cr := cr + 1 } = d1 := ⟨_, rfl⟩
  rw [hd1] at hD1
  have c0 : u.cell? ⟨a, 0, none⟩ = some (.int .i64 d.page) := by
    obtain ⟨bs', bl', vL', vK', ha', hr'⟩ := hD1
    have := cell_of_row (i := 0) ha'
    rw [this, ← hd1]; rfl
  have HD1 := hidden hD1
  have HC1 := hidden hC1
  have HS1 := hidden hs1
  have Hd1 := hidden hd1
  clear hD1 hC1 c5 f5 H hd1 hs1
  go_wp2_with (at_make; refine wpList_make_full _ rfl _ _ 35 rfl 0 5 i0 (.int .u8 0) 1 Try.underlying35 hi hz0 hz1 .i64 .i64 d.page d.page d.page rfl rfl rfl rfl (by rw [hz2]; omega) (by unfold maxLen; omega) (Nat.zero_le _) ?_)
  intro w1 hown1 hg1
  have hr1 := made_row hown1
  have hC2 : Ch (fun _ => False) u w1 := Ch.grown hg1 (fun k hk => by cases hk)
  have HD2 := hidden (HD1.out.ch hC2 fun _ _ _ h => h)
  have HC2 := hidden (HC1.out.trans hC2 fun _ _ h => h.elim)
  have HR1 := hidden hr1
  have hsz1 : u.heap.size < w1.heap.size := lt_of_some hr1
  clear hown1 hg1 hr1 hC2 HD1 HC1 c0
  have hn1 : n < d1.pages := by rw [← Hd1.out]; exact hn
  have hp1 : d1.page = d.page := by rw [← Hd1.out]
  have hrd : rd d1 n = rd d n := by rw [← Hd1.out]; rfl
  have hseen := seen_any w1 F a d1 n HD2.out hn1
  rw [hp1, hrd] at hseen
  go_wp2_with (go_at_call 45; refine hseen.mono ?_; rintro e w2 ⟨q, off, c, rfl, hc1, hcc, hq, r, rfl⟩; refine Hid.out ?_)
  apply hidden
  clear hseen
  have HCC : Hid (∀ j v, (By (rd d n))[j]? = some v → (w1.drewN r).cell? ((⟨q, off, none⟩ : Addr).add j) = some v) := by
    refine hidden fun j v hv => ?_
    obtain ⟨h1, rfl⟩ := getElem?_By _ j v hv
    rw [Addr.add_lit]
    exact hcc j (by rw [← HRL.out]; exact h1)
  clear hcc
  go_wp2_with (refine copy_row rfl _ _ 35 35 rfl 5 Try.underlying35 hsz u.heap.size 0 d.page d.page ⟨q, off, none⟩ d.page c rfl rfl (List.replicate d.page (.int .u8 0)) 5 HR1.out (By (rd d n)) (by rw [By_length, HRL.out]; exact (Nat.min_self _).symm) HCC.out (by rw [By_length, HRL.out]; simp) (By_one _) ?_; intro u3 HU; refine Hid.out ?_)
  apply hidden
  go_wp2
  go_ret2
  have hu := HU.out
  subst hu
  refine ⟨u.heap.size, rfl, by rw [HS1.out]; exact Nat.le_refl _, ?_, ?_, ?_⟩
  · rw [setRow_heap (w1.drewN r) _ _ _ _ _ HR1.out, splice_all _ _ (by simp [By_length, HRL.out])]
  · rw [Hd1.out]
    exact (HD2.out.drew r).ch (Ch.setRow (F := fun k => k = u.heap.size) _ rfl _) fun k _ hFk e => by have := HF.out k hFk; have := HS1.out; omega
  · exact (HC2.out.trans (Ch.drew F _ r) fun _ _ h => h).trans (Ch.setRow (F := fun k => k = u.heap.size) _ rfl _) fun k hk e => by have := HS1.out; omega
end Go.Proofs.Ytikpfcapnpppdaa
