/- The law's step at a pair: the other kinds. -/
import Derived.Test.YtedgpcckbdnijaaDoorJs
namespace Go.Proofs.YtedgpcckbdnijaaDoor
open Go.RowKit Go.Maps

section
variable {u x : World} {z z0 : Nat → Nat} {a c bl ml b bk cnt o : Nat} {full : Prop} {A B : Int} {mv : Value} {last : Int} {K : Int → Option Int} {M : List Mq} {v mk : Value} {es : List (Int × Int)} {D : List Dq}
def bkG (M : List Mq) (A : Int) : Int := if M.any (fun q => q.n == A) = true then 0 else 1
set_option maxRecDepth 100000 in
/-- Our Back and then the document's. -/
theorem back_both (hk : Sx u x z z0 a c bl ml b bk cnt o full 8 A B mv last K M v mk es D) (hz : Zz a c) (ha : a ≠ 0) (hcnt : cnt ≤ 1000000) : Calls Tryd.prog 12 #[pB bl, .int .i64 A] x fun e u1 => e = .returned (.int .i64 (bkG M A)) ∧ Hid (Oq u1 o 8 A B ∧ ∀ w', (∃ k, w' = u1.drewN k) → Calls Tryd.prog 37 #[pB b, .int .i64 A] w' fun e u2 => e = .returned (.int .i64 (bkG M A)) ∧ Hid (∀ k, StTo u z a c bl ml b bk cnt full (u2.drewN k))) := by
  have hq := hk.q
  have hl : 0 ≤ last ∧ last ≤ 4611686018427387904 := ⟨hq.pq.l0, by have := hq.cl; omega⟩
  by_cases hex : ∃ q ∈ M, q.n = A
  · obtain ⟨q, hqm, hqn⟩ := hex
    have hG : bkG M A = 0 := by unfold bkG; rw [if_pos (List.any_eq_true.2 ⟨q, hqm, by simpa using hqn⟩)]
    rw [hG]
    obtain ⟨i, hi⟩ := List.getElem?_of_mem hqm
    have hil := (List.getElem?_eq_some_iff.1 hi).1
    have hpw := List.pairwise_iff_getElem.1 hq.pq.ris
    have hM : M = M.take i ++ q :: M.drop (i + 1) := by
      rw [← drop_at M i q hi, List.take_append_drop]
    have hfl := hq.fl
    rw [hM] at hfl
    have hb1 := back_any hfl (fun y hy => by
      obtain ⟨j, hj⟩ := List.getElem?_of_mem hy
      have hjl := (List.getElem?_eq_some_iff.1 hj).1
      rw [List.length_take] at hjl
      rw [List.getElem?_take_of_lt (by omega)] at hj
      have h5 := hpw j i (by omega) hil (by omega)
      rw [(List.getElem?_eq_some_iff.1 hj).2, (List.getElem?_eq_some_iff.1 hi).2] at h5
      omega)
    rw [← hM, hqn, ← drop_at M i q hi] at hb1
    obtain ⟨j, d, d1, d2, d3⟩ := hq.pq.back hi hqn
    refine hb1.mono ?_
    rintro e u1 ⟨rfl, HU⟩
    obtain ⟨mv', m1, f1, g1⟩ := HU.out
    refine ⟨rfl, hidden ⟨hk.op1 ha g1, ?_⟩⟩
    rintro w' ⟨k', rfl⟩
    have g1' := g1.go (Cf.drew (Fb bl ml mv M) u1 k')
    refine (rback_any (u1.drewN k') b v mk last es D A (hq.rm1 hz g1') hl hq.pq.dn).mono ?_
    rintro e u2 ⟨r, rfl, HR, HC⟩
    rcases HR.out with ⟨i', d', mk', e1, rfl, e2, e3, r2⟩ | ⟨e1, _⟩
    · rw [d1] at e1
      cases e1
      rw [d2] at e2
      cases e2
      exact ⟨rfl, hidden (fun k2 => (hk.fin0 hz (hq.back hz hi m1 (f1.drew k') g1' d2 d3 e3 r2 HC.out)).drew k2)⟩
    · rw [d1] at e1
      cases e1
  · have hno : ∀ q ∈ M, q.n ≠ A := fun q hqm e => hex ⟨q, hqm, e⟩
    have hG : bkG M A = 1 := by
      unfold bkG
      rw [if_neg]
      intro e
      obtain ⟨q, h1, h2⟩ := List.any_eq_true.1 e
      exact hno q h1 (by simpa using h2)
    rw [hG]
    refine (back_no hq.fl A (fdI_none (fun j y hy => by
      have := hno y (List.mem_of_getElem? hy)
      simpa using this))).mono ?_
    rintro e u1 ⟨rfl, HB⟩
    have g1 : Cf (Fb bl ml mv M) x u1 := Cf.of_below HB.out
    refine ⟨rfl, hidden ⟨hk.op1 ha g1, ?_⟩⟩
    rintro w' ⟨k', rfl⟩
    have g1' := g1.go (Cf.drew (Fb bl ml mv M) u1 k')
    refine (rback_any (u1.drewN k') b v mk last es D A (hq.rm1 hz g1') hl hq.pq.dn).mono ?_
    rintro e u2 ⟨r, rfl, HR, HC⟩
    rcases HR.out with ⟨i', d', mk', e1, _⟩ | ⟨e1, rfl, r2⟩
    · rw [hq.pq.noback hno] at e1
      cases e1
    · refine ⟨rfl, hidden (fun k2 => StTo.drew (hk.act (kd' := 0) (A' := 0) (B' := 0) hz (AcTo.drew (AcTo.none hq.fl HB.out (by decide) (by decide) (by decide)) k') ?_) k2)⟩
      have e0 : actK K 0 0 0 = K := by unfold actK; rw [if_neg (by decide), if_neg (by decide), if_neg (by decide)]
      rw [e0]
      exact ⟨v, es, r2, hq.pq.ent, HC.out, fun k hk2 => .inl hk2⟩
set_option maxRecDepth 100000 in
set_option maxHeartbeats 2000000 in
theorem step_back (hs : Sx u (u.alloc (.cells #[.int .i64 8, .int .i64 A, .int .i64 B] 38)) z z0 a c bl ml b bk cnt u.heap.size full 8 A B mv last K M v mk es D) (hz : Zz a c) (ha : a ≠ 0) (hcnt : cnt ≤ 1000000) :
    Calls Tryd.prog 8 #[pB bk, pB bl, pB b, .agg #[.int .i64 8, .int .i64 A, .int .i64 B]] u fun e u' => e = .returned (.bool true) ∧ Hid (StTo u z a c bl ml b bk cnt full u') := by
  obtain ⟨x, hx⟩ : ∃ x, u.alloc (.cells #[.int .i64 8, .int .i64 A, .int .i64 B] 38) = x := ⟨_, rfl⟩
  rw [hx] at hs
  obtain ⟨k0, k1, k2⟩ := hs.op.cells
  have HS := hidden hs
  obtain ⟨G, hG⟩ : ∃ G : Int, bkG M A = G := ⟨_, rfl⟩
  have e1 : (G == G) = true := by simp
  have HD1 : Hid (∀ w, (∃ k, w = x.drewN k) → Calls Tryd.prog 12 #[pB bl, .int .i64 A] w fun e u1 => e = .returned (.int .i64 G) ∧ Hid (Oq u1 u.heap.size 8 A B ∧ ∀ w', (∃ k, w' = u1.drewN k) → Calls Tryd.prog 37 #[pB b, .int .i64 A] w' fun e u2 => e = .returned (.int .i64 G) ∧ Hid (∀ k, StTo u z a c bl ml b bk cnt full (u2.drewN k)))) := hidden (by
    rintro w ⟨k, rfl⟩
    rw [← hG]
    exact back_both (HS.out.drew k) hz ha hcnt)
  clear hs hG
  go_enter Tryd.func8, Tryd.ntmps8
  go_wp2_with fail
  go_region_law (first
    | (go_simp; go_at_call 37; refine (HD2.out _ (by first | exact ⟨0, rfl⟩ | exact ⟨1, rfl⟩ | exact ⟨2, rfl⟩ | exact ⟨_, rfl⟩)).mono ?_; rintro e u2 ⟨rfl, HU2⟩)
    | (go_simp; go_at_call 12; refine (HD1.out _ (by first | exact ⟨0, rfl⟩ | exact ⟨1, rfl⟩ | exact ⟨2, rfl⟩ | exact ⟨_, rfl⟩)).mono ?_; rintro e u1 ⟨rfl, HU1⟩; have HD2 := hidden HU1.out.2; obtain ⟨q0, q1, q2⟩ := HU1.out.1.cells))
  all_goals
    go_wp2_with fail
    go_ret
    exact ⟨rfl, hidden (by first | exact HU2.out 0 | exact HU2.out 1 | exact HU2.out _)⟩
end
end Go.Proofs.YtedgpcckbdnijaaDoor

/- The law's step at a pair: the other kinds. -/

namespace Go.Proofs.YtedgpcckbdnijaaDoor
open Go.RowKit Go.Maps

section
variable {u x : World} {z z0 : Nat → Nat} {a c bl ml b bk cnt o : Nat} {full : Prop} {A B : Int} {mv : Value} {last : Int} {K : Int → Option Int} {M : List Mq} {v mk : Value} {es : List (Int × Int)} {D : List Dq}
set_option maxRecDepth 100000 in
set_option maxHeartbeats 2000000 in
theorem step_mark (hs : Sx u (u.alloc (.cells #[.int .i64 7, .int .i64 A, .int .i64 B] 38)) z z0 a c bl ml b bk cnt u.heap.size full 7 A B mv last K M v mk es D) (hz : Zz a c) (hcnt : cnt ≤ 1000000) :
    Calls Tryd.prog 8 #[pB bk, pB bl, pB b, .agg #[.int .i64 7, .int .i64 A, .int .i64 B]] u fun e u' => e = .returned (.bool true) ∧ Hid (StTo u z a c bl ml b bk cnt full u') := by
  obtain ⟨x, hx⟩ : ∃ x, u.alloc (.cells #[.int .i64 7, .int .i64 A, .int .i64 B] 38) = x := ⟨_, rfl⟩
  rw [hx] at hs
  obtain ⟨k0, k1, k2⟩ := hs.op.cells
  have HS := hidden hs
  have hl := hs.q.cl
  have hl0 := hs.q.pq.l0
  obtain ⟨o1, o2, o3⟩ := hs.q.pq.old
  have HM1 := hidden (mark_any hs.q.fl ⟨hl0, by omega, fun q hq => by have := hs.q.pq.yng q hq; omega⟩ (by omega) _ o1 o2 o3 (by have := hs.q.pq.few; omega))
  have hcD := hs.q.cD
  have hlI : last + 1 ≤ 1000001 := by omega
  clear hs o1 o2 o3
  have e1 : (last + 1 == last + 1) = true := by simp
  obtain ⟨ln, hln⟩ : ∃ ln, last + 1 = ln := ⟨_, rfl⟩
  go_enter Tryd.func8, Tryd.ntmps8
  go_wp2_with (go_at_call 11; refine HM1.out.mono ?_; rintro e u1 ⟨rfl, HU1⟩; refine Hid.out ?_)
  apply hidden
  have HM0 : Hid (MkTo x bl ml mv last K M (rOld last M) u1) := HU1
  have HR1 : Hid (Rm u1 b v mk last es D) := hidden (by
    obtain ⟨_, _, _, g1, _, _⟩ := HM0.out
    exact HS.out.q.rm1 hz g1)
  have HM2 := hidden (rmark_any u1 b v mk last es D HR1.out (by omega) (by omega))
  go_wp2_with (go_at_call 36; refine HM2.out.mono ?_; rintro e u2 ⟨rfl, HU2⟩; refine Hid.out ?_)
  apply hidden
  have HF := hidden (HS.out.fin hz (HS.out.q.mark hz HM0.out HU2.out))
  clear HM1 HM2 HU1 HU2 HM0 HR1
  go_wp2_with fail
  go_ret
  exact ⟨rfl, HF⟩
set_option maxRecDepth 100000 in
set_option maxHeartbeats 2000000 in
theorem step_free (hs : Sx u (u.alloc (.cells #[.int .i64 4, .int .i64 A, .int .i64 B] 38)) z z0 a c bl ml b bk cnt u.heap.size full 4 A B mv last K M v mk es D) (hz : Zz a c) (hcnt : cnt ≤ 1000000) :
    Calls Tryd.prog 8 #[pB bk, pB bl, pB b, .agg #[.int .i64 4, .int .i64 A, .int .i64 B]] u fun e u' => e = .returned (.bool true) ∧ Hid (StTo u z a c bl ml b bk cnt full u') := by
  obtain ⟨x, hx⟩ : ∃ x, u.alloc (.cells #[.int .i64 4, .int .i64 A, .int .i64 B] 38) = x := ⟨_, rfl⟩
  rw [hx] at hs
  obtain ⟨k0, k1, k2⟩ := hs.op.cells
  have HS := hidden hs
  have HF1 := hidden (free_any hs.q.fl.fs)
  have hP := hs.q.fl.fs.kept.2
  have HTL := hidden (kL_len K (· == 0))
  have HTB : Hid (∀ y ∈ kL K (· == 0), -9223372036854775808 ≤ y ∧ y ≤ 9223372036854775807) := hidden (fun y hy => by
    obtain ⟨s, h1, _⟩ := (kL_mem hP _ y).1 hy
    have := hP y s h1
    omega)
  have HEQ : Hid (toldF es = kL K (· == 0)) := hidden (by
    rw [hs.q.pq.ent.told hP]
    rfl)
  clear hs
  obtain ⟨T, hT⟩ : ∃ T, kL K (· == 0) = T := ⟨_, rfl⟩
  rw [hT] at HF1 HTL HTB HEQ
  clear hT
  go_enter Tryd.func8, Tryd.ntmps8
  go_wp2_with (go_at_call 13; refine HF1.out.mono ?_; rintro e u1 ⟨v1, rfl, HO1, HBa⟩; refine Hid.out ?_)
  apply hidden
  have HF2 := hidden (rfree_any u1 0 b v mk last es (HS.out.q.rm.on HBa.out).rl)
  rw [HEQ.out] at HF2
  obtain ⟨a1, d1, hv1, hs1⟩ := HO1.out.slz HTL.out HTB.out
  have HS1 := hidden hs1
  have HO1' : Hid (OwnJ u1 x.heap.size (.slice a1 T.length d1) T) := by rw [hv1] at HO1; exact HO1
  subst hv1
  clear hs1 HF1 HO1
  go_wp2_with (go_at_call 32; refine HF2.out.mono ?_; rintro e u2 ⟨v2, rfl, HO2, HBb⟩; refine Hid.out ?_)
  apply hidden
  obtain ⟨a2, d2, hv2, hs2⟩ := HO2.out.slz HTL.out HTB.out
  have HO2' : Hid (OwnJ u2 x.heap.size (.slice a2 T.length d2) T) := by rw [hv2] at HO2; exact hidden (HO2.out.low HBa.out.size)
  subst hv2
  have HSM := hidden (sameZ_any _ _ _ _ _ _ _ _ u2 (HS1.out.on (Nat.le_refl _) HBb.out) hs2)
  have hd1 : decide (T = T) = true := by simp
  rw [hd1] at HSM
  have HBX : Hid (Below x.heap.size x u2) := hidden (HBa.out.trans (HBb.out.mono HBa.out.size))
  have HO1u := hidden (HO1'.out.below HBb.out)
  clear hs2 HF2 HO2 HS1 HO1' HBb HBa hd1
  go_wp2_with (go_at_call 15; refine HSM.out.mono ?_; rintro e u3 ⟨rfl, hq3⟩; refine Hid.out ?_)
  apply hidden
  obtain ⟨q3, rfl⟩ := hq3
  have HKP := hidden (keep_any HS.out.j (HBX.out.trans ((below_dr u2 q3).mono HBX.out.size)) hcnt (HO1u.out.below (below_dr u2 q3)) (HO2'.out.below (below_dr u2 q3)) HTL.out HTB.out)
  clear HSM HBX HO1u HO2'
  go_wp2_with (go_at_call 33; refine HKP.out.mono ?_; rintro e u4 ⟨rfl, HU4⟩; refine Hid.out ?_)
  apply hidden
  have HF : Hid (StTo u z a c bl ml b bk cnt full u4) := hidden (by
    obtain ⟨z', h1, h2, h3⟩ := HU4.out
    have h6 := hz.a5
    have h7 := hz.c5
    refine ⟨z', HS.out.zx.trans h1 HS.out.bel.size, ⟨_, _, _, _, _, _, _, _, (HS.out.q.turn h3 h1 (fun k hk => by rw [hk]; omega)).more⟩, h2, (Cf.of_below HS.out.bel).trans h3 (fun k hk e => ?_)⟩
    rw [HS.out.zx k hk] at e
    exact .inr (.inr e))
  clear HKP HU4
  go_wp2_with fail
  go_ret
  exact ⟨rfl, HF⟩
set_option maxRecDepth 100000 in
set_option maxHeartbeats 2000000 in
theorem step_waiting (hs : Sx u (u.alloc (.cells #[.int .i64 5, .int .i64 A, .int .i64 B] 38)) z z0 a c bl ml b bk cnt u.heap.size full 5 A B mv last K M v mk es D) (hz : Zz a c) (hcnt : cnt ≤ 1000000) :
    Calls Tryd.prog 8 #[pB bk, pB bl, pB b, .agg #[.int .i64 5, .int .i64 A, .int .i64 B]] u fun e u' => e = .returned (.bool true) ∧ Hid (StTo u z a c bl ml b bk cnt full u') := by
  obtain ⟨x, hx⟩ : ∃ x, u.alloc (.cells #[.int .i64 5, .int .i64 A, .int .i64 B] 38) = x := ⟨_, rfl⟩
  rw [hx] at hs
  obtain ⟨k0, k1, k2⟩ := hs.op.cells
  have HS := hidden hs
  have HF1 := hidden (waiting_any hs.q.fl.fs)
  have hP := hs.q.fl.fs.kept.2
  have HTL := hidden (kL_len K (fun s => decide (0 < s)))
  have HTB : Hid (∀ y ∈ kL K (fun s => decide (0 < s)), -9223372036854775808 ≤ y ∧ y ≤ 9223372036854775807) := hidden (fun y hy => by
    obtain ⟨s, h1, _⟩ := (kL_mem hP _ y).1 hy
    have := hP y s h1
    omega)
  have HEQ : Hid (tG (fun s => decide (0 < s)) es = kL K (fun s => decide (0 < s))) := hidden (by
    rw [hs.q.pq.ent.told hP]
    rfl)
  clear hs
  obtain ⟨T, hT⟩ : ∃ T, kL K (fun s => decide (0 < s)) = T := ⟨_, rfl⟩
  rw [hT] at HF1 HTL HTB HEQ
  clear hT
  go_enter Tryd.func8, Tryd.ntmps8
  go_wp2_with (go_at_call 14; refine HF1.out.mono ?_; rintro e u1 ⟨v1, rfl, HO1, HBa⟩; refine Hid.out ?_)
  apply hidden
  have HF2 := hidden (rwaiting_any u1 0 b v mk last es (HS.out.q.rm.on HBa.out).rl)
  rw [HEQ.out] at HF2
  obtain ⟨a1, d1, hv1, hs1⟩ := HO1.out.slz HTL.out HTB.out
  have HS1 := hidden hs1
  have HO1' : Hid (OwnJ u1 x.heap.size (.slice a1 T.length d1) T) := by rw [hv1] at HO1; exact HO1
  subst hv1
  clear hs1 HF1 HO1
  go_wp2_with (go_at_call 34; refine HF2.out.mono ?_; rintro e u2 ⟨v2, rfl, HO2, HBb⟩; refine Hid.out ?_)
  apply hidden
  obtain ⟨a2, d2, hv2, hs2⟩ := HO2.out.slz HTL.out HTB.out
  have HO2' : Hid (OwnJ u2 x.heap.size (.slice a2 T.length d2) T) := by rw [hv2] at HO2; exact hidden (HO2.out.low HBa.out.size)
  subst hv2
  have HSM := hidden (sameZ_any _ _ _ _ _ _ _ _ u2 (HS1.out.on (Nat.le_refl _) HBb.out) hs2)
  have hd1 : decide (T = T) = true := by simp
  rw [hd1] at HSM
  have HBX : Hid (Below x.heap.size x u2) := hidden (HBa.out.trans (HBb.out.mono HBa.out.size))
  have HO1u := hidden (HO1'.out.below HBb.out)
  clear hs2 HF2 HO2 HS1 HO1' HBb HBa hd1
  go_wp2_with (go_at_call 15; refine HSM.out.mono ?_; rintro e u3 ⟨rfl, hq3⟩; refine Hid.out ?_)
  apply hidden
  obtain ⟨q3, rfl⟩ := hq3
  have HKP := hidden (keep_any HS.out.j (HBX.out.trans ((below_dr u2 q3).mono HBX.out.size)) hcnt (HO1u.out.below (below_dr u2 q3)) (HO2'.out.below (below_dr u2 q3)) HTL.out HTB.out)
  clear HSM HBX HO1u HO2'
  go_wp2_with (go_at_call 33; refine HKP.out.mono ?_; rintro e u4 ⟨rfl, HU4⟩; refine Hid.out ?_)
  apply hidden
  have HF : Hid (StTo u z a c bl ml b bk cnt full u4) := hidden (by
    obtain ⟨z', h1, h2, h3⟩ := HU4.out
    have h6 := hz.a5
    have h7 := hz.c5
    refine ⟨z', HS.out.zx.trans h1 HS.out.bel.size, ⟨_, _, _, _, _, _, _, _, (HS.out.q.turn h3 h1 (fun k hk => by rw [hk]; omega)).more⟩, h2, (Cf.of_below HS.out.bel).trans h3 (fun k hk e => ?_)⟩
    rw [HS.out.zx k hk] at e
    exact .inr (.inr e))
  clear HKP HU4
  go_wp2_with fail
  go_ret
  exact ⟨rfl, HF⟩
set_option maxRecDepth 100000 in
set_option maxHeartbeats 2000000 in
theorem step_all (hs : Sx u (u.alloc (.cells #[.int .i64 6, .int .i64 A, .int .i64 B] 38)) z z0 a c bl ml b bk cnt u.heap.size full 6 A B mv last K M v mk es D) (hz : Zz a c) (hcnt : cnt ≤ 1000000) :
    Calls Tryd.prog 8 #[pB bk, pB bl, pB b, .agg #[.int .i64 6, .int .i64 A, .int .i64 B]] u fun e u' => e = .returned (.bool true) ∧ Hid (StTo u z a c bl ml b bk cnt full u') := by
  obtain ⟨x, hx⟩ : ∃ x, u.alloc (.cells #[.int .i64 6, .int .i64 A, .int .i64 B] 38) = x := ⟨_, rfl⟩
  rw [hx] at hs
  obtain ⟨k0, k1, k2⟩ := hs.op.cells
  have HS := hidden hs
  have HF1 := hidden (all_any hs.q.fl.fs)
  have hP := hs.q.fl.fs.kept.2
  have HTL := hidden (kL_len K (fun _ => true))
  have HTB : Hid (∀ y ∈ kL K (fun _ => true), -9223372036854775808 ≤ y ∧ y ≤ 9223372036854775807) := hidden (fun y hy => by
    obtain ⟨s, h1, _⟩ := (kL_mem hP _ y).1 hy
    have := hP y s h1
    omega)
  have HEQ : Hid (tG (fun s => decide (0 ≤ s)) es = kL K (fun _ => true)) := hidden (by
    rw [hs.q.pq.ent.told hP]
    unfold tG
    congr 1
    apply List.filter_congr
    rintro ⟨p, t⟩ hm
    have := hs.q.fl.fs.vals p t ((hs.q.pq.ent.2 p t).1 hm)
    simp only [decide_eq_true_eq]
    omega)
  clear hs
  obtain ⟨T, hT⟩ : ∃ T, kL K (fun _ => true) = T := ⟨_, rfl⟩
  rw [hT] at HF1 HTL HTB HEQ
  clear hT
  go_enter Tryd.func8, Tryd.ntmps8
  go_wp2_with (go_at_call 19; refine HF1.out.mono ?_; rintro e u1 ⟨v1, rfl, HO1, HBa⟩; refine Hid.out ?_)
  apply hidden
  have HF2 := hidden (rall_any u1 0 b v mk last es (HS.out.q.rm.on HBa.out).rl)
  rw [HEQ.out] at HF2
  obtain ⟨a1, d1, hv1, hs1⟩ := HO1.out.slz HTL.out HTB.out
  have HS1 := hidden hs1
  have HO1' : Hid (OwnJ u1 x.heap.size (.slice a1 T.length d1) T) := by rw [hv1] at HO1; exact HO1
  subst hv1
  clear hs1 HF1 HO1
  go_wp2_with (go_at_call 35; refine HF2.out.mono ?_; rintro e u2 ⟨v2, rfl, HO2, HBb⟩; refine Hid.out ?_)
  apply hidden
  obtain ⟨a2, d2, hv2, hs2⟩ := HO2.out.slz HTL.out HTB.out
  have HO2' : Hid (OwnJ u2 x.heap.size (.slice a2 T.length d2) T) := by rw [hv2] at HO2; exact hidden (HO2.out.low HBa.out.size)
  subst hv2
  have HSM := hidden (sameZ_any _ _ _ _ _ _ _ _ u2 (HS1.out.on (Nat.le_refl _) HBb.out) hs2)
  have hd1 : decide (T = T) = true := by simp
  rw [hd1] at HSM
  have HBX : Hid (Below x.heap.size x u2) := hidden (HBa.out.trans (HBb.out.mono HBa.out.size))
  have HO1u := hidden (HO1'.out.below HBb.out)
  clear hs2 HF2 HO2 HS1 HO1' HBb HBa hd1
  go_wp2_with (go_at_call 15; refine HSM.out.mono ?_; rintro e u3 ⟨rfl, hq3⟩; refine Hid.out ?_)
  apply hidden
  obtain ⟨q3, rfl⟩ := hq3
  have HKP := hidden (keep_any HS.out.j (HBX.out.trans ((below_dr u2 q3).mono HBX.out.size)) hcnt (HO1u.out.below (below_dr u2 q3)) (HO2'.out.below (below_dr u2 q3)) HTL.out HTB.out)
  clear HSM HBX HO1u HO2'
  go_wp2_with (go_at_call 33; refine HKP.out.mono ?_; rintro e u4 ⟨rfl, HU4⟩; refine Hid.out ?_)
  apply hidden
  have HF : Hid (StTo u z a c bl ml b bk cnt full u4) := hidden (by
    obtain ⟨z', h1, h2, h3⟩ := HU4.out
    have h6 := hz.a5
    have h7 := hz.c5
    refine ⟨z', HS.out.zx.trans h1 HS.out.bel.size, ⟨_, _, _, _, _, _, _, _, (HS.out.q.turn h3 h1 (fun k hk => by rw [hk]; omega)).more⟩, h2, (Cf.of_below HS.out.bel).trans h3 (fun k hk e => ?_)⟩
    rw [HS.out.zx k hk] at e
    exact .inr (.inr e))
  clear HKP HU4
  go_wp2_with fail
  go_ret
  exact ⟨rfl, HF⟩
end
end Go.Proofs.YtedgpcckbdnijaaDoor

/- The law's step at a pair: the other kinds. -/

namespace Go.Proofs.YtedgpcckbdnijaaDoor
open Go.RowKit Go.Maps

section
variable {u x : World} {z z0 : Nat → Nat} {a c bl ml b bk cnt o : Nat} {full : Prop} {A B : Int} {mv : Value} {last : Int} {K : Int → Option Int} {M : List Mq} {v mk : Value} {es : List (Int × Int)} {D : List Dq}
set_option maxRecDepth 100000 in
set_option maxHeartbeats 2000000 in
theorem step_none {kd : Int} (hs : Sx u (u.alloc (.cells #[.int .i64 kd, .int .i64 A, .int .i64 B] 38)) z z0 a c bl ml b bk cnt u.heap.size full kd A B mv last K M v mk es D) (hz : Zz a c) (h : kd ≠ 1 ∧ kd ≠ 2 ∧ kd ≠ 3 ∧ kd ≠ 4 ∧ kd ≠ 5 ∧ kd ≠ 6 ∧ kd ≠ 7 ∧ kd ≠ 8) :
    Calls Tryd.prog 8 #[pB bk, pB bl, pB b, .agg #[.int .i64 kd, .int .i64 A, .int .i64 B]] u fun e u' => e = .returned (.bool true) ∧ Hid (StTo u z a c bl ml b bk cnt full u') := by
  obtain ⟨x, hx⟩ : ∃ x, u.alloc (.cells #[.int .i64 kd, .int .i64 A, .int .i64 B] 38) = x := ⟨_, rfl⟩
  rw [hx] at hs
  obtain ⟨k0, k1, k2⟩ := hs.op.cells
  have HF := hidden (hs.none hz)
  have b1 : (kd == 1) = false := by rw [beq_eq_false_iff_ne]; omega
  have b2 : (kd == 2) = false := by rw [beq_eq_false_iff_ne]; omega
  have b3 : (kd == 3) = false := by rw [beq_eq_false_iff_ne]; omega
  have b4 : (kd == 4) = false := by rw [beq_eq_false_iff_ne]; omega
  have b5 : (kd == 5) = false := by rw [beq_eq_false_iff_ne]; omega
  have b6 : (kd == 6) = false := by rw [beq_eq_false_iff_ne]; omega
  have b7 : (kd == 7) = false := by rw [beq_eq_false_iff_ne]; omega
  have b8 : (kd == 8) = false := by rw [beq_eq_false_iff_ne]; omega
  clear hs h
  go_enter Tryd.func8, Tryd.ntmps8
  go_wp2_with fail
  go_ret
  exact ⟨rfl, HF⟩
set_option maxRecDepth 100000 in
/-- The law's step, at any pair. -/
theorem step_any (kd A B : Int) (hp : Zp u z a c bl ml b cnt) (hj : Zj u z bk cnt full) (hz : Zz a c) (ha : a ≠ 0) (hT : Tz u) (hcnt : cnt ≤ 1000000) :
    Calls Tryd.prog 8 #[pB bk, pB bl, pB b, .agg #[.int .i64 kd, .int .i64 A, .int .i64 B]] u fun e u' => e = .returned (.bool true) ∧ Hid (StTo u z a c bl ml b bk cnt full u') := by
  obtain ⟨z0, mv, last, K, M, v, mk, es, D, hs⟩ := Sx.start hp hj kd A B
  by_cases h1 : kd = 1
  · subst h1; exact step_take hs hz hT
  by_cases h2 : kd = 2
  · subst h2; exact step_give hs hz ha
  by_cases h3 : kd = 3
  · subst h3; exact step_rel hs hz ha
  by_cases h4 : kd = 4
  · subst h4; exact step_free hs hz hcnt
  by_cases h5 : kd = 5
  · subst h5; exact step_waiting hs hz hcnt
  by_cases h6 : kd = 6
  · subst h6; exact step_all hs hz hcnt
  by_cases h7 : kd = 7
  · subst h7; exact step_mark hs hz hcnt
  by_cases h8 : kd = 8
  · subst h8; exact step_back hs hz ha hcnt
  exact step_none hs hz ⟨h1, h2, h3, h4, h5, h6, h7, h8⟩
end
end Go.Proofs.YtedgpcckbdnijaaDoor

/- The walk of the law FreePlays. -/

namespace Go.Proofs.YtedgpcckbdnijaaDoor
open Go.RowKit Go.Maps

/-- Two pairs, and what was kept. -/
structure Ps (w u : World) (z : Nat → Nat) (bl ml b bl2 ml2 b2 bk cnt : Nat) (full : Prop) : Prop where
  base : ∀ k, k < w.heap.size → z k = 0
  bel : Below w.heap.size w u
  p1 : Zp u z 1 3 bl ml b cnt
  p2 : Zp u z 2 4 bl2 ml2 b2 cnt
  j : Zj u z bk cnt full
set_option maxRecDepth 100000 in
theorem zz1 : Zz 1 3 := ⟨by decide, by decide, by decide⟩
set_option maxRecDepth 100000 in
theorem zz2 : Zz 2 4 := ⟨by decide, by decide, by decide⟩
section
variable {w u u' : World} {z z' : Nat → Nat} {bl ml b bl2 ml2 b2 bk cnt : Nat} {full : Prop}
set_option maxRecDepth 100000 in
theorem Zp.turn {a c : Nat} {F : Nat → Prop} (h : Zp u z a c bl ml b cnt) (hc : Cf F u u') (hx : Zx u z z') (hF : ∀ k, F k → z k ≠ a ∧ z k ≠ c ∧ z k ≠ 6) : Zp u' z' a c bl ml b cnt := by
  obtain ⟨mv, last, K, M, v, mk, es, D, h1⟩ := h
  exact ⟨mv, last, K, M, v, mk, es, D, h1.turn hc hx hF⟩
set_option maxRecDepth 100000 in
theorem Ps.st1 (h : Ps w u z bl ml b bl2 ml2 b2 bk cnt full) (hs : StTo u z 1 3 bl ml b bk cnt full u') : ∃ z', Ps w u' z' bl ml b bl2 ml2 b2 bk (cnt + 1) full := by
  obtain ⟨z', h1, h2, h3, h4⟩ := hs
  have hb := h.bel.size
  refine ⟨z', fun k hk => (h1 k (by omega)).trans (h.base k hk), h.bel.trans (h4.below hb (fun k hk e => ?_)), h2, (h.p2.turn h4 h1 (fun k e => by omega)).more, h3⟩
  have := h.base k hk
  omega
set_option maxRecDepth 100000 in
theorem Ps.st2 (h : Ps w u z bl ml b bl2 ml2 b2 bk cnt full) (hs : StTo u z 2 4 bl2 ml2 b2 bk cnt full u') : ∃ z', Ps w u' z' bl ml b bl2 ml2 b2 bk (cnt + 1) full := by
  obtain ⟨z', h1, h2, h3, h4⟩ := hs
  have hb := h.bel.size
  refine ⟨z', fun k hk => (h1 k (by omega)).trans (h.base k hk), h.bel.trans (h4.below hb (fun k hk e => ?_)), (h.p1.turn h4 h1 (fun k e => by omega)).more, h2, h3⟩
  have := h.base k hk
  omega
set_option maxRecDepth 100000 in
theorem Ps.step1 (h : Ps w u z bl ml b bl2 ml2 b2 bk cnt full) (hT : Tz u) (hcnt : cnt ≤ 1000000) (kd A B : Int) : Calls Tryd.prog 8 #[pB bk, pB bl, pB b, .agg #[.int .i64 kd, .int .i64 A, .int .i64 B]] u fun e u' => e = .returned (.bool true) ∧ Hid (∃ z', Ps w u' z' bl ml b bl2 ml2 b2 bk (cnt + 1) full) := by
  refine (step_any kd A B h.p1 h.j zz1 (by decide) hT hcnt).mono ?_
  rintro e u' ⟨rfl, HU⟩
  exact ⟨rfl, hidden (h.st1 HU.out)⟩
set_option maxRecDepth 100000 in
theorem Ps.step2 (h : Ps w u z bl ml b bl2 ml2 b2 bk cnt full) (hT : Tz u) (hcnt : cnt ≤ 1000000) (kd A B : Int) : Calls Tryd.prog 8 #[pB bk, pB bl2, pB b2, .agg #[.int .i64 kd, .int .i64 A, .int .i64 B]] u fun e u' => e = .returned (.bool true) ∧ Hid (∃ z', Ps w u' z' bl ml b bl2 ml2 b2 bk (cnt + 1) full) := by
  refine (step_any kd A B h.p2 h.j zz2 (by decide) hT hcnt).mono ?_
  rintro e u' ⟨rfl, HU⟩
  exact ⟨rfl, hidden (h.st2 HU.out)⟩
set_option maxRecDepth 100000 in
theorem Ps.stands (h : Ps w u z bl ml b bl2 ml2 b2 bk cnt True) (hcnt : cnt ≤ 400000) : Calls Tryd.prog 9 #[pB bk] u fun e u' => e = .returned (.bool true) ∧ Hid (∃ z', Ps w u' z' bl ml b bl2 ml2 b2 bk cnt False) := by
  obtain ⟨kn, v, vw, V, W, L, hk⟩ := h.j
  have ho := hk.ko trivial
  have hlk := hk.lk
  have hkc := hk.kc
  have hlen := hk.len
  refine (stands_any (fun k => z k = 7) u 0 bk V.length v vw V W L ⟨⟨_, _, hk.kp.box⟩, hk.kp.row, fun t x hx => ⟨(ho.own t x hx).1, (ho.own t x hx).2.1⟩, ho.ne⟩ ⟨by rw [cell_of_row _ _ 2 _ _ _ hk.kp.box]; rfl, hk.kp.wrow, fun t x hx => by
    obtain ⟨ao, c, e, h1, _⟩ := ho.wer t x hx
    exact ⟨ao, c, e, h1⟩⟩ hlen.symm (fun t x hx q hq => .inl ((ho.own t x hx).2.2 q hq)) rfl (by omega) (Nat.zero_le _)).mono ?_
  rintro e u' ⟨rfl, HU⟩
  have hc := HU.out
  refine ⟨rfl, hidden ⟨z, h.base, h.bel.trans (hc.below h.bel.size (fun k hk2 e => ?_)), h.p1.turn hc (fun _ _ => rfl) (fun k e => by omega), h.p2.turn hc (fun _ _ => rfl) (fun k e => by omega), kn, v, vw, V, W, L, ?_⟩⟩
  · have := h.base k hk2
    omega
  · exact ⟨⟨(hc.block bk (lt_some hk.kp.box) (fun e => by have := hk.zb; omega)).trans hk.kp.box, hk.kp.row.cf hc (fun k hk2 e => by have := hk.zv k hk2; omega), hk.kp.wrow.cf hc (fun k hk2 e => by have := hk.zw k hk2; omega), hk.kp.ne⟩, hk.zb, hk.zv, hk.zw, hk.len, hk.lk, hk.kc, fun hf => hf.elim⟩
end
set_option maxRecDepth 100000 in
/-- Two new pairs. -/
theorem Ps.new {w w1 w2 w3 w4 w5 : World} {l l1 : List Int} {bl ml b bl2 ml2 b2 : Nat} {v v2 : Value} (h01 : Below w.heap.size w w1) (h12 : Below w1.heap.size w1 w2) (h23 : Below w2.heap.size w2 w3) (h34 : Below w3.heap.size w3 w4) (h45 : Below w4.heap.size w4 w5)
    (e0 : newE l = 0) (e1 : newE l1 = 0) (f1 : Fl w2 bl ml (.slice none 0 0) 0 (KL l) []) (g1 : w1.heap.size ≤ bl ∧ w1.heap.size ≤ ml) (r1 : Rl w3 w2.heap.size b v (.slice none 0 0) 0 (enE l)) (g2 : w2.heap.size ≤ b)
    (f2 : Fl w4 bl2 ml2 (.slice none 0 0) 0 (KL l1) []) (g3 : w3.heap.size ≤ bl2 ∧ w3.heap.size ≤ ml2) (r2 : Rl w5 w4.heap.size b2 v2 (.slice none 0 0) 0 (enE l1)) (g4 : w4.heap.size ≤ b2) :
    ∃ z, Ps w (w5.alloc (.cells #[.int .i64 0, .slice none 0 0, .slice none 0 0] 35)) z bl ml b bl2 ml2 b2 w5.heap.size 0 True := by
  have s1 := h01.size
  have s2 := h12.size
  have s3 := h23.size
  have s4 := h34.size
  have s5 := h45.size
  have hb6 : Below w5.heap.size w5 (w5.alloc (.cells #[.int .i64 0, .slice none 0 0, .slice none 0 0] 35)) := bl_al (Below.refl _ _) (Nat.le_refl _) _
  obtain ⟨z, hz⟩ : ∃ z : Nat → Nat, z = fun k => if k < w1.heap.size then 0 else if k < w2.heap.size then 1 else if k < w3.heap.size then (if k = b then 3 else 6) else if k < w4.heap.size then 2 else if k < w5.heap.size then (if k = b2 then 4 else 6) else 5 := ⟨_, rfl⟩
  have zt : ∀ k, z k = if k < w1.heap.size then 0 else if k < w2.heap.size then 1 else if k < w3.heap.size then (if k = b then 3 else 6) else if k < w4.heap.size then 2 else if k < w5.heap.size then (if k = b2 then 4 else 6) else 5 := fun k => by rw [hz]
  have h5 := (h34.mono (Nat.le_refl _)).trans (h45.mono s4)
  have h3u := ((h34.trans (h45.mono s4)).trans (hb6.mono (by omega)))
  have h2u := h23.trans (h3u.mono s3)
  have h4u := h45.trans (hb6.mono s5)
  have hbl := f1.fs.lt
  have hmlt := f1.fs.mlt
  have hb2l := f2.fs.lt
  have hm2l := f2.fs.mlt
  have hb3 := lt_some r1.box
  have hb5 := lt_some r2.box
  have rl1 : Rl w3 0 b v (.slice none 0 0) 0 (enE l) := ⟨r1.box, r1.own.low (Nat.zero_le _), r1.len⟩
  have rl2 : Rl w5 0 b2 v2 (.slice none 0 0) 0 (enE l1) := ⟨r2.box, r2.own.low (Nat.zero_le _), r2.len⟩
  have rm1 : Rm w3 b v (.slice none 0 0) 0 (enE l) [] := ⟨rl1, OwnD.nil _, (fun d hd => by cases hd)⟩
  have rm2 : Rm w5 b2 v2 (.slice none 0 0) 0 (enE l1) [] := ⟨rl2, OwnD.nil _, (fun d hd => by cases hd)⟩
  refine ⟨z, fun k hk => ?_, h01.trans ((h12.trans (h2u.mono s2)).mono s1), ⟨_, 0, _, [], v, _, _, [], ⟨f1.on h2u, rm1.on h3u, Pq.new e0, fun k hk => ?_, ?_, (fun k hk => by cases hk), fun k hk => ?_, (fun d hd => by cases hd), Nat.le_refl _, Int.le_refl _⟩⟩,
    ⟨_, 0, _, [], v2, _, _, [], ⟨f2.on h4u, rm2.on hb6, Pq.new e1, fun k hk => ?_, ?_, (fun k hk => by cases hk), fun k hk => ?_, (fun d hd => by cases hd), Nat.le_refl _, Int.le_refl _⟩⟩,
    ⟨0, .slice none 0 0, .slice none 0 0, [], [], fun _ => [], ⟨⟨al_row _ _, OwnW.nil _ _, OwnW.nil _ _, .inl rfl⟩, ?_, (fun k hk => by cases hk), (fun k hk => by cases hk), rfl, by simp, by simp, fun _ => ⟨(fun t x hx => by simp at hx), (fun t t' x x' hx => by simp at hx), (fun t x hx => by simp at hx)⟩⟩⟩⟩
  · rw [zt, if_pos (by omega)]
  · rw [zt]
    rcases Fb_none hk with e | e
    · rw [if_neg (by omega), if_pos (by omega)]
    · rw [if_neg (by omega), if_pos (by omega)]
  · rw [zt, if_neg (by omega), if_neg (by omega), if_pos (by omega), if_pos rfl]
  · have hkl := r1.own.lt hk
    have hne : ¬ k = b := fun e => (r1.own.noty r1.box rl_ne_en) (by rw [hk, e])
    rw [zt, if_neg (by omega), if_neg (by omega), if_pos (by omega), if_neg hne]
  · rw [zt]
    rcases Fb_none hk with e | e
    · rw [if_neg (by omega), if_neg (by omega), if_neg (by omega), if_pos (by omega)]
    · rw [if_neg (by omega), if_neg (by omega), if_neg (by omega), if_pos (by omega)]
  · rw [zt, if_neg (by omega), if_neg (by omega), if_neg (by omega), if_neg (by omega), if_pos (by omega), if_pos rfl]
  · have hkl := r2.own.lt hk
    have hne : ¬ k = b2 := fun e => (r2.own.noty r2.box rl_ne_en) (by rw [hk, e])
    rw [zt, if_neg (by omega), if_neg (by omega), if_neg (by omega), if_neg (by omega), if_pos (by omega), if_neg hne]
  · rw [zt, if_neg (by omega), if_neg (by omega), if_neg (by omega), if_neg (by omega), if_neg (by omega)]
set_option maxRecDepth 100000 in
set_option maxHeartbeats 16000000 in
theorem walk_FreePlays (ao : Option Addr) (n cap : Nat) (l : List Int) (ao1 : Option Addr) (n1 cap1 : Nat) (l1 : List Int) (ao2 : Option Addr) (n2 cap2 : Nat) (l2 : List (Int × Int × Int)) (w : World) (ht : Tab w) (hz : Tz w) (h0 : 1 < w.heap.size) (hs : SlZ w ao n cap l) (hs1 : SlZ w ao1 n1 cap1 l1) (hs2 : SlO w ao2 n2 l2) (hup : n2 ≤ 390000) :
    Calls Tryd.prog 3 #[.slice ao n cap, .slice ao1 n1 cap1, .slice ao2 n2 cap2] w fun e u => e = .returned (.bool true) ∧ Below w.heap.size w u := by
  have HLV := hidden (live_any w ht hz h0)
  have HTZ : Hid (∀ u, Below w.heap.size w u → Tz u) := hidden (fun u hu j hj => (hu.cell (p := ⟨0, j, none⟩) (World.block_lt_of_cell? w _ (hz j hj))).trans (hz j hj))
  have HS := hidden hs
  have HS1 := hidden hs1
  have HS2 := hidden hs2
  clear ht hz hs hs1 hs2
  go_enter Tryd.func3, Tryd.ntmps3
  go_wp2_with (go_at_call 5; refine HLV.out.mono ?_; rintro e w1 ⟨rfl, HB1⟩; refine Hid.out ?_)
  apply hidden
  obtain ⟨E, hE⟩ : ∃ E, newE l = E := ⟨_, rfl⟩
  obtain ⟨E2, hE2⟩ : ∃ E2, newE l1 = E2 := ⟨_, rfl⟩
  have HE := hidden hE
  have HE2 := hidden hE2
  clear hE hE2
  have HN1 := hidden (new_any w1 ao n cap l (HS.out.on (Nat.le_refl _) HB1.out))
  rw [HE.out] at HN1
  clear HLV
  go_wp2_with (go_at_call 6; refine HN1.out.mono ?_; rintro e w2 ⟨p, rfl, HQ⟩; refine Hid.out ?_)
  apply hidden
  have HB2 := hidden (bl_go HB1.out (Nat.le_refl _) HQ.out.1)
  have HN2 := hidden (rnew_any w2 ao n cap l (HS.out.on (Nat.le_refl _) HB2.out))
  rw [HE.out] at HN2
  clear HN1
  go_wp2_with (go_at_call 7; refine HN2.out.mono ?_; rintro e w3 ⟨p2, rfl, HBb, HQ2⟩; refine Hid.out ?_)
  apply hidden
  have HB3 := hidden (bl_go HB2.out (Nat.le_refl _) HBb.out)
  have HN3 := hidden (new_any w3 ao1 n1 cap1 l1 (HS1.out.on (Nat.le_refl _) HB3.out))
  rw [HE2.out] at HN3
  clear HN2
  go_wp2_with (go_at_call 6; refine HN3.out.mono ?_; rintro e w4 ⟨p3, rfl, HQ3⟩; refine Hid.out ?_)
  apply hidden
  have HB4 := hidden (bl_go HB3.out (Nat.le_refl _) HQ3.out.1)
  have HN4 := hidden (rnew_any w4 ao1 n1 cap1 l1 (HS1.out.on (Nat.le_refl _) HB4.out))
  rw [HE2.out] at HN4
  clear HN3
  go_wp2_with (go_at_call 7; refine HN4.out.mono ?_; rintro e w5 ⟨p4, rfl, HBd, HQ4⟩; refine Hid.out ?_)
  apply hidden
  have HB5 := hidden (bl_go HB4.out (Nat.le_refl _) HBd.out)
  clear HN4 HS HS1
  have eE : (E == E) = true := by simp
  have eE2 : (E2 == E2) = true := by simp
  by_cases hE0 : E = 0
  case neg =>
    obtain rfl : p = none := by
      rcases HQ.out.2 with ⟨e, _⟩ | ⟨_, e⟩
      · exact absurd e hE0
      · exact e
    obtain rfl : p2 = none := by
      rcases HQ2.out with ⟨e, _⟩ | ⟨_, e⟩
      · exact absurd e hE0
      · exact e
    by_cases hE1 : E2 = 0
    · obtain ⟨q1, rfl⟩ : ∃ q1, p3 = some q1 := by
        rcases HQ3.out.2 with ⟨_, b, m, e, _⟩ | ⟨e, _⟩
        · exact ⟨_, e⟩
        · exact absurd hE1 e
      obtain ⟨q2, rfl⟩ : ∃ q2, p4 = some q2 := by
        rcases HQ4.out with ⟨_, b, m, e, _⟩ | ⟨e, _⟩
        · exact ⟨_, e⟩
        · exact absurd hE1 e
      clear HQ HQ2 HQ3 HQ4 hE1
      go_wp2_with fail
      go_ret
      exact ⟨rfl, HB5.out⟩
    · obtain rfl : p3 = none := by
        rcases HQ3.out.2 with ⟨e, _⟩ | ⟨_, e⟩
        · exact absurd e hE1
        · exact e
      obtain rfl : p4 = none := by
        rcases HQ4.out with ⟨e, _⟩ | ⟨_, e⟩
        · exact absurd e hE1
        · exact e
      clear HQ HQ2 HQ3 HQ4
      go_wp2_with fail
      go_ret
      exact ⟨rfl, HB5.out⟩
  obtain ⟨bl, ml, rfl, hbl, hml, hfl⟩ : ∃ b m, p = some ⟨b, 0, none⟩ ∧ w1.heap.size ≤ b ∧ w1.heap.size ≤ m ∧ Fl w2 b m (.slice none 0 0) 0 (KL l) [] := by
    rcases HQ.out.2 with ⟨_, e⟩ | ⟨e, _⟩
    · exact e
    · exact absurd hE0 e
  obtain ⟨b, v, rfl, hb2, hrl⟩ : ∃ b v, p2 = some ⟨b, 0, none⟩ ∧ w2.heap.size ≤ b ∧ Rl w3 w2.heap.size b v (.slice none 0 0) 0 (enE l) := by
    rcases HQ2.out with ⟨_, e⟩ | ⟨e, _⟩
    · exact e
    · exact absurd hE0 e
  by_cases hE1 : E2 = 0
  case neg =>
    obtain rfl : p3 = none := by
      rcases HQ3.out.2 with ⟨e, _⟩ | ⟨_, e⟩
      · exact absurd e hE1
      · exact e
    obtain rfl : p4 = none := by
      rcases HQ4.out with ⟨e, _⟩ | ⟨_, e⟩
      · exact absurd e hE1
      · exact e
    clear HQ HQ2 HQ3 HQ4 hfl hrl hE0
    go_wp2_with fail
    go_ret
    exact ⟨rfl, HB5.out⟩
  obtain ⟨bl2, ml2, rfl, hbl2, hml2, hfl2⟩ : ∃ b m, p3 = some ⟨b, 0, none⟩ ∧ w3.heap.size ≤ b ∧ w3.heap.size ≤ m ∧ Fl w4 b m (.slice none 0 0) 0 (KL l1) [] := by
    rcases HQ3.out.2 with ⟨_, e⟩ | ⟨e, _⟩
    · exact e
    · exact absurd hE1 e
  obtain ⟨b2, v2, rfl, hb4, hrl2⟩ : ∃ b v, p4 = some ⟨b, 0, none⟩ ∧ w4.heap.size ≤ b ∧ Rl w5 w4.heap.size b v (.slice none 0 0) 0 (enE l1) := by
    rcases HQ4.out with ⟨_, e⟩ | ⟨e, _⟩
    · exact e
    · exact absurd hE1 e
  have HP0 := hidden (Ps.new HB1.out HQ.out.1 HBb.out HQ3.out.1 HBd.out (by rw [HE.out]; exact hE0) (by rw [HE2.out]; exact hE1) hfl ⟨hbl, hml⟩ hrl hb2 hfl2 ⟨hbl2, hml2⟩ hrl2 hb4)
  subst hE0 hE1
  clear hfl hrl hfl2 hrl2 HQ HQ2 HQ3 HQ4 HBb HBd HB1 HB2 HB3 HB4 hbl hml hb2 hbl2 hml2 hb4
  go_wp2_with fail
  obtain ⟨bk, hbk⟩ : ∃ bk, w5.heap.size = bk := ⟨_, rfl⟩
  rw [hbk] at HP0 ⊢
  generalize w5.alloc (.cells #[.int .i64 0, .slice none 0 0, .slice none 0 0] 35) = w6 at HP0 ⊢
  clear hbk HB5
  go_loopw [17, 18] (fun i _ wr => ∃ k : Nat, k ≤ n2 ∧ i = .int .i64 (k : Int) ∧ Hid (∃ z, Ps w wr z bl ml b bl2 ml2 b2 bk k True)) (fun i _ _ => n2 - (RowKit.intOf i).toNat)
  case atStart => exact ⟨0, by omega, rfl, HP0⟩
  case round =>
    obtain ⟨k, hk, rfl, HP⟩ := hrel
    clear HP0
    obtain ⟨z, hP⟩ := HP.out
    have HP1 := hidden hP
    clear HP hP
    by_cases hlt : k < n2
    · have hltI : (k : Int) < (n2 : Int) := by omega
      have hnI : (n2 : Int) ≤ 390000 := by omega
      obtain ⟨ob, off, kd, A, B, rfl, c0, c1, c2, hA, hB⟩ := HS2.out.at HP1.out.bel hlt
      obtain ⟨r4, hr4⟩ : ∃ r4, Int.tmod (k : Int) 4 = r4 := ⟨_, rfl⟩
      clear hA hB
      by_cases h3 : r4 = 3
      · have HC := hidden (HP1.out.step2 (HTZ.out _ HP1.out.bel) (by omega) kd A B)
        have hr3 : Int.tmod (k : Int) 4 = 3 := hr4.trans h3
        clear h3 hr4
        go_wp2_with (go_at_call 8; refine HC.out.mono ?_; rintro e u1 ⟨rfl, HU⟩)
        go_roundw
        case rel => exact ⟨k + 1, by omega, by go_num, HU⟩
        case measure => simp [RowKit.intOf]; omega
      · have HC := hidden (HP1.out.step1 (HTZ.out _ HP1.out.bel) (by omega) kd A B)
        have h3b : (r4 == 3) = false := by rw [beq_eq_false_iff_ne]; exact h3
        clear h3
        go_wp2_with (go_at_call 8; refine HC.out.mono ?_; rintro e u1 ⟨rfl, HU⟩)
        go_roundw
        case rel => exact ⟨k + 1, by omega, by go_num, HU⟩
        case measure => simp [RowKit.intOf]; omega
    · obtain rfl : k = n2 := by omega
      have HC1 := hidden (HP1.out.step1 (HTZ.out _ HP1.out.bel) (by omega) 4 0 0)
      clear hlt HS2
      go_wp2_with (go_at_call 8; refine HC1.out.mono ?_; rintro e u1 ⟨rfl, HU⟩; refine Hid.out ?_)
      apply hidden
      obtain ⟨za, hPa⟩ := HU.out
      have HPa := hidden hPa
      have HC2 := hidden (hPa.step1 (HTZ.out _ hPa.bel) (by omega) 5 0 0)
      clear hPa HU HC1 HP1
      go_wp2_with (go_at_call 8; refine HC2.out.mono ?_; rintro e u2 ⟨rfl, HU⟩; refine Hid.out ?_)
      apply hidden
      obtain ⟨zb, hPb⟩ := HU.out
      have HC3 := hidden (hPb.step2 (HTZ.out _ hPb.bel) (by omega) 6 0 0)
      clear hPb HU HC2 HPa
      go_wp2_with (go_at_call 8; refine HC3.out.mono ?_; rintro e u3 ⟨rfl, HU⟩; refine Hid.out ?_)
      apply hidden
      obtain ⟨zc, hPc⟩ := HU.out
      have HC4 := hidden (hPc.step2 (HTZ.out _ hPc.bel) (by omega) 5 0 0)
      clear hPc HU HC3
      go_wp2_with (go_at_call 8; refine HC4.out.mono ?_; rintro e u4 ⟨rfl, HU⟩; refine Hid.out ?_)
      apply hidden
      obtain ⟨zd, hPd⟩ := HU.out
      have HC5 := hidden (hPd.stands (by omega))
      clear hPd HU HC4
      go_wp2_with (go_at_call 9; refine HC5.out.mono ?_; rintro e u5 ⟨rfl, HU⟩; refine Hid.out ?_)
      apply hidden
      obtain ⟨ze, hPe⟩ := HU.out
      have HC6 := hidden (hPe.step1 (HTZ.out _ hPe.bel) (by omega) 6 0 0)
      clear hPe HU HC5
      go_wp2_with (go_at_call 8; refine HC6.out.mono ?_; rintro e u6 ⟨rfl, HU⟩; refine Hid.out ?_)
      apply hidden
      obtain ⟨zf, hPf⟩ := HU.out
      have HC7 := hidden (hPf.step2 (HTZ.out _ hPf.bel) (by omega) 4 0 0)
      clear hPf HU HC6
      go_wp2_with (go_at_call 8; refine HC7.out.mono ?_; rintro e u7 ⟨rfl, HU⟩; refine Hid.out ?_)
      apply hidden
      have HFIN : Hid (Below w.heap.size w u7) := hidden (by
        obtain ⟨zg, hPg⟩ := HU.out
        exact hPg.bel)
      clear HU HC7
      go_wp2_with fail
      go_ret
      exact ⟨rfl, HFIN.out⟩
end Go.Proofs.YtedgpcckbdnijaaDoor
