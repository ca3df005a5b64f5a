/- Release. -/
import Derived.Test.YtedgpcckbdnijaaDoorUk
namespace Go.Proofs.YtedgpcckbdnijaaDoor
open Go.RowKit Go.Maps

/-- Pages are freed, one by one. -/
def relS : List Int → (Int → Option Int) × List Mq → (Int → Option Int) × List Mq
  | [], s => s
  | p :: l, s => relS l (setK s.1 p 0, noteM s.1 p s.2)
set_option maxRecDepth 100000 in
theorem relS_snoc : ∀ (l : List Int) (p : Int) (s : (Int → Option Int) × List Mq), relS (l ++ [p]) s = (setK (relS l s).1 p 0, noteM (relS l s).1 p (relS l s).2)
  | [], _, _ => rfl
  | a :: l, p, s => by
    rw [List.cons_append]
    unfold relS
    exact relS_snoc l p _
set_option maxRecDepth 100000 in
theorem relS_at : ∀ (l : List Int) (s : (Int → Option Int) × List Mq) (x : Int), (relS l s).1 x = if x ∈ l then some 0 else s.1 x
  | [], _, _ => by simp [relS]
  | p :: l, s, x => by
    unfold relS
    rw [relS_at l]
    by_cases e : x ∈ l
    · simp [e]
    · by_cases e2 : x = p
      · simp [e2, setK, putK]
      · simp [e, e2, setK, putK]
set_option maxRecDepth 100000 in
theorem relS_blocks : ∀ (l : List Int) (s : (Int → Option Int) × List Mq), (relS l s).2.map Mq.b = s.2.map Mq.b
  | [], _ => rfl
  | p :: l, s => by
    unfold relS
    rw [relS_blocks l]
    exact noteM_blocks _ _ _
set_option maxRecDepth 100000 in
theorem Fb_map {b m : Nat} {mv : Value} {A B : List Mq} (h : A.map Mq.b = B.map Mq.b) {x : Nat} (hx : Fb b m mv A x) : Fb b m mv B x := by
  rcases hx with h1 | h1 | h1 | ⟨q, hq, rfl⟩
  · exact .inl h1
  · exact .inr (.inl h1)
  · exact .inr (.inr (.inl h1))
  · have h1 : q.b ∈ B.map Mq.b := by rw [← h]; exact List.mem_map.2 ⟨q, hq, rfl⟩
    obtain ⟨r, hr, e⟩ := List.mem_map.1 h1
    exact .inr (.inr (.inr ⟨r, hr, e.symm⟩))
/-- What is free behind a Release. -/
def relK (K : Int → Option Int) (o : Int) : Int → Option Int := fun x => match K x with | some s => if dueF o s then some 0 else some s | none => none
set_option maxRecDepth 100000 in
theorem relS_K {K : Int → Option Int} (hK : Pgs K) (o : Int) (M : List Mq) : (relS (kL K (dueF o)) (K, M)).1 = relK K o := by
  funext x
  rw [relS_at]
  unfold relK
  by_cases e : x ∈ kL K (dueF o)
  · rw [if_pos e]
    obtain ⟨s, h1, h2⟩ := (kL_mem hK _ x).1 e
    rw [h1]
    simp [h2]
  · rw [if_neg e]
    cases h1 : K x with
    | none => exact h1
    | some s =>
      have h2 : dueF o s = false := by
        cases h3 : dueF o s with
        | false => rfl
        | true => exact absurd ((kL_mem hK _ x).2 ⟨s, h1, h3⟩) e
      simp [h2, h1]
set_option maxRecDepth 100000 in
set_option maxHeartbeats 2000000 in
theorem release_any {w : World} {b m : Nat} {mv : Value} {last : Int} {K : Int → Option Int} {M : List Mq} (h : Fl w b m mv last K M) (o : Int) :
    Calls Tryd.prog 18 #[pB b, .int .i64 o] w fun e u => e = .returned (.int .i64 ((kL K (dueF o)).length : Int)) ∧ Hid (Fl u b m mv last (relK K o) (relS (kL K (dueF o)) (K, M)).2 ∧ Cf (Fb b m mv M) w u) := by
  obtain ⟨x, hx⟩ : ∃ x, w.alloc (.cells #[.int .i64 o] 3) = x := ⟨_, rfl⟩
  have hbx : Below w.heap.size w x := by rw [← hx]; exact bl_al (Below.refl _ _) (Nat.le_refl _) _
  have hcx : x.cell? ⟨w.heap.size, 0, none⟩ = some (.int .i64 o) := by rw [← hx]; simp
  have hxs : x.heap.size = w.heap.size + 1 := by rw [← hx]; simp
  have HX := hidden (h.on hbx)
  have c0 := HX.out.fs.c0
  have HR := hidden (rising_any HX.out.fs.kept 46 #[.pointer (some ⟨w.heap.size, 0, none⟩)] (dueF o) (fun s u hu => due_any o s _ u ((hu.cell (p := ⟨w.heap.size, 0, none⟩) (by rw [hxs]; exact Nat.lt_succ_self _)).trans hcx)) (enters_of Tryd.func46 (by kernel_rfl) rfl))
  have HBX := hidden hbx
  have hll := kL_len K (dueF o)
  have HPG : Hid (∀ p ∈ kL K (dueF o), isPg p) := hidden (fun p hp => by
    obtain ⟨s, h1, _⟩ := (kL_mem h.fs.kept.2 _ p).1 hp
    exact h.fs.kept.2 p s h1)
  have HEK := hidden (relS_K h.fs.kept.2 o M)
  rw [← HEK.out]
  clear HEK
  obtain ⟨l, hl⟩ : ∃ l, kL K (dueF o) = l := ⟨_, rfl⟩
  rw [hl] at HR hll HPG ⊢
  have HLT : Hid (∀ k, Fb b m mv M k → k < w.heap.size) := hidden (fun k hk => h.lts hk)
  obtain ⟨n, hn⟩ : ∃ n : Nat, l.length = n := ⟨_, rfl⟩
  obtain ⟨S, hS⟩ : ∃ S : Nat → (Int → Option Int) × List Mq, S = fun k => relS (l.take k) (K, M) := ⟨_, rfl⟩
  have HS0 : Hid (S 0 = (K, M)) := hidden (by rw [hS]; rfl)
  have HSN : Hid (relS l (K, M) = S n) := hidden (by rw [hS]; show _ = relS (l.take n) (K, M); rw [List.take_of_length_le (by omega)])
  have HSS : Hid (∀ k, k < n → S (k + 1) = (setK (S k).1 (l.getD k 0) 0, noteM (S k).1 (l.getD k 0) (S k).2)) := hidden (fun k hk => by
    rw [hS]
    show relS (l.take (k + 1)) (K, M) = _
    rw [takeZ l k (by omega), relS_snoc])
  have HSB : Hid (∀ k, (S k).2.map Mq.b = M.map Mq.b) := hidden (fun k => by rw [hS]; exact relS_blocks _ _)
  have HLN := hidden hn
  rw [HSN.out, hn]
  rw [hn] at hll
  have hlI : (n : Int) ≤ 65536 := by omega
  clear h hbx hcx hxs hl hn hS
  go_enter Tryd.func18, Tryd.ntmps18
  go_wp2_with (go_at_call 41; refine HR.out.mono ?_; rintro e w2 ⟨v, rfl, HO, HB⟩; refine Hid.out ?_)
  apply hidden
  obtain ⟨ao, cap, rfl, hsl⟩ := HO.out.sl
  have HSL := hidden hsl
  rw [HLN.out] at HSL HO ⊢
  have H2 := hidden (HX.out.on HB.out)
  have HB2 : Hid (Below w.heap.size w w2) := hidden (HBX.out.trans (HB.out.mono HBX.out.size))
  have HAO : Hid (∀ p, ao = some p → w.heap.size ≤ p.block ∧ p.block < w2.heap.size) := hidden (fun p hp => by
    have h1 := HO.out.lt (k := p.block) (by rw [hp]; rfl)
    have h2 := HBX.out.size
    omega)
  clear hsl HX HR HBX HO HB c0 hx
  go_wp2_with fail
  go_loopw [7, 16] (fun _ i u => ∃ k : Nat, k ≤ n ∧ i = .int .i64 (k : Int) ∧ Hid (Fl u b m mv last (S k).1 (S k).2) ∧ Hid (Cf (Fb b m mv M) w2 u)) (fun _ i _ => n - (RowKit.intOf i).toNat)
  case atStart => exact ⟨0, by omega, rfl, by rw [HS0.out]; exact H2, hidden (Cf.refl _ _)⟩
  case round =>
    obtain ⟨k, hk, rfl, HF, HC⟩ := hrel
    by_cases hlt : k < n
    · have hltI : (k : Int) < (n : Int) := by omega
      obtain ⟨g, rfl, hc⟩ : ∃ g, ao = some ⟨g, 0, none⟩ ∧ wr.cell? ⟨g, k, none⟩ = some (.int .i64 (l.getD k 0)) := by
        rcases HSL.out.hat with h0 | ⟨g, e, hgl, hcc⟩
        · omega
        · refine ⟨g, e, (World.cell?_of_block (HC.out.block g hgl (fun hf => ?_))).trans (hcc k hlt)⟩
          have h1 := (HAO.out _ e).1
          have h2 := HLT.out g hf
          simp only at h1
          omega
      have hp := HPG.out _ (getD_mem l k (by rw [HLN.out]; exact hlt))
      have HSK := hidden (HSS.out k hlt)
      generalize l.getD k 0 = p at *
      obtain ⟨pn, rfl⟩ : ∃ pn : Nat, p = (pn : Int) := ⟨p.toNat, by omega⟩
      have HCH := hidden (change_any HF.out pn (by omega) 0 (by decide))
      have HFB : Hid (∀ x, Fb b m mv (S k).2 x → Fb b m mv M x) := hidden (fun x hx => Fb_map (HSB.out k) hx)
      generalize S k = Sk at *
      clear hp
      go_wp2_with (go_at_call 45; refine HCH.out.mono ?_; rintro e u2 ⟨rfl, HU⟩)
      go_roundw
      case rel => exact ⟨k + 1, by omega, by go_num, by rw [HSK.out]; exact hidden HU.out.1, hidden (HC.out.go (HU.out.2.wd HFB.out))⟩
      case measure => simp [RowKit.intOf]; omega
    · obtain rfl : k = n := by omega
      go_wp2_with fail
      go_ret
      exact ⟨rfl, hidden ⟨HF.out, (Cf.of_below HB2.out).go HC.out⟩⟩
end Go.Proofs.YtedgpcckbdnijaaDoor
