/- Take, Give, Release. -/
import Derived.Test.YtedgpcckbdnijaaDoorUj
namespace Go.Proofs.YtedgpcckbdnijaaDoor
open Go.RowKit Go.Maps

set_option maxRecDepth 100000 in
theorem noteM_blocks (K : Int → Option Int) (k : Int) : ∀ M : List Mq, (noteM K k M).map Mq.b = M.map Mq.b
  | [] => rfl
  | [q] => rfl
  | q :: r :: M => by
    have := noteM_blocks K k (r :: M)
    unfold noteM
    rw [List.map_cons, this]
    rfl
set_option maxRecDepth 100000 in
theorem Fb_note {K : Int → Option Int} {k : Int} {b m : Nat} {mv : Value} {M : List Mq} {x : Nat} : Fb b m mv (noteM K k M) x ↔ Fb b m mv M x := by
  have h : ∀ A B : List Mq, A.map Mq.b = B.map Mq.b → (∃ q ∈ A, x = q.b) → ∃ q ∈ B, x = q.b := by
    rintro A B h ⟨q, hq, rfl⟩
    have h1 : q.b ∈ B.map Mq.b := by rw [← h]; exact List.mem_map.2 ⟨q, hq, rfl⟩
    obtain ⟨r, hr, e⟩ := List.mem_map.1 h1
    exact ⟨r, hr, e.symm⟩
  unfold Fb
  have hb := noteM_blocks K k M
  constructor
  · rintro (h1 | h1 | h1 | h1)
    · exact .inl h1
    · exact .inr (.inl h1)
    · exact .inr (.inr (.inl h1))
    · exact .inr (.inr (.inr (h _ _ hb h1)))
  · rintro (h1 | h1 | h1 | h1)
    · exact .inl h1
    · exact .inr (.inl h1)
    · exact .inr (.inr (.inl h1))
    · exact .inr (.inr (.inr (h _ _ hb.symm h1)))
/-- The least free page. -/
def Lst (K : Int → Option Int) (p : Nat) : Prop := K (p : Int) = some 0 ∧ ∀ q : Nat, q < p → K (q : Int) ≠ some 0
/-- What Take answers. -/
def TakeIs (w : World) (b m : Nat) (mv : Value) (last : Int) (K : Int → Option Int) (M : List Mq) (e : Ending) (u : World) : Prop := ∃ (p : Nat) (ok : Bool), e = .returned (.tuple #[.int .i64 (p : Int), .bool ok]) ∧ Hid ((ok = true ∧ Lst K p ∧ Fl u b m mv last (setK K p (-1)) (noteM K p M) ∧ Cf (Fb b m mv M) w u) ∨ (ok = false ∧ p = 0 ∧ (∀ x, K x ≠ some 0) ∧ u = w))
set_option maxRecDepth 100000 in
theorem take_any {w : World} {b m : Nat} {mv : Value} {last : Int} {K : Int → Option Int} {M : List Mq} (h : Fl w b m mv last K M) (hT : Tz w) :
    Calls Tryd.prog 16 #[pB b] w (TakeIs w b m mv last K M) := by
  obtain ⟨W, h1, h2, h3⟩ := h.fs.box
  have HL := hidden (least_any h1 h2 hT)
  have H := hidden h
  have H3 := hidden h3
  clear h h1 h2 h3 hT
  go_enter Tryd.func16, Tryd.ntmps16
  go_wp2_with (first
    | (go_at_call 44; refine HL.out.mono ?_; rintro e u ⟨p, ok, rfl, HP, rfl⟩; refine Hid.out ?_))
  apply hidden
  cases ok with
  | true =>
    have HQ : Hid (Lst K p ∧ 2 ≤ p ∧ p < 65536) := hidden (by
      rcases HP.out with ⟨_, a1, a2, a3⟩ | ⟨e, _⟩
      · rw [H3.out p a1] at a2
        have e0 : K (p : Int) = some 0 := by simpa using a2
        have := H.out.fs.kept.2 _ _ e0
        refine ⟨⟨e0, fun q hq => ?_⟩, by omega, a1⟩
        have := a3 q hq
        rw [H3.out q (by omega)] at this
        simpa using this
      · cases e)
    have HC := hidden (change_any H.out p HQ.out.2 (-1) (by decide))
    go_wp2_with (go_at_call 45; refine HC.out.mono ?_; rintro e u2 ⟨rfl, HU⟩)
    go_returns
    exact ⟨p, true, rfl, hidden (.inl ⟨rfl, HQ.out.1, HU.out.1, HU.out.2⟩)⟩
  | false =>
    obtain ⟨rfl, hno⟩ : p = 0 ∧ ∀ q, q < 65536 → bitOf W q = false := by
      rcases HP.out with ⟨e, _⟩ | ⟨_, a1, a2⟩
      · cases e
      · exact ⟨a1, a2⟩
    have HN : Hid (∀ x, K x ≠ some 0) := hidden (fun x hx => by
      have h1 := H.out.fs.kept.2 x 0 hx
      have h2 := hno x.toNat (by omega)
      rw [H3.out _ (by omega), show (x.toNat : Int) = x by omega, hx] at h2
      simp at h2)
    clear hno
    go_wp2_with fail
    go_returns
    exact ⟨0, false, rfl, hidden (.inr ⟨rfl, rfl, HN.out, rfl⟩)⟩
/-- What Give answers. -/
def giveE (K : Int → Option Int) (p t : Int) : Int := if isPg p then (if 0 ≤ t ∧ t ≤ 1099511627776 then (if (K p).isSome then 100 else 0) else 1) else 30
set_option maxRecDepth 100000 in
theorem give_any {w : World} {b m : Nat} {mv : Value} {last : Int} {K : Int → Option Int} {M : List Mq} (h : Fl w b m mv last K M) (p t : Int) :
    Calls Tryd.prog 17 #[pB b, .int .i64 p, .int .i64 t] w fun e u => e = .returned (.int .i64 (giveE K p t)) ∧ Hid ((giveE K p t = 0 ∧ Fl u b m mv last (setK K p t) (noteM K p M) ∧ Cf (Fb b m mv M) w u) ∨ (giveE K p t ≠ 0 ∧ u = w)) := by
  have HI := isPage_any p w
  by_cases hp : isPg p
  · have e1 : decide (2 ≤ p ∧ p < 65536) = true := by simpa [isPg] using hp
    rw [e1] at HI
    by_cases h1 : 0 ≤ t
    · by_cases h2 : t ≤ 1099511627776
      · obtain ⟨pn, rfl⟩ : ∃ pn : Nat, p = (pn : Int) := ⟨p.toNat, by unfold isPg at hp; omega⟩
        have hpn : 2 ≤ pn ∧ pn < 65536 := by unfold isPg at hp; omega
        have HH := hidden (has_any h.fs (pn : Int) (by omega))
        have HC := hidden (change_any h pn hpn t (by omega))
        cases hK : (K (pn : Int)).isSome with
        | true =>
          have hE : giveE K pn t = 100 := by unfold giveE; rw [if_pos hp, if_pos ⟨h1, h2⟩, hK]; rfl
          rw [hE]
          rw [hK] at HH
          clear h hp e1 hK hE HC
          go_enter Tryd.func17, Tryd.ntmps17
          go_wp2_with (first
            | (go_at_call 23; refine same_call HI ?_)
            | (go_at_call 24; refine same_call HH.out ?_))
          go_ret
          exact ⟨rfl, hidden (.inr ⟨by decide, rfl⟩)⟩
        | false =>
          have hE : giveE K pn t = 0 := by unfold giveE; rw [if_pos hp, if_pos ⟨h1, h2⟩, hK]; rfl
          rw [hE]
          rw [hK] at HH
          clear h hp e1 hK hE
          go_enter Tryd.func17, Tryd.ntmps17
          go_wp2_with (first
            | (go_at_call 23; refine same_call HI ?_)
            | (go_at_call 24; refine same_call HH.out ?_)
            | (go_at_call 45; refine HC.out.mono ?_; rintro e u2 ⟨rfl, HU⟩))
          go_ret
          exact ⟨rfl, hidden (.inl ⟨by first | rfl | trivial, HU.out.1, HU.out.2⟩)⟩
      · have hE : giveE K p t = 1 := by unfold giveE; rw [if_pos hp, if_neg (fun h => h2 h.2)]
        rw [hE]
        clear h hp e1 hE
        go_enter Tryd.func17, Tryd.ntmps17
        go_wp2_with (go_at_call 23; refine same_call HI ?_)
        go_ret
        exact ⟨rfl, hidden (.inr ⟨by decide, rfl⟩)⟩
    · have hE : giveE K p t = 1 := by unfold giveE; rw [if_pos hp, if_neg (fun h => h1 h.1)]
      rw [hE]
      clear h hp e1 hE
      go_enter Tryd.func17, Tryd.ntmps17
      go_wp2_with (go_at_call 23; refine same_call HI ?_)
      go_ret
      exact ⟨rfl, hidden (.inr ⟨by decide, rfl⟩)⟩
  · have e1 : decide (2 ≤ p ∧ p < 65536) = false := by simpa [isPg] using hp
    rw [e1] at HI
    have hE : giveE K p t = 30 := by unfold giveE; rw [if_neg hp]
    rw [hE]
    clear h hp e1 hE
    go_enter Tryd.func17, Tryd.ntmps17
    go_wp2_with (go_at_call 23; refine same_call HI ?_)
    go_ret
    exact ⟨rfl, hidden (.inr ⟨by decide, rfl⟩)⟩
/-- What is due. -/
def dueF (o : Int) (s : Int) : Bool := decide (0 < s) && decide (s ≤ o)
set_option maxRecDepth 100000 in
theorem due_any (o s : Int) (c : Nat) (u : World) (hc : u.cell? ⟨c, 0, none⟩ = some (.int .i64 o)) : Calls Tryd.prog 46 #[.int .i64 s, .pointer (some ⟨c, 0, none⟩)] u fun e u' => e = .returned (.bool (dueF o s)) ∧ u' = u := by
  have hw := waits_any s u
  unfold dueF
  by_cases h : 0 < s
  · have e1 : decide (0 < s) = true := by simpa using h
    rw [e1] at hw ⊢
    go_enter Tryd.func46, Tryd.ntmps46
    go_wp2_with (go_at_call 43; refine same_call hw ?_)
    go_ret
    exact ⟨by simp, rfl⟩
  · have e1 : decide (0 < s) = false := by simpa using h
    rw [e1] at hw ⊢
    go_enter Tryd.func46, Tryd.ntmps46
    go_wp2_with (go_at_call 43; refine same_call hw ?_)
    go_ret
    exact ⟨by simp, rfl⟩
end Go.Proofs.YtedgpcckbdnijaaDoor
