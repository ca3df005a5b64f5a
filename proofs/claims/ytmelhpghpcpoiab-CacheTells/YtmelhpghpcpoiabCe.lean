/- The cache: a dirty page is written; State; the page that the law fills. -/
import Derived.Test.YtmelhpghpcpoiabCd
namespace Go.Proofs.Ytmelhpghpcpoiab
open Go.RowKit Go.Maps

set_option maxRecDepth 100000 in
/-- The device stays while what is not its own changes. -/
theorem St.cx {w0 w u : World} {X H : Nat → Prop} {a : Nat} {d : D} (h : St w0 w X a d) (hc : Ch H w u) (hH : ∀ k, k < w.heap.size → H k → X k ∧ w0.heap.size ≤ k) : St w0 u (Xn X w u) a d := by
  obtain ⟨⟨F, hD, hF⟩, hx, hb⟩ := h
  refine ⟨⟨F, hD.ch hc fun k hk hf hh => (hF k hf).2.2 (hH k hk hh).1, fun k hk => ⟨(hF k hk).1, Nat.lt_of_lt_of_le (hF k hk).2.1 hc.size, ?_⟩⟩, Xn_lt hx hc.size, hb.trans (hc.below hb.size fun k hk hh => ?_)⟩
  · rintro (h1 | h1)
    · exact (hF k hk).2.2 h1
    · have := (hF k hk).2.1
      omega
  · have := (hH k (Nat.lt_of_lt_of_le hk hb.size) hh).2
    omega
set_option maxRecDepth 100000 in
/-- The page that is held stays while its blocks do. -/
theorem One.stay {w u : World} {c a : Nat} {fr h mi ev : Int} {m : Nat} {n : Int} {L g p : Nat} {dt : Bool} {pins : Int} {l : List Int} (o : One w c a fr h mi ev m n L g p dt pins l) (hb : ∀ k, k = c ∨ k = L ∨ k = g ∨ k = m → u.heap[k]? = w.heap[k]?) : One u c a fr h mi ev m n L g p dt pins l := by
  obtain ⟨es, clock, hm, F, hs, hD⟩ := o.hm
  exact ⟨(hb c (.inl rfl)).trans o.hc, (hb L (.inr (.inl rfl))).trans o.hl, (hb g (.inr (.inr (.inl rfl)))).trans o.hg, ⟨es, clock, (hb m (.inr (.inr (.inr rfl)))).trans hm, F, hs, hD⟩, o.lp, o.wf, o.wn, o.n1, o.n2, o.n3, o.n4, o.n5, o.n6⟩

set_option maxRecDepth 100000 in
theorem St.drw {w0 w : World} {X : Nat → Prop} {a : Nat} {d : D} (h : St w0 w X a d) : St w0 w.drew X a d := by
  obtain ⟨⟨F, hD, hF⟩, hx, hb⟩ := h
  exact ⟨⟨F, hD.ch (Ch.dr (fun _ => False) w) (fun _ _ _ h => h), hF⟩, hx, hb.drew⟩
set_option maxRecDepth 100000 in
set_option maxHeartbeats 4000000 in
theorem clean_yes (w0 w : World) (X : Nat → Prop) (a : Nat) (d : D) (hS : St w0 w X a d) (c : Nat) (fr h mi ev : Int) (m n L g : Nat) (pins : Int) (l : List Int) (hO : One w c a fr h mi ev m n L g d.page true pins l)
    (he : refu d n = 0) (hn : n < d.pages) (xc : X c) (xL : X L) (xg : X g) (xm : X m) (bL : w0.heap.size ≤ L) (h1 : 0 ≤ d.cw) (h2 : d.cw < 4611686018427387904) (hfew : d.loose.length < 4398046511103) (har : d.armed = false) :
    Calls Try.prog 26 #[pt c, pt L] w fun e u => e = .returned (.int .i64 0) ∧ St w0 u X a (d.wrote n l) ∧ One u c a fr h mi ev m n L g d.page false pins l ∧ ∀ k, X k → k ≠ L → u.heap[k]? = w.heap[k]? := by
  have c0 : w.cell? ⟨c, 0, none⟩ = some (pt a) := hO.hc.cell 0
  have l0 : w.cell? ⟨L, 0, none⟩ = some (.int .i64 (n : Int)) := hO.hl.cell 0
  have l1 : w.cell? ⟨L, 1, none⟩ = some (.slice (some ⟨g, 0, none⟩) d.page d.page) := hO.hl.cell 1
  have l2 : w.cell? ⟨L, 2, none⟩ = some (.bool true) := hO.hl.cell 2
  have hW : Calls Try.prog 38 #[.pointer (some ⟨a, 0, none⟩), .int .i64 (n : Int), .slice (some ⟨g, 0, none⟩) d.page d.page] w.drew fun e u => e = .returned (.int .i64 0) ∧ Hid (St w0 u X a (d.wrote n l)) ∧ Hid (One u c a fr h mi ev m n L g d.page true pins l) ∧ Hid (∀ k, X k → u.heap[k]? = w.heap[k]?) ∧ u.cell? ⟨L, 2, none⟩ = some (.bool true) ∧ u.frozen? ⟨L, 2, none⟩ = false := by
    refine (St_Write w0 w.drew X a d hS.drw n g d.page l he hn hO.lp hO.wf hO.hg xg h1 h2 hfew har).mono ?_
    rintro e u ⟨rfl, s1, k1⟩
    have o1 := hO.stay (u := u) (by rintro k (rfl | rfl | rfl | rfl) <;> exact k1 _ (by assumption))
    exact ⟨rfl, hidden s1, hidden o1, hidden k1, o1.hl.cell 2, o1.hl.free 2⟩
  clear hO hS
  go_enter Try.func26, Try.ntmps26
  go_wp2_with fail
  go_region_with (go_at_call 38; refine hW.mono ?_; rintro e u ⟨rfl, HS, HO1, HK, y2, f2⟩)
  all_goals
    go_wp2
    go_ret
    have o := HO1.out
    refine ⟨rfl, ?_, ⟨o.hc.other o.n1 _, o.hl.self _, o.hg.other (Ne.symm o.n6) _, MapIs.ch o.hm (Ch.setCell (F := fun k => k = L) u (p := ⟨L, 2, none⟩) rfl _) o.n4, o.lp, o.wf, o.wn, o.n1, o.n2, o.n3, o.n4, o.n5, o.n6⟩, fun k hk hne => (Below.heap_setCell _ _ _ _ hne).trans (HK.out k hk)⟩
    have s2 := HS.out.cx (H := fun k => k = L) (Ch.setCell (F := fun k => k = L) u (p := ⟨L, 2, none⟩) rfl (.bool false)) (fun k _ e => by subst e; exact ⟨xL, bL⟩)
    obtain ⟨⟨F, hD, hF⟩, hx, hb⟩ := s2
    exact ⟨⟨F, hD, fun k hk => ⟨(hF k hk).1, (hF k hk).2.1, fun hX => (hF k hk).2.2 (.inl hX)⟩⟩, fun k hk => hx k (.inl hk), hb⟩
end Go.Proofs.Ytmelhpghpcpoiab
