/- The cache over its device, which is up: a page that is looked for. -/
import Derived.Test.YtmelhpghpcpoiabDh
namespace Go.Proofs.Ytmelhpghpcpoiab
open Go.RowKit Go.Maps

set_option maxRecDepth 100000 in
theorem Dv.rdl {w : World} {F : Nat → Prop} {a : Nat} {d : D} (h : Dv w F a d) {n : Nat} (hn : n < d.pages) : (rd d n).length = d.page ∧ Wf (rd d n) := by
  obtain ⟨bs, bl, vL, vK, ha, hr⟩ := h
  exact hr.rdlen hn
set_option maxRecDepth 100000 in
theorem Cx_Read (w0 w : World) (X : Nat → Prop) (a c m : Nat) (d : D) (fr h mi ev : Int) (fs : List Fr) (x : Cx w0 w X a c m d fr h mi ev fs) (n : Nat) (hn : n < d.pages) (hdn : d.down = false) (h1 : 0 ≤ d.cr) (h2 : d.cr < 4611686018427387904) :
    Calls Try.prog 15 #[.pointer (some ⟨a, 0, none⟩), .int .i64 (n : Int)] w fun e u => ∃ g, e = .returned (.tuple #[.slice (some ⟨g, 0, none⟩) d.page d.page, .int .i64 0]) ∧ w.heap.size ≤ g ∧ Hs u g (By (rd d n)) 5 ∧ Cx w0 u (Xn X w u) a c m { d with cr := d.cr + 1 } fr h mi ev fs ∧ ∀ k, X k → u.heap[k]? = w.heap[k]? := by
  have he : refu d n = 0 := by
    unfold refu
    rw [hdn]
    simp
    omega
  obtain ⟨⟨F, hD, hF⟩, hx, hb⟩ := x.st
  refine (Read_yes w F a d n hD he hn h1 h2 (fun k hk => (hF k hk).2.1)).mono ?_
  rintro e u ⟨g, rfl, hg, hh, hD2, hC2⟩
  have kx : ∀ k, X k → u.heap[k]? = w.heap[k]? := fun k hk => hC2.block k (hx k hk) fun hf => (hF k hf).2.2 hk
  refine ⟨g, rfl, hg, hh, ⟨⟨⟨F, hD2, fun k hk => ⟨(hF k hk).1, Nat.lt_of_lt_of_le (hF k hk).2.1 hC2.size, fun h => h.elim (hF k hk).2.2 fun h => by have := (hF k hk).2.1; omega⟩⟩, Xn_lt hx hC2.size, hb.trans (hC2.below hb.size fun k hk hf => by have := (hF k hf).1; omega)⟩, x.cw.stay fun k hk => kx k (x.bx k hk).1, fun k hk => ⟨.inl (x.bx k hk).1, (x.bx k hk).2⟩⟩, kx⟩
/-- Which page goes, if any. -/
def RoomTo (fr : Int) (d : D) (fs : List Fr) (ev : Int) (d2 : D) (fs2 : List Fr) (ev2 : Int) : Prop :=
  ((fs.length : Int) < fr ∧ d2 = d ∧ fs2 = fs ∧ ev2 = ev) ∨ (¬ (fs.length : Int) < fr ∧ ∃ A f B, fs = A ++ f :: B ∧ f.pins = 0 ∧ lv fs = some f ∧ d2 = cl d f ∧ fs2 = A ++ B ∧ ev2 = ev + 1)
/-- What a page that is looked for leaves. -/
inductive FetchIs (w0 w : World) (X : Nat → Prop) (a c m : Nat) (d : D) (fr h mi ev : Int) (fs : List Fr) (n : Int) (e : Ending) (u : World) : Prop
  | hit (A B : List Fr) (f : Fr) (h1 : fs = A ++ f :: B) (h2 : (f.n : Int) = n) (h3 : e = .returned (.tuple #[pt f.b, .int .i64 0])) (h4 : Cx w0 u X a c m d fr (h + 1) mi ev (A ++ B ++ [f])) (h5 : Kp X c m fs w u)
  | full (h1 : ∀ f ∈ fs, (f.n : Int) ≠ n) (h2 : ¬ (fs.length : Int) < fr) (h3 : lv fs = none) (h4 : e = .returned (.tuple #[.pointer none, .int .i64 40])) (h5 : Cx w0 u X a c m d fr h mi ev fs) (h6 : Kp X c m fs w u)
  | bad (h1 : ∀ f ∈ fs, (f.n : Int) ≠ n) (h2 : ¬ (0 ≤ n ∧ n < d.pages)) (h4 : e = .returned (.tuple #[.pointer none, .int .i64 30])) (h5 : Cx w0 u X a c m d fr h mi ev fs) (h6 : Kp X c m fs w u)
  | miss (N : Nat) (d2 : D) (fs2 : List Fr) (ev2 : Int) (g b : Nat) (Y : Nat → Prop) (h1 : ∀ f ∈ fs, (f.n : Int) ≠ n) (h2 : n = (N : Int)) (h3 : N < d.pages) (h4 : RoomTo fr { d with cr := d.cr + 1 } fs ev d2 fs2 ev2) (h5 : e = .returned (.tuple #[pt b, .int .i64 0]))
      (h6 : Cx w0 u Y a c m d2 fr h (mi + 1) ev2 (fs2 ++ [⟨N, g, false, 0, b, rd d N⟩])) (h7 : Kp X c m fs w u) (h8 : ∀ k, X k → Y k) (h9 : w.heap.size ≤ b) (h10 : w.heap.size ≤ g)
set_option maxRecDepth 100000 in
theorem fetch_hit (w0 w : World) (X : Nat → Prop) (a c m : Nat) (d : D) (fr h mi ev : Int) (A B : List Fr) (f : Fr) (x : Cx w0 w X a c m d fr h mi ev (A ++ f :: B)) (h1 : 0 ≤ h) (h2 : h < 4611686018427387904) :
    Calls Try.prog 17 #[pt c, .int .i64 (f.n : Int)] w fun e u => e = .returned (.tuple #[pt f.b, .int .i64 0]) ∧ Cx w0 u X a c m d fr (h + 1) mi ev (A ++ B ++ [f]) ∧ Kp X c m (A ++ f :: B) w u := by
  have fm : f ∈ A ++ f :: B := by simp
  have c2 : w.cell? ⟨c, 2, none⟩ = some (.map (some m)) := x.cw.row.hc.cell 2
  obtain ⟨D, hm, hD⟩ := x.cw.mp
  have hlk := look_some hm (wfn (x.cw.wn f fm)) (hD.at1 f fm)
  have hR := renew_cw w c a fr h mi ev m _ A B f x.cw
  have X1 := hidden x
  clear x hm hD
  go_enter Try.func17, Try.ntmps17
  go_wp2_with (go_at_call 23; refine hR.mono ?_; rintro e u ⟨rfl, cu, ku, zu⟩; refine Hid.out ?_)
  apply hidden
  have y5 : u.cell? ⟨c, 5, none⟩ = some (.int .i64 h) := cu.row.hc.cell 5
  have f5 := cu.row.hc.free 5
  have CU := hidden cu
  have KU := hidden ku
  clear cu ku hR hlk c2
  go_wp2
  go_ret2
  have c3 : Cw (u.setCell ⟨c, 5, none⟩ (.int .i64 (h + 1))) c a fr (h + 1) mi ev m d.page (A ++ B ++ [f]) := CU.out.cnt (Hs.self CU.out.row.hc _) fun k _ hne => heap_ne hne _
  obtain ⟨y1, y2⟩ := X1.out.same ((KU.out.mono (F := Bk c m (A ++ f :: B)) fun k _ hk => bk_own hk).set (i := 5) (.inl rfl) (.int .i64 (h + 1))) c3 (fun k hk => by
    rcases hk with h | h | ⟨x, hx, h⟩
    · exact .inl h
    · exact .inr (.inl h)
    · exact .inr (.inr ⟨x, (perm_used A B f).mem_iff.1 hx, h⟩))
  exact ⟨rfl, y1, y2⟩
end Go.Proofs.Ytmelhpghpcpoiab
