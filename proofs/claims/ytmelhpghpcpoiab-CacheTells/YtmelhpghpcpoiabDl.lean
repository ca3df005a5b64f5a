/- The cache over its device, which is up: Unpin, Put. -/
import Derived.Test.YtmelhpghpcpoiabDk
import Derived.Test.YtmelhpghpcpoiabCc
namespace Go.Proofs.Ytmelhpghpcpoiab
open Go.RowKit Go.Maps

def UnpinIs (w0 w : World) (X : Nat → Prop) (a c m : Nat) (d : D) (fr h mi ev : Int) (fs : List Fr) (n : Int) (e : Ending) (u : World) : Prop :=
  (∃ A f B, fs = A ++ f :: B ∧ (f.n : Int) = n ∧ 0 < f.pins ∧ e = .returned (.int .i64 0) ∧ Cx w0 u X a c m d fr h mi ev (A ++ { f with pins := f.pins - 1 } :: B) ∧ Kp X c m fs w u) ∨
  ((∀ f ∈ fs, (f.n : Int) = n → f.pins = 0) ∧ e = .returned (.int .i64 41) ∧ Cx w0 u X a c m d fr h mi ev fs ∧ Kp X c m fs w u)
set_option maxRecDepth 100000 in
theorem np_one {fs A B : List Fr} {f x : Fr} (np : (fs.map Fr.n).Nodup) (e : fs = A ++ f :: B) (hx : x ∈ fs) (hn : x.n = f.n) : x = f := by
  subst e
  rw [List.map_append, List.map_cons, List.nodup_append, List.nodup_cons] at np
  rcases List.mem_append.1 hx with h | h
  · exact absurd hn (np.2.2 _ (List.mem_map_of_mem h) _ (List.mem_cons_self ..))
  · rcases List.mem_cons.1 h with h | h
    · exact h
    · exact absurd (hn ▸ List.mem_map_of_mem h) np.2.1.1
set_option maxRecDepth 100000 in
theorem Unpin_ok (w0 w : World) (X : Nat → Prop) (a c m : Nat) (d : D) (fr h mi ev : Int) (fs : List Fr) (x : Cx w0 w X a c m d fr h mi ev fs) (n : Int) (hwn : (Lit.int .i64 n).wf = true) (hp : ∀ f ∈ fs, (f.pins : Int) < 4611686018427387904) :
    Calls Try.prog 11 #[pt c, .int .i64 n] w fun e u => UnpinIs w0 w X a c m d fr h mi ev fs n e u := by
  have c2 : w.cell? ⟨c, 2, none⟩ = some (.map (some m)) := x.cw.row.hc.cell 2
  obtain ⟨D, hm, hD⟩ := x.cw.mp
  by_cases hin : ∃ f ∈ fs, (f.n : Int) = n
  · obtain ⟨f, hf, rfl⟩ := hin
    have hlk := look_some hm hwn (hD.at1 f hf)
    have hpf := hp f hf
    obtain ⟨A, B, rfl⟩ := List.append_of_mem hf
    have y3 : w.cell? ⟨f.b, 3, none⟩ = some (.int .i64 (f.pins : Int)) := x.cw.row.mid.cell 3
    have f3 := x.cw.row.mid.free 3
    by_cases h0 : f.pins = 0
    · have F1 : Hid (UnpinIs w0 w X a c m d fr h mi ev (A ++ f :: B) (f.n : Int) (.returned (.int .i64 41)) w) := hidden (.inr ⟨fun y hy e => by rw [np_one x.cw.np rfl hy (by omega)]; exact h0, rfl, x, fun _ _ _ => rfl⟩)
      rw [h0] at y3
      clear x hm hD hp hf
      go_enter Try.func11, Try.ntmps11
      go_wp2
      go_ret
      exact F1.out
    · have F1 : Hid (UnpinIs w0 w X a c m d fr h mi ev (A ++ f :: B) (f.n : Int) (.returned (.int .i64 0)) (w.setCell ⟨f.b, 3, none⟩ (.int .i64 ((f.pins : Int) - 1)))) := by
        obtain ⟨x1, k1⟩ := x.pins (f.pins - 1)
        rw [show ((f.pins - 1 : Nat) : Int) = (f.pins : Int) - 1 from by omega] at x1 k1
        exact hidden (.inl ⟨A, f, B, rfl, rfl, by omega, rfl, x1, k1⟩)
      obtain ⟨P, hP⟩ : ∃ P : Int, P = (f.pins : Int) := ⟨_, rfl⟩
      have p1 : 1 ≤ P := by omega
      have p2 : P < 4611686018427387904 := by omega
      have p3 : ¬ P = 0 := by omega
      rw [← hP] at y3 F1
      clear x hm hD hp hf hP h0 hpf
      go_enter Try.func11, Try.ntmps11
      go_wp2
      go_ret
      exact F1.out
  · have hlk := look_none hm hwn (hD.at0 n fun f hf e => hin ⟨f, hf, e⟩)
    have F1 : Hid (UnpinIs w0 w X a c m d fr h mi ev fs n (.returned (.int .i64 41)) w) := hidden (.inr ⟨fun y hy e => absurd ⟨y, hy, e⟩ hin, rfl, x, fun _ _ _ => rfl⟩)
    clear x hm hD hp hin
    go_enter Try.func11, Try.ntmps11
    go_wp2
    go_ret
    exact F1.out

/-- What Put leaves. -/
inductive PutW (w0 w : World) (X : Nat → Prop) (a c m : Nat) (d : D) (fr h mi ev : Int) (fs : List Fr) (n : Int) (l : List Int) (e : Ending) (u : World) : Prop
  | bad (q1 : ¬ (0 ≤ n ∧ n < d.pages)) (q2 : e = .returned (.int .i64 30)) (q3 : Cx w0 u X a c m d fr h mi ev fs) (q4 : Kp X c m fs w u)
  | held (A B : List Fr) (f : Fr) (Y : Nat → Prop) (q1 : fs = A ++ f :: B) (q2 : (f.n : Int) = n) (q3 : e = .returned (.int .i64 0)) (q4 : Cx w0 u Y a c m d fr h mi ev (A ++ B ++ [{ f with l := l, dt := true }])) (q5 : Kp X c m fs w u) (q6 : ∀ k, X k → Y k) (q7 : ∀ k, X k → Bk c m (A ++ B ++ [{ f with l := l, dt := true }]) k → Bk c m fs k)
  | full (q1 : ∀ f ∈ fs, (f.n : Int) ≠ n) (q2 : ¬ (fs.length : Int) < fr) (q3 : lv fs = none) (q4 : e = .returned (.int .i64 40)) (q5 : Cx w0 u X a c m d fr h mi ev fs) (q6 : Kp X c m fs w u)
  | new (N : Nat) (d2 : D) (fs2 : List Fr) (ev2 : Int) (g b : Nat) (Y : Nat → Prop) (q1 : ∀ f ∈ fs, (f.n : Int) ≠ n) (q2 : n = (N : Int)) (q3 : N < d.pages) (q4 : RoomTo fr d fs ev d2 fs2 ev2) (q5 : e = .returned (.int .i64 0))
      (q6 : Cx w0 u Y a c m d2 fr h mi ev2 (fs2 ++ [⟨N, g, true, 0, b, l⟩])) (q7 : Kp X c m fs w u) (q8 : ∀ k, X k → Y k) (q9 : ∀ k, X k → Bk c m (fs2 ++ [⟨N, g, true, 0, b, l⟩]) k → Bk c m fs k)
set_option maxRecDepth 100000 in
theorem RoomIs.to {w0 w : World} {X : Nat → Prop} {a c m : Nat} {d : D} {fr h mi ev : Int} {fs : List Fr} {e : Ending} {u : World} (hR : RoomIs w0 w X a c m d fr h mi ev fs e u) :
    ∃ k, e = .returned (.int .i64 k) ∧ ((k = 40 ∧ ¬ (fs.length : Int) < fr ∧ lv fs = none ∧ Cx w0 u X a c m d fr h mi ev fs ∧ Kp X c m fs w u) ∨ (k = 0 ∧ ∃ d2 fs2 ev2, RoomTo fr d fs ev d2 fs2 ev2 ∧ Cx w0 u X a c m d2 fr h mi ev2 fs2 ∧ Kp X c m fs w u ∧ ∀ k, Bk c m fs2 k → Bk c m fs k)) := by
  rcases hR with ⟨h1, h2, h3, h4⟩ | ⟨h1, h2, h3, h4, h5⟩ | ⟨h1, A, f, B, rfl, h2, h3, h4, h5, h6⟩
  · exact ⟨0, h2, .inr ⟨rfl, d, fs, ev, .inl ⟨h1, rfl, rfl, rfl⟩, h3, h4, fun _ h => h⟩⟩
  · exact ⟨40, h3, .inl ⟨rfl, h1, h2, h4, h5⟩⟩
  · exact ⟨0, h4, .inr ⟨rfl, _, _, _, .inr ⟨h1, A, f, B, rfl, h3, h2, rfl, rfl, rfl⟩, h5, h6, fun k hk => bk_less hk⟩⟩
set_option maxRecDepth 100000 in
/-- A page's bytes are others, and it is dirty. -/
theorem Cx.wrt {w0 w : World} {X : Nat → Prop} {a c m : Nat} {d : D} {fr h mi ev : Int} {A B : List Fr} {f : Fr} {l : List Int} (x : Cx w0 w X a c m d fr h mi ev (A ++ f :: B)) (hl : l.length = d.page) (hw : Wf l) {u : World} (hu : u = w.setRow f.g (By l).toArray) :
    u.cell? ⟨f.b, 2, none⟩ = some (.bool f.dt) ∧ u.frozen? ⟨f.b, 2, none⟩ = false ∧ Cx w0 (u.setCell ⟨f.b, 2, none⟩ (.bool true)) X a c m d fr h mi ev (A ++ { f with l := l, dt := true } :: B) ∧ Kp X c m (A ++ f :: B) w (u.setCell ⟨f.b, 2, none⟩ (.bool true)) := by
  have fm : f ∈ A ++ f :: B := by simp
  obtain ⟨s1, s2, s3, s4⟩ := x.cw.sep f fm
  have b1 := (x.cw.bys f fm).1
  have hgu : Hs u f.g (By l) 5 := by rw [hu]; exact setRow_heap w _ _ _ _ _ b1
  have ku : Ch (fun k => k = f.g) w u := by rw [hu]; exact Ch.setRow (F := fun k => k = f.g) _ rfl _
  have hfu : Hs u f.b (lc d.page f (lst none A) (hd B none)) tL := x.cw.row.mid.ch ku (s4 f fm)
  have kk : Ch (Bk c m (A ++ f :: B)) w (u.setCell ⟨f.b, 2, none⟩ (.bool true)) := ((ku.mono (F := Bk c m (A ++ f :: B)) fun k _ e => .inr (.inr ⟨f, fm, .inr e⟩))).set (.inr (.inr ⟨f, fm, .inl rfl⟩)) _
  refine ⟨hfu.cell 2, hfu.free 2, x.same kk ?_ (fun j hj => bk_upd (f := f) (f' := { f with l := l, dt := true }) rfl rfl hj)⟩
  exact x.cw.upd (f' := { f with l := l, dt := true }) rfl rfl rfl (Hs.self hfu _) (Hs.other hgu (fun e => s4 f fm e.symm) _) hl hw fun k hk hne hng => (heap_ne hne _).trans (ku.block k (x.cw.lt hk) hng)
end Go.Proofs.Ytmelhpghpcpoiab
