/- The cache over its device, which is up: Get, Pin, Unpin. -/
import Derived.Test.YtmelhpghpcpoiabDj
import Derived.Test.YtmelhpghpcpoiabCd
namespace Go.Proofs.Ytmelhpghpcpoiab
open Go.RowKit Go.Maps

/-- A page that is looked for is there, in plain words: d' .. ev' behind it, the page the last of fs'. -/
inductive FetchTo (fr : Int) (d : D) (fs : List Fr) (h mi ev : Int) (n : Int) (d' : D) (fs' : List Fr) (h' mi' ev' : Int) : Prop
  | hit (A B : List Fr) (f : Fr) (q1 : fs = A ++ f :: B) (q2 : (f.n : Int) = n) (e1 : d' = d) (e2 : fs' = A ++ B ++ [f]) (e3 : h' = h + 1) (e4 : mi' = mi) (e5 : ev' = ev)
  | miss (N : Nat) (fs1 : List Fr) (g b : Nat) (q1 : ∀ f ∈ fs, (f.n : Int) ≠ n) (q2 : n = (N : Int)) (q3 : N < d.pages) (q4 : RoomTo fr { d with cr := d.cr + 1 } fs ev d' fs1 ev') (e2 : fs' = fs1 ++ [⟨N, g, false, 0, b, rd d N⟩]) (e3 : h' = h) (e4 : mi' = mi + 1)
/-- It is refused. -/
def ErrTo (fr : Int) (d : D) (fs : List Fr) (n : Int) (k : Int) : Prop := (∀ f ∈ fs, (f.n : Int) ≠ n) ∧ ((¬ (fs.length : Int) < fr ∧ lv fs = none ∧ k = 40) ∨ (¬ (0 ≤ n ∧ n < d.pages) ∧ k = 30))
/-- Blocks that are new or were the cache's. -/
def Nw (w : World) (c m : Nat) (fs gs : List Fr) : Prop := ∀ k, Bk c m gs k → Bk c m fs k ∨ w.heap.size ≤ k
set_option maxRecDepth 100000 in
theorem FetchIs.to {w0 w : World} {X : Nat → Prop} {a c m : Nat} {d : D} {fr h mi ev : Int} {fs : List Fr} {n : Int} {e : Ending} {u : World} (hF : FetchIs w0 w X a c m d fr h mi ev fs n e u) :
    ∃ gv k, e = .returned (.tuple #[gv, .int .i64 k]) ∧
    ((∃ pre f d' h' mi' ev' Y, gv = pt f.b ∧ k = 0 ∧ (f.n : Int) = n ∧ FetchTo fr d fs h mi ev n d' (pre ++ [f]) h' mi' ev' ∧ Cx w0 u Y a c m d' fr h' mi' ev' (pre ++ [f]) ∧ Kp X c m fs w u ∧ (∀ k, X k → Y k) ∧ Nw w c m fs (pre ++ [f])) ∨
    (gv = .pointer none ∧ (k = 40 ∨ k = 30) ∧ ErrTo fr d fs n k ∧ Cx w0 u X a c m d fr h mi ev fs ∧ Kp X c m fs w u)) := by
  cases hF with
  | hit A B f h1 h2 h3 h4 h5 =>
    refine ⟨_, _, h3, .inl ⟨A ++ B, f, d, h + 1, mi, ev, X, rfl, rfl, h2, .hit A B f h1 h2 rfl rfl rfl rfl rfl, h4, h5, fun _ h => h, fun k hk => .inl ?_⟩⟩
    rw [h1]
    rcases hk with h | h | ⟨x, hx, h⟩
    · exact .inl h
    · exact .inr (.inl h)
    · exact .inr (.inr ⟨x, (perm_used A B f).mem_iff.1 hx, h⟩)
  | full h1 h2 h3 h4 h5 h6 => exact ⟨_, 40, h4, .inr ⟨rfl, .inl rfl, ⟨h1, .inl ⟨h2, h3, rfl⟩⟩, h5, h6⟩⟩
  | bad h1 h2 h4 h5 h6 => exact ⟨_, 30, h4, .inr ⟨rfl, .inr rfl, ⟨h1, .inr ⟨h2, rfl⟩⟩, h5, h6⟩⟩
  | miss N d2 fs2 ev2 g b Y h1 h2 h3 h4 h5 h6 h7 h8 h9 h10 =>
    refine ⟨_, _, h5, .inl ⟨fs2, ⟨N, g, false, 0, b, rd d N⟩, d2, h, mi + 1, ev2, Y, rfl, rfl, h2.symm, .miss N fs2 g b h1 h2 h3 h4 rfl rfl rfl, h6, h7, h8, fun k hk => ?_⟩⟩
    rcases hk with h | h | ⟨x, hx, h⟩
    · exact .inl (.inl h)
    · exact .inl (.inr (.inl h))
    · rcases List.mem_append.1 hx with hx | hx
      · exact .inl (.inr (.inr ⟨x, h4.sub x hx, h⟩))
      · obtain rfl : x = ⟨N, g, false, 0, b, rd d N⟩ := by simpa using hx
        rcases h with rfl | rfl
        · exact .inr h9
        · exact .inr h10
/-- All that is asked of a cache and its device ahead of a Get or a Pin. -/
structure Fine (d : D) (fs : List Fr) (h mi ev : Int) : Prop where
  up : Up d fs ev
  fl : fs.length < 65536
  r1 : 0 ≤ d.cr
  r2 : d.cr < 4611686018427387904
  m1 : 0 ≤ mi
  m2 : mi < 4611686018427387904
  h1 : 0 ≤ h
  h2 : h < 4611686018427387904
/-- What Get leaves. -/
def GetIs (w0 w : World) (X : Nat → Prop) (a c m : Nat) (d : D) (fr h mi ev : Int) (fs : List Fr) (n : Int) (e : Ending) (u : World) : Prop :=
  (∃ pre f d' h' mi' ev' Y g cp, e = .returned (.tuple #[.slice (some ⟨g, 0, none⟩) d.page cp, .int .i64 0]) ∧ Sl u (some ⟨g, 0, none⟩) d.page cp f.l ∧ (f.n : Int) = n ∧ FetchTo fr d fs h mi ev n d' (pre ++ [f]) h' mi' ev' ∧ Cx w0 u Y a c m d' fr h' mi' ev' (pre ++ [f]) ∧ Kp X c m fs w u ∧ (∀ k, X k → Y k) ∧ Nw w c m fs (pre ++ [f])) ∨
  (∃ k, e = .returned (.tuple #[.slice none 0 0, .int .i64 k]) ∧ (k = 40 ∨ k = 30) ∧ ErrTo fr d fs n k ∧ Cx w0 u X a c m d fr h mi ev fs ∧ Kp X c m fs w u)
set_option maxRecDepth 100000 in
theorem FetchTo.page {fr : Int} {d d2 : D} {fs fs2 : List Fr} {h mi ev n h2 mi2 ev2 : Int} (t : FetchTo fr d fs h mi ev n d2 fs2 h2 mi2 ev2) : d2.page = d.page ∧ d2.pages = d.pages := by
  cases t with
  | hit A B f q1 q2 e1 => subst e1; exact ⟨rfl, rfl⟩
  | miss N fs1 g b q1 q2 q3 q4 => exact q4.page
set_option maxRecDepth 100000 in
theorem Get_ok (w0 w : World) (X : Nat → Prop) (a c m : Nat) (d : D) (fr h mi ev : Int) (fs : List Fr) (x : Cx w0 w X a c m d fr h mi ev fs) (n : Int) (hwn : (Lit.int .i64 n).wf = true) (fi : Fine d fs h mi ev) :
    Calls Try.prog 7 #[pt c, .int .i64 n] w fun e u => GetIs w0 w X a c m d fr h mi ev fs n e u := by
  have hF := fetch_ok w0 w X a c m d fr h mi ev fs x n hwn fi.up fi.fl fi.r1 fi.r2 fi.m1 fi.m2 fi.h1 fi.h2
  have hpg : 512 ≤ d.page ∧ d.page ≤ 65536 := by obtain ⟨F, _, _, _, _, _, hr⟩ := x.st.dv; exact ⟨hr.p1, hr.p2⟩
  clear x fi
  go_enter Try.func7, Try.ntmps7
  go_wp2_with (go_at_call 17; refine hF.mono ?_; intro e u hFu; have hq := hFu.to; clear hFu; obtain ⟨gv, k, rfl, hq⟩ := hq; refine Hid.out ?_)
  apply hidden
  clear hF
  rcases hq with ⟨pre, f, d2, h2, mi2, ev2, Y, rfl, rfl, hn, ft, xu, ku, hY, hNw⟩ | ⟨rfl, hk, er, xu, ku⟩
  · have ep : d2.page = d.page := ft.page.1
    have fm : f ∈ pre ++ [f] := by simp
    have l1 : u.cell? ⟨f.b, 1, none⟩ = some (.slice (some ⟨f.g, 0, none⟩) d.page d.page) := by
      have := (Rw.mid (A := pre) (B := []) xu.cw.row).cell 1
      rw [← ep]
      exact this
    obtain ⟨b1, b2, b3⟩ := xu.cw.bys f fm
    have hC := bClone u f.g d.page f.l b1 (by rw [b2, ep]) (by omega) (by omega) b3
    have F1 : Hid (∀ g cp v, Sl v (some ⟨g, 0, none⟩) d.page cp f.l → Below u.heap.size u v → GetIs w0 w X a c m d fr h mi ev fs n (.returned (.tuple #[.slice (some ⟨g, 0, none⟩) d.page cp, .int .i64 0])) v) := by
      refine hidden fun g cp v hsl hb => .inl ⟨pre, f, d2, h2, mi2, ev2, Xn Y u v, g, cp, rfl, hsl, hn, ft, ?_, fun k hk hnb => (hb.block k (xu.st.xl k (hY k hk))).trans (ku k hk hnb), fun k hk => .inl (hY k hk), hNw⟩
      exact ⟨xu.st.page hb, xu.cw.stay fun k hk => hb.block k (xu.cw.lt hk), fun k hk => ⟨.inl (xu.bx k hk).1, (xu.bx k hk).2⟩⟩
    clear xu ku hY ft b1 b2 b3 fm
    go_wp2_with (go_at_call 18; refine hC.mono ?_; rintro e v ⟨g', c', rfl, hg', hsl, hb⟩)
    go_ret2
    exact F1.out _ _ _ hsl hb
  · have hk0 : ¬ k = 0 := by omega
    have F1 : Hid (GetIs w0 w X a c m d fr h mi ev fs n (.returned (.tuple #[.slice none 0 0, .int .i64 k])) u) := hidden (.inr ⟨k, rfl, hk, er, xu, ku⟩)
    clear xu ku er hk
    go_wp2
    go_ret2
    exact F1.out
/-- What Pin leaves. -/
def PinIs (w0 w : World) (X : Nat → Prop) (a c m : Nat) (d : D) (fr h mi ev : Int) (fs : List Fr) (n : Int) (e : Ending) (u : World) : Prop :=
  (∃ pre f d' h' mi' ev' Y, e = .returned (.int .i64 0) ∧ (f.n : Int) = n ∧ FetchTo fr d fs h mi ev n d' (pre ++ [f]) h' mi' ev' ∧ Cx w0 u Y a c m d' fr h' mi' ev' (pre ++ [{ f with pins := f.pins + 1 }]) ∧ Kp X c m fs w u ∧ (∀ k, X k → Y k) ∧ Nw w c m fs (pre ++ [f])) ∨
  (∃ k, e = .returned (.int .i64 k) ∧ (k = 40 ∨ k = 30) ∧ ErrTo fr d fs n k ∧ Cx w0 u X a c m d fr h mi ev fs ∧ Kp X c m fs w u)
set_option maxRecDepth 100000 in
/-- One link's pins change. -/
theorem Cx.pins {w0 w : World} {X : Nat → Prop} {a c m : Nat} {d : D} {fr h mi ev : Int} {A B : List Fr} {f : Fr} (x : Cx w0 w X a c m d fr h mi ev (A ++ f :: B)) (k : Nat) :
    Cx w0 (w.setCell ⟨f.b, 3, none⟩ (.int .i64 (k : Int))) X a c m d fr h mi ev (A ++ { f with pins := k } :: B) ∧ Kp X c m (A ++ f :: B) w (w.setCell ⟨f.b, 3, none⟩ (.int .i64 (k : Int))) := by
  have fm : f ∈ A ++ f :: B := by simp
  obtain ⟨s1, s2, s3, s4⟩ := x.cw.sep f fm
  exact x.same (Ch.setCell (F := Bk c m (A ++ f :: B)) w (p := ⟨f.b, 3, none⟩) (.inr (.inr ⟨f, fm, .inl rfl⟩)) _)
    (x.cw.upd (f' := { f with pins := k }) rfl rfl rfl (Hs.self x.cw.row.mid _) (Hs.other (x.cw.bys f fm).1 (fun e => s4 f fm e.symm) _) (x.cw.bys f fm).2.1 (x.cw.bys f fm).2.2 fun k _ hne _ => heap_ne hne _)
    (fun j hj => bk_upd (f := f) (f' := { f with pins := k }) rfl rfl hj)
set_option maxRecDepth 100000 in
theorem FetchTo.mem {fr : Int} {d d2 : D} {fs pre : List Fr} {f : Fr} {h mi ev n h2 mi2 ev2 : Int} (t : FetchTo fr d fs h mi ev n d2 (pre ++ [f]) h2 mi2 ev2) : f.pins = 0 ∨ f ∈ fs := by
  cases t with
  | hit A B f' h1 h2 e1 e2 =>
    have := List.append_inj_right' e2 rfl
    obtain rfl : f = f' := by simpa using this
    exact .inr (by rw [h1]; simp)
  | miss N fs1 g b h1 h2 h3 h4 e2 =>
    have := List.append_inj_right' e2 rfl
    obtain rfl : f = ⟨N, g, false, 0, b, rd d N⟩ := by simpa using this
    exact .inl rfl
set_option maxRecDepth 100000 in
theorem Pin_ok (w0 w : World) (X : Nat → Prop) (a c m : Nat) (d : D) (fr h mi ev : Int) (fs : List Fr) (x : Cx w0 w X a c m d fr h mi ev fs) (n : Int) (hwn : (Lit.int .i64 n).wf = true) (fi : Fine d fs h mi ev) :
    Calls Try.prog 10 #[pt c, .int .i64 n] w fun e u => PinIs w0 w X a c m d fr h mi ev fs n e u := by
  have hF := fetch_ok w0 w X a c m d fr h mi ev fs x n hwn fi.up fi.fl fi.r1 fi.r2 fi.m1 fi.m2 fi.h1 fi.h2
  have HP := hidden fi.up.hp
  have HL := hidden x.st.xl
  clear x fi
  go_enter Try.func10, Try.ntmps10
  go_wp2_with (go_at_call 17; refine hF.mono ?_; intro e u hFu; have hq := hFu.to; clear hFu; obtain ⟨gv, k, rfl, hq⟩ := hq; refine Hid.out ?_)
  apply hidden
  clear hF
  rcases hq with ⟨pre, f, d2, h2, mi2, ev2, Y, rfl, rfl, hn, ft, xu, ku, hY, hNw⟩ | ⟨rfl, hk, er, xu, ku⟩
  · have hpin : (f.pins : Int) < 4611686018427387904 := by
      rcases ft.mem with h0 | hm
      · omega
      · exact HP.out f hm
    have y3 : u.cell? ⟨f.b, 3, none⟩ = some (.int .i64 (f.pins : Int)) := (Rw.mid (A := pre) (B := []) xu.cw.row).cell 3
    have f3 := (Rw.mid (A := pre) (B := []) xu.cw.row).free 3
    have F1 : Hid (PinIs w0 w X a c m d fr h mi ev fs n (.returned (.int .i64 0)) (u.setCell ⟨f.b, 3, none⟩ (.int .i64 ((f.pins : Int) + 1)))) := by
      obtain ⟨x1, k1⟩ := Cx.pins (A := pre) (B := []) xu (f.pins + 1)
      rw [show ((f.pins + 1 : Nat) : Int) = (f.pins : Int) + 1 from by omega] at x1 k1
      refine hidden (.inl ⟨pre, f, d2, h2, mi2, ev2, Y, rfl, hn, ft, x1, fun k hk hnb => ?_, hY, hNw⟩)
      by_cases hkb : k = f.b
      · exfalso
        rcases hNw k (.inr (.inr ⟨f, by simp, .inl hkb⟩)) with h1 | h1
        · exact hnb h1
        · have := HL.out k hk
          omega
      · exact (heap_ne hkb _).trans (ku k hk hnb)
    clear xu ku hY ft
    go_wp2
    go_ret
    exact F1.out
  · have hk0 : ¬ k = 0 := by omega
    have F1 : Hid (PinIs w0 w X a c m d fr h mi ev fs n (.returned (.int .i64 k)) u) := hidden (.inr ⟨k, rfl, hk, er, xu, ku⟩)
    clear xu ku er hk
    go_wp2
    go_ret
    exact F1.out
end Go.Proofs.Ytmelhpghpcpoiab
