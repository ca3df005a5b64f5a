/- The cache over its device, which is up: a page is written, and goes. -/
import Derived.Test.YtmelhpghpcpoiabDf
import Derived.Test.YtmelhpghpcpoiabCe
namespace Go.Proofs.Ytmelhpghpcpoiab
open Go.RowKit Go.Maps

/-- The cache at c over the device d at a, since the world w0. -/
structure Cx (w0 w : World) (X : Nat → Prop) (a c m : Nat) (d : D) (fr h mi ev : Int) (fs : List Fr) : Prop where
  st : St w0 w X a d
  cw : Cw w c a fr h mi ev m d.page fs
  bx : ∀ k, Bk c m fs k → X k ∧ w0.heap.size ≤ k
/-- What is of X and not the cache's stays. -/
def Kp (X : Nat → Prop) (c m : Nat) (fs : List Fr) (w u : World) : Prop := ∀ k, X k → ¬ Bk c m fs k → u.heap[k]? = w.heap[k]?
set_option maxRecDepth 100000 in
theorem Cx.inner {w0 w u : World} {X : Nat → Prop} {a c m : Nat} {d : D} {fr h mi ev h' mi' ev' : Int} {fs gs : List Fr} (x : Cx w0 w X a c m d fr h mi ev fs) (hc : Ch (Bk c m fs) w u) (cu : Cw u c a fr h' mi' ev' m d.page gs) (hg : ∀ k, Bk c m gs k → Bk c m fs k ∨ w.heap.size ≤ k) :
    Cx w0 u (Xn X w u) a c m d fr h' mi' ev' gs ∧ Kp X c m fs w u := by
  refine ⟨⟨x.st.cx hc fun k _ hk => x.bx k hk, cu, fun k hk => ?_⟩, fun k hk hb => hc.block k (x.st.xl k hk) hb⟩
  rcases hg k hk with h | h
  · exact ⟨.inl (x.bx k h).1, (x.bx k h).2⟩
  · exact ⟨.inr ⟨h, cu.lt hk⟩, Nat.le_trans x.st.be.size h⟩
set_option maxRecDepth 100000 in
/-- Where nothing new was made X stays too. -/
theorem Cx.same {w0 w u : World} {X : Nat → Prop} {a c m : Nat} {d : D} {fr h mi ev h' mi' ev' : Int} {fs gs : List Fr} (x : Cx w0 w X a c m d fr h mi ev fs) (hc : Ch (Bk c m fs) w u) (cu : Cw u c a fr h' mi' ev' m d.page gs) (hg : ∀ k, Bk c m gs k → Bk c m fs k) :
    Cx w0 u X a c m d fr h' mi' ev' gs ∧ Kp X c m fs w u := by
  obtain ⟨⟨⟨⟨F, hD, hF⟩, hx, hb⟩, _, _⟩, kp⟩ := x.inner hc cu fun k hk => .inl (hg k hk)
  exact ⟨⟨⟨⟨F, hD, fun k hk => ⟨(hF k hk).1, (hF k hk).2.1, fun hX => (hF k hk).2.2 (.inl hX)⟩⟩, fun k hk => hx k (.inl hk), hb⟩, cu, fun k hk => x.bx k (hg k hk)⟩, kp⟩
set_option maxRecDepth 100000 in
theorem Kp.trans {X Y : Nat → Prop} {c m : Nat} {fs gs : List Fr} {w u v : World} (h : Kp X c m fs w u) (k : Kp Y c m gs u v) (hX : ∀ k, X k → Y k) (hg : ∀ k, X k → Bk c m gs k → Bk c m fs k) : Kp X c m fs w v := fun i hi hb => (k i (hX i hi) fun hh => hb (hg i hi hh)).trans (h i hi hb)
set_option maxRecDepth 100000 in
theorem Kp.dr (X : Nat → Prop) (c m : Nat) (fs : List Fr) (w : World) : Kp X c m fs w w.drew := fun _ _ _ => rfl
set_option maxRecDepth 100000 in
theorem Cx.drw {w0 w : World} {X : Nat → Prop} {a c m : Nat} {d : D} {fr h mi ev : Int} {fs : List Fr} (x : Cx w0 w X a c m d fr h mi ev fs) : Cx w0 w.drew X a c m d fr h mi ev fs := ⟨x.st.drw, x.cw.drw, x.bx⟩
set_option maxRecDepth 100000 in
theorem bk_upd {c m : Nat} {A B : List Fr} {f f' : Fr} (e1 : f'.b = f.b) (e3 : f'.g = f.g) {k : Nat} (h : Bk c m (A ++ f' :: B) k) : Bk c m (A ++ f :: B) k := by
  rcases h with h | h | ⟨x, hx, h⟩
  · exact .inl h
  · exact .inr (.inl h)
  · rcases mem_upd (f := f) hx with rfl | ⟨h1, _⟩
    · rw [e1, e3] at h
      exact .inr (.inr ⟨f, by simp, h⟩)
    · exact .inr (.inr ⟨x, h1, h⟩)
set_option maxRecDepth 100000 in
theorem bk_less {c m : Nat} {A B : List Fr} {f : Fr} {k : Nat} (h : Bk c m (A ++ B) k) : Bk c m (A ++ f :: B) k := by
  rcases h with h | h | ⟨x, hx, h⟩
  · exact .inl h
  · exact .inr (.inl h)
  · exact .inr (.inr ⟨x, by rcases List.mem_append.1 hx with h | h <;> simp [h], h⟩)

/-- The device behind a page that may have been dirty. -/
def cl (d : D) (f : Fr) : D := if f.dt = true then d.wrote f.n f.l else d
set_option maxRecDepth 100000 in
theorem cl_page (d : D) (f : Fr) : (cl d f).page = d.page := by unfold cl; split <;> rfl
set_option maxRecDepth 100000 in
theorem cl_pages (d : D) (f : Fr) : (cl d f).pages = d.pages := by unfold cl; split <;> rfl
set_option maxRecDepth 100000 in
theorem Hid.mk' {p : Prop} (h : p) : Hid p := hidden h

set_option maxRecDepth 100000 in
set_option maxHeartbeats 4000000 in
theorem clean_ok (w0 w : World) (X : Nat → Prop) (a c m : Nat) (d : D) (fr h mi ev : Int) (A B : List Fr) (f : Fr) (x : Cx w0 w X a c m d fr h mi ev (A ++ f :: B)) (hn : f.n < d.pages) (hdn : d.down = false) (har : d.armed = false)
    (h1 : 0 ≤ d.cw) (h2 : d.cw < 4611686018427387904) (hfew : d.loose.length < 4398046511103) :
    Calls Try.prog 26 #[pt c, pt f.b] w fun e u => e = .returned (.int .i64 0) ∧ Cx w0 u X a c m (cl d f) fr h mi ev (A ++ { f with dt := false } :: B) ∧ Kp X c m (A ++ f :: B) w u := by
  have fm : f ∈ A ++ f :: B := by simp
  have hmid := x.cw.row.mid
  have l2 : w.cell? ⟨f.b, 2, none⟩ = some (.bool f.dt) := hmid.cell 2
  cases hdt : f.dt with
  | false =>
    rw [hdt] at l2
    have ef : ({ f with dt := false } : Fr) = f := by cases f; simp at hdt; subst hdt; rfl
    have X1 := hidden x
    have ec : cl d f = d := by unfold cl; rw [hdt]; rfl
    clear x hmid
    go_enter Try.func26, Try.ntmps26
    go_wp2
    go_ret
    rw [ef, ec]
    exact ⟨rfl, X1.out, fun _ _ _ => rfl⟩
  | true =>
    rw [hdt] at l2
    have c0 : w.cell? ⟨c, 0, none⟩ = some (pt a) := x.cw.row.hc.cell 0
    have l0 : w.cell? ⟨f.b, 0, none⟩ = some (.int .i64 (f.n : Int)) := hmid.cell 0
    have l1 : w.cell? ⟨f.b, 1, none⟩ = some (.slice (some ⟨f.g, 0, none⟩) d.page d.page) := hmid.cell 1
    have he : refu d f.n = 0 := by
      unfold refu
      rw [hdn]
      simp
      omega
    have ec : cl d f = d.wrote f.n f.l := by unfold cl; rw [hdt]; rfl
    obtain ⟨b1, b2, b3⟩ := x.cw.bys f fm
    obtain ⟨s1, s2, s3, s4⟩ := x.cw.sep f fm
    have hW : Calls Try.prog 38 #[.pointer (some ⟨a, 0, none⟩), .int .i64 (f.n : Int), .slice (some ⟨f.g, 0, none⟩) d.page d.page] w.drew fun e u => e = .returned (.int .i64 0) ∧ Hid (Cx w0 u X a c m (d.wrote f.n f.l) fr h mi ev (A ++ f :: B)) ∧ Hid (∀ k, X k → u.heap[k]? = w.heap[k]?) ∧ u.cell? ⟨f.b, 2, none⟩ = some (.bool true) ∧ u.frozen? ⟨f.b, 2, none⟩ = false := by
      refine (St_Write w0 w.drew X a d x.st.drw f.n f.g d.page f.l he hn b2 b3 b1 (x.bx _ (.inr (.inr ⟨f, fm, .inr rfl⟩))).1 h1 h2 hfew har).mono ?_
      rintro e u ⟨rfl, s1, k1⟩
      have c1 : Cw u c a fr h mi ev m d.page (A ++ f :: B) := x.cw.stay fun k hk => k1 k (x.bx k hk).1
      have hm := c1.row.mid.cell 2
      rw [show (lc d.page f (lst none A) (hd B none))[2]? = some (.bool f.dt) from rfl, hdt] at hm
      exact ⟨rfl, hidden ⟨s1, c1, x.bx⟩, hidden k1, hm, c1.row.mid.free 2⟩
    have F2 : Hid (∀ u, Cx w0 u X a c m (d.wrote f.n f.l) fr h mi ev (A ++ f :: B) → (∀ k, X k → u.heap[k]? = w.heap[k]?) → Cx w0 (u.setCell ⟨f.b, 2, none⟩ (.bool false)) X a c m (cl d f) fr h mi ev (A ++ { f with dt := false } :: B) ∧ Kp X c m (A ++ f :: B) w (u.setCell ⟨f.b, 2, none⟩ (.bool false))) := by
      refine hidden fun u xu ku => ?_
      have hk : Ch (Bk c m (A ++ f :: B)) u (u.setCell ⟨f.b, 2, none⟩ (.bool false)) := Ch.setCell u (p := ⟨f.b, 2, none⟩) (.inr (.inr ⟨f, fm, .inl rfl⟩)) _
      obtain ⟨y1, y2⟩ := xu.same hk (gs := A ++ { f with dt := false } :: B) (xu.cw.upd (f' := { f with dt := false }) rfl rfl rfl (Hs.self xu.cw.row.mid _) (Hs.other (xu.cw.bys f fm).1 (fun e => s4 f fm e.symm) _) (xu.cw.bys f fm).2.1 (xu.cw.bys f fm).2.2 fun k _ hne _ => heap_ne hne _) (fun k hk => bk_upd (f := f) (f' := { f with dt := false }) rfl rfl hk)
      rw [ec]
      exact ⟨y1, fun k hk hb => (y2 k hk hb).trans (ku k hk)⟩
    clear x hmid b1 b2 b3 s1 s2 s3 s4
    go_enter Try.func26, Try.ntmps26
    go_wp2_with fail
    go_region_with (go_at_call 38; refine hW.mono ?_; rintro e u ⟨rfl, HS, HK, y2, f2⟩)
    all_goals
      go_wp2
      go_ret
      exact ⟨rfl, F2.out u HS.out HK.out⟩
end Go.Proofs.Ytmelhpghpcpoiab
