/- The cache over its device, which is up: room is made. -/
import Derived.Test.YtmelhpghpcpoiabDg
namespace Go.Proofs.Ytmelhpghpcpoiab
open Go.RowKit Go.Maps

set_option maxRecDepth 100000 in
theorem evict_ok (w0 w : World) (X : Nat → Prop) (a c m : Nat) (d : D) (fr h mi ev : Int) (A B : List Fr) (f : Fr) (x : Cx w0 w X a c m d fr h mi ev (A ++ f :: B)) (hn : f.n < d.pages) (hdn : d.down = false) (har : d.armed = false)
    (h1 : 0 ≤ d.cw) (h2 : d.cw < 4611686018427387904) (hfew : d.loose.length < 4398046511103) (e1 : 0 ≤ ev) (e2 : ev < 4611686018427387904) :
    Calls Try.prog 32 #[pt c, pt f.b] w fun e u => e = .returned (.int .i64 0) ∧ Cx w0 u X a c m (cl d f) fr h mi (ev + 1) (A ++ B) ∧ Kp X c m (A ++ f :: B) w u := by
  have hC := clean_ok w0 w X a c m d fr h mi ev A B f x hn hdn har h1 h2 hfew
  clear x
  go_enter Try.func32, Try.ntmps32
  go_wp2_with (go_at_call 26; refine hC.mono ?_; rintro e w1 ⟨rfl, x1, k1⟩; refine Hid.out ?_)
  apply hidden
  clear hC
  have hR := release_cw w1 c a fr h mi ev m _ A B { f with dt := false } x1.cw
  have X1 := hidden x1
  have K1 := hidden k1
  clear x1 k1
  go_wp2_with (go_at_call 40; refine hR.mono ?_; rintro e w2 ⟨rfl, c2, k2, z2⟩; refine Hid.out ?_)
  apply hidden
  clear hR
  have y7 : w2.cell? ⟨c, 7, none⟩ = some (.int .i64 ev) := c2.row.hc.cell 7
  have f7 := c2.row.hc.free 7
  have C2 := hidden c2
  have K2 := hidden k2
  clear c2 k2
  go_wp2
  go_ret
  have c3 : Cw (w2.setCell ⟨c, 7, none⟩ (.int .i64 (ev + 1))) c a fr h mi (ev + 1) m (cl d f).page (A ++ B) := C2.out.cnt (Hs.self C2.out.row.hc _) fun k _ hne => heap_ne hne _
  obtain ⟨y1, y2⟩ := X1.out.same (K2.out.set (i := 7) (.inl rfl) (.int .i64 (ev + 1))) c3 (fun k hk => bk_less hk)
  exact ⟨rfl, y1, K1.out.trans y2 (fun _ h => h) fun k _ hk => bk_upd (f := f) (f' := { f with dt := false }) rfl rfl hk⟩
/-- How room is made. -/
def RoomIs (w0 w : World) (X : Nat → Prop) (a c m : Nat) (d : D) (fr h mi ev : Int) (fs : List Fr) (e : Ending) (u : World) : Prop :=
  ((fs.length : Int) < fr ∧ e = .returned (.int .i64 0) ∧ Cx w0 u X a c m d fr h mi ev fs ∧ Kp X c m fs w u) ∨
  (¬ (fs.length : Int) < fr ∧ lv fs = none ∧ e = .returned (.int .i64 40) ∧ Cx w0 u X a c m d fr h mi ev fs ∧ Kp X c m fs w u) ∨
  (¬ (fs.length : Int) < fr ∧ ∃ A f B, fs = A ++ f :: B ∧ lv fs = some f ∧ f.pins = 0 ∧ e = .returned (.int .i64 0) ∧ Cx w0 u X a c m (cl d f) fr h mi (ev + 1) (A ++ B) ∧ Kp X c m fs w u)
set_option maxRecDepth 100000 in
theorem makeRoom_ok (w0 w : World) (X : Nat → Prop) (a c m : Nat) (d : D) (fr h mi ev : Int) (fs : List Fr) (x : Cx w0 w X a c m d fr h mi ev fs) (hn : ∀ f ∈ fs, f.n < d.pages) (hdn : d.down = false) (har : d.armed = false)
    (h1 : 0 ≤ d.cw) (h2 : d.cw < 4611686018427387904) (hfew : d.loose.length < 4398046511103) (e1 : 0 ≤ ev) (e2 : ev < 4611686018427387904) (hp : ∀ f ∈ fs, (f.pins : Int) < 4611686018427387904) :
    Calls Try.prog 21 #[pt c] w fun e u => RoomIs w0 w X a c m d fr h mi ev fs e u := by
  by_cases hlt : (fs.length : Int) < fr
  · obtain ⟨D, hm, hD⟩ := x.cw.mp
    refine (makeRoom_room w c a fr h mi ev m _ D _ _ x.cw.row.hc hm (by rw [hD.sz]; exact hlt)).mono ?_
    rintro e u ⟨rfl, rfl⟩
    exact .inl ⟨hlt, rfl, x.drw, Kp.dr X c m fs w⟩
  · have hL := leaver_full w c a fr h mi ev m _ fs x.cw hlt hp
    unfold lvV at hL
    have HLT := hidden hlt
    clear hlt
    cases hv : lv fs with
    | none =>
      rw [hv] at hL
      have X1 := hidden x
      clear x hp hn
      go_enter Try.func21, Try.ntmps21
      go_wp2_with (go_at_call 31; refine hL.mono ?_; rintro e u ⟨rfl, rfl⟩)
      go_ret
      exact .inr (.inl ⟨Int.not_lt.2 HLT.out, hv, rfl, X1.out.drw, Kp.dr X c m fs w⟩)
    | some f =>
      rw [hv] at hL
      obtain ⟨A, B, e, hf0⟩ := lv_split hv
      subst e
      have hE := evict_ok w0 w.drew X a c m d fr h mi ev A B f x.drw (hn f (by simp)) hdn har h1 h2 hfew e1 e2
      clear x hp hn
      go_enter Try.func21, Try.ntmps21
      go_wp2_with (first
        | (go_at_call 31; refine hL.mono ?_; rintro e u ⟨rfl, rfl⟩)
        | (go_at_call 32; refine hE.mono ?_; rintro e u ⟨rfl, xu, ku⟩))
      go_ret
      exact .inr (.inr ⟨Int.not_lt.2 HLT.out, A, f, B, rfl, hv, hf0, rfl, xu, ku⟩)
end Go.Proofs.Ytmelhpghpcpoiab
