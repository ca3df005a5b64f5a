/- The cache over its device, which is up: fetch whole. -/
import Derived.Test.YtmelhpghpcpoiabDi
namespace Go.Proofs.Ytmelhpghpcpoiab
open Go.RowKit Go.Maps

/-- What a device must be that takes writes. -/
structure Up (d : D) (fs : List Fr) (ev : Int) : Prop where
  dn : d.down = false
  ar : d.armed = false
  w1 : 0 ≤ d.cw
  w2 : d.cw < 4611686018427387904
  few : d.loose.length < 4398046511103
  e1 : 0 ≤ ev
  e2 : ev < 4611686018427387904
  hn : ∀ f ∈ fs, f.n < d.pages
  hp : ∀ f ∈ fs, (f.pins : Int) < 4611686018427387904
set_option maxRecDepth 100000 in
theorem Up.cr {d : D} {fs : List Fr} {ev : Int} (h : Up d fs ev) (k : Int) : Up { d with cr := k } fs ev := ⟨h.dn, h.ar, h.w1, h.w2, h.few, h.e1, h.e2, h.hn, h.hp⟩
/-- The page that goes is gone. -/
def Gone (w0 w : World) (X : Nat → Prop) (a c m : Nat) (d : D) (fr h mi ev : Int) (fs : List Fr) (e : Ending) (u : World) : Prop :=
  e = .returned (.int .i64 0) ∧ ∃ d2 fs2 ev2, RoomTo fr d fs ev d2 fs2 ev2 ∧ Cx w0 u X a c m d2 fr h mi ev2 fs2 ∧ Kp X c m fs w u ∧ ∀ k, Bk c m fs2 k → Bk c m fs k
set_option maxRecDepth 100000 in
theorem goes (w0 w : World) (X : Nat → Prop) (a c m : Nat) (d : D) (fr h mi ev : Int) (fs : List Fr) (x : Cx w0 w X a c m d fr h mi ev fs) (up : Up d fs ev) (hf : (fs.length : Int) < fr ∨ lv fs ≠ none) :
    ∃ gv, Calls Try.prog 31 #[pt c] w (fun e u => e = .returned (.tuple #[gv, .int .i64 0]) ∧ u = w.drew) ∧ ∀ w2 Y d2, Cx w0 w2 Y a c m d2 fr h mi ev fs → Up d2 fs ev → Calls Try.prog 32 #[pt c, gv] w2 fun e u => Gone w0 w2 Y a c m d2 fr h mi ev fs e u := by
  by_cases hlt : (fs.length : Int) < fr
  · refine ⟨.pointer none, ?_, fun w2 Y d2 x2 up2 => ?_⟩
    · obtain ⟨D, hm, hD⟩ := x.cw.mp
      exact leaver_room w c a fr h mi ev m _ D _ _ x.cw.row.hc hm (by rw [hD.sz]; exact hlt)
    · refine (evict_nil w2 c).mono ?_
      rintro e u ⟨rfl, rfl⟩
      exact ⟨rfl, d2, fs, ev, .inl ⟨hlt, rfl, rfl, rfl⟩, x2, fun _ _ _ => rfl, fun _ h => h⟩
  · obtain ⟨f, hv⟩ : ∃ f, lv fs = some f := by
      rcases hf with h | h
      · exact absurd h hlt
      · exact Option.ne_none_iff_exists'.1 h
    have hL := leaver_full w c a fr h mi ev m _ fs x.cw hlt up.hp
    unfold lvV at hL
    rw [hv] at hL
    obtain ⟨A, B, e, hf0⟩ := lv_split hv
    refine ⟨pt f.b, hL, fun w2 Y d2 x2 up2 => ?_⟩
    subst e
    refine (evict_ok w0 w2 Y a c m d2 fr h mi ev A B f x2 (up2.hn f (by simp)) up2.dn up2.ar up2.w1 up2.w2 up2.few up2.e1 up2.e2).mono ?_
    rintro e u ⟨rfl, xu, ku⟩
    exact ⟨rfl, _, _, _, .inr ⟨hlt, A, f, B, rfl, hf0, hv, rfl, rfl, rfl⟩, xu, ku, fun k hk => bk_less hk⟩
set_option maxRecDepth 100000 in
theorem RoomTo.sub {fr : Int} {d d2 : D} {fs fs2 : List Fr} {ev ev2 : Int} (h : RoomTo fr d fs ev d2 fs2 ev2) : ∀ f ∈ fs2, f ∈ fs := by
  rcases h with ⟨_, _, rfl, _⟩ | ⟨_, A, f, B, rfl, _, _, _, rfl, _⟩
  · exact fun _ h => h
  · exact fun x hx => by rcases List.mem_append.1 hx with h | h <;> simp [h]
set_option maxRecDepth 100000 in
theorem RoomTo.len {fr : Int} {d d2 : D} {fs fs2 : List Fr} {ev ev2 : Int} (h : RoomTo fr d fs ev d2 fs2 ev2) : fs2.length ≤ fs.length := by
  rcases h with ⟨_, _, rfl, _⟩ | ⟨_, A, f, B, rfl, _, _, _, rfl, _⟩
  · exact Nat.le_refl _
  · simp
set_option maxRecDepth 100000 in
theorem RoomTo.page {fr : Int} {d d2 : D} {fs fs2 : List Fr} {ev ev2 : Int} (h : RoomTo fr d fs ev d2 fs2 ev2) : d2.page = d.page ∧ d2.pages = d.pages := by
  rcases h with ⟨_, rfl, _, _⟩ | ⟨_, A, f, B, _, _, _, rfl, _, _⟩
  · exact ⟨rfl, rfl⟩
  · exact ⟨cl_page .., cl_pages ..⟩
set_option maxRecDepth 100000 in
theorem fetch_full (w0 w : World) (X : Nat → Prop) (a c m : Nat) (d : D) (fr h mi ev : Int) (fs : List Fr) (x : Cx w0 w X a c m d fr h mi ev fs) (n : Int) (hwn : (Lit.int .i64 n).wf = true) (hno : ∀ f ∈ fs, (f.n : Int) ≠ n) (hlt : ¬ (fs.length : Int) < fr) (hv : lv fs = none) (hp : ∀ f ∈ fs, (f.pins : Int) < 4611686018427387904) :
    Calls Try.prog 17 #[pt c, .int .i64 n] w fun e u => FetchIs w0 w X a c m d fr h mi ev fs n e u := by
  have c2 : w.cell? ⟨c, 2, none⟩ = some (.map (some m)) := x.cw.row.hc.cell 2
  obtain ⟨D, hm, hD⟩ := x.cw.mp
  have hlk := look_none hm hwn (hD.at0 n hno)
  have hL := leaver_full w c a fr h mi ev m _ fs x.cw hlt hp
  unfold lvV at hL
  rw [hv] at hL
  have F1 : Hid (FetchIs w0 w X a c m d fr h mi ev fs n (.returned (.tuple #[.pointer none, .int .i64 40])) w.drew) := hidden (.full hno hlt hv rfl x.drw (Kp.dr X c m fs w))
  clear x hm hD hno hlt hp
  go_enter Try.func17, Try.ntmps17
  go_wp2_with (go_at_call 31; refine hL.mono ?_; rintro e u ⟨rfl, rfl⟩)
  go_ret2
  exact F1.out
set_option maxRecDepth 100000 in
theorem fetch_bad (w0 w : World) (X : Nat → Prop) (a c m : Nat) (d : D) (fr h mi ev : Int) (fs : List Fr) (x : Cx w0 w X a c m d fr h mi ev fs) (n : Int) (hwn : (Lit.int .i64 n).wf = true) (hno : ∀ f ∈ fs, (f.n : Int) ≠ n) (hf : (fs.length : Int) < fr ∨ lv fs ≠ none) (up : Up d fs ev) (hbad : ¬ (0 ≤ n ∧ n < d.pages)) :
    Calls Try.prog 17 #[pt c, .int .i64 n] w fun e u => FetchIs w0 w X a c m d fr h mi ev fs n e u := by
  have c0 : w.cell? ⟨c, 0, none⟩ = some (pt a) := x.cw.row.hc.cell 0
  have c2 : w.cell? ⟨c, 2, none⟩ = some (.map (some m)) := x.cw.row.hc.cell 2
  obtain ⟨D, hm, hD⟩ := x.cw.mp
  have hlk := look_none hm hwn (hD.at0 n hno)
  obtain ⟨gv, hL, _⟩ := goes w0 w X a c m d fr h mi ev fs x up hf
  have hR : Calls Try.prog 15 #[.pointer (some ⟨a, 0, none⟩), .int .i64 n] w.drew fun e' w' => e' = .returned (.tuple #[.slice none 0 0, .int .i64 30]) ∧ w' = w.drew := by
    obtain ⟨F, hDv⟩ := x.st.drw.dv
    refine Read_no w.drew F a d n hDv 30 ?_ (by omega)
    unfold refu
    rw [up.dn]
    have : n < 0 ∨ (d.pages : Int) ≤ n := by omega
    simp [this]
  have F1 : Hid (FetchIs w0 w X a c m d fr h mi ev fs n (.returned (.tuple #[.pointer none, .int .i64 30])) w.drew) := hidden (.bad hno hbad rfl x.drw (Kp.dr X c m fs w))
  clear x hm hD hno hbad up hf
  go_enter Try.func17, Try.ntmps17
  go_wp2_with (first
    | (go_at_call 31; refine hL.mono ?_; rintro e u ⟨rfl, rfl⟩)
    | (go_at_call 15; refine hR.mono ?_; rintro e u ⟨rfl, rfl⟩))
  go_ret2
  exact F1.out
set_option maxRecDepth 100000 in
set_option maxHeartbeats 1000000 in
theorem fetch_miss (w0 w : World) (X : Nat → Prop) (a c m : Nat) (d : D) (fr h mi ev : Int) (fs : List Fr) (x : Cx w0 w X a c m d fr h mi ev fs) (N : Nat) (hno : ∀ f ∈ fs, (f.n : Int) ≠ (N : Int)) (hf : (fs.length : Int) < fr ∨ lv fs ≠ none) (up : Up d fs ev) (hN : N < d.pages) (hfl : fs.length < 65536)
    (r1 : 0 ≤ d.cr) (r2 : d.cr < 4611686018427387904) (m1 : 0 ≤ mi) (m2 : mi < 4611686018427387904) :
    Calls Try.prog 17 #[pt c, .int .i64 (N : Int)] w fun e u => FetchIs w0 w X a c m d fr h mi ev fs (N : Int) e u := by
  have hps : d.pages ≤ 65536 := by obtain ⟨F, _, _, _, _, _, hr⟩ := x.st.dv; exact hr.q2
  have c0 : w.cell? ⟨c, 0, none⟩ = some (pt a) := x.cw.row.hc.cell 0
  have c2 : w.cell? ⟨c, 2, none⟩ = some (.map (some m)) := x.cw.row.hc.cell 2
  obtain ⟨D, hm, hD⟩ := x.cw.mp
  have hlk := look_none hm (wfn (by omega : N ≤ 65536)) (hD.at0 _ hno)
  obtain ⟨gv, hL, hE⟩ := goes w0 w X a c m d fr h mi ev fs x up hf
  have hR := Cx_Read w0 w.drew X a c m d fr h mi ev fs x.drw N hN up.dn r1 r2
  have hrd : (rd d N).length = d.page ∧ Wf (rd d N) := by
    obtain ⟨F, hDv⟩ := x.st.dv
    exact hDv.rdl hN
  have HX := hidden x
  have HE := hidden hE
  have HU := hidden up
  have HNO := hidden hno
  have HRD := hidden hrd
  clear x hm hD hno hE up hrd hf
  go_enter Try.func17, Try.ntmps17
  go_wp2_with (first
    | (go_at_call 31; refine hL.mono ?_; rintro e u ⟨rfl, rfl⟩)
    | (go_at_call 15; refine hR.mono ?_; rintro e u ⟨g, rfl, hg, hh, x2, k2⟩; refine Hid.out ?_))
  apply hidden
  have hEv := HE.out u _ _ x2 (HU.out.cr _)
  have HG := hidden hh
  have HK2 := hidden k2
  have HGL := hidden hg
  have HXS := hidden hh.lt
  clear hR hL hlk c0 c2 hh k2 hg HE x2
  go_wp2_with (go_at_call 32; refine hEv.mono ?_; rintro e w3 ⟨rfl, d2, fs2, ev2, hrm, x3, k3, b3⟩; refine Hid.out ?_)
  apply hidden
  clear hEv
  have y6 : w3.cell? ⟨c, 6, none⟩ = some (.int .i64 mi) := x3.cw.row.hc.cell 6
  have f6 := x3.cw.row.hc.free 6
  obtain ⟨ep, eps⟩ := hrm.page
  have ep' : d2.page = d.page := ep
  have c4 : Cw (w3.setCell ⟨c, 6, none⟩ (.int .i64 (mi + 1))) c a fr h (mi + 1) ev2 m d2.page fs2 := x3.cw.cnt (Hs.self x3.cw.row.hc _) fun k _ hne => heap_ne hne _
  obtain ⟨x4, k4⟩ := x3.same (Ch.setCell (F := Bk c m fs2) w3 (p := ⟨c, 6, none⟩) (.inl rfl) (.int .i64 (mi + 1))) c4 (fun _ h => h)
  have hgB : ¬ Bk c m fs g := fun hb => by
    have h1 := HX.out.cw.lt hb
    have h2 : w.heap.size ≤ g := HGL.out
    omega
  have hgX : Xn X w.drew u g := .inr ⟨HGL.out, HXS.out⟩
  have hg4 : Hs (w3.setCell ⟨c, 6, none⟩ (.int .i64 (mi + 1))) g (By (rd d N)) 5 := (k4 g hgX fun hb => hgB (b3 g hb)).trans ((k3 g hgX hgB).trans HG.out)
  rw [ep'] at c4
  have hH := hold_cw (w3.setCell ⟨c, 6, none⟩ (.int .i64 (mi + 1))) c a fr h (mi + 1) ev2 m d.page fs2 N g (rd d N) c4 (by omega) (fun f hf e => HNO.out f (hrm.sub f hf) (by rw [e])) hg4 HRD.out.1 HRD.out.2 (fun hb => hgB (b3 g hb)) (by have := hrm.len; omega)
  have F1 : Hid (∀ b v, w3.heap.size ≤ b → Cw v c a fr h (mi + 1) ev2 m d.page (fs2 ++ [⟨N, g, false, 0, b, rd d N⟩]) → Ch (Bk c m fs2) (w3.setCell ⟨c, 6, none⟩ (.int .i64 (mi + 1))) v → FetchIs w0 w X a c m d fr h mi ev fs (N : Int) (.returned (.tuple #[pt b, .int .i64 0])) v) := by
    refine hidden fun b v hb cv kv => ?_
    rw [← ep'] at cv
    have z4 : (w3.setCell ⟨c, 6, none⟩ (.int .i64 (mi + 1))).heap.size = w3.heap.size := size_setCell ..
    have b0 := HX.out.st.be.size
    have b1 := x4.st.be.size
    have gl : w.heap.size ≤ g := HGL.out
    refine .miss N d2 fs2 ev2 g b (Xn (Xn X w.drew u) (w3.setCell ⟨c, 6, none⟩ (.int .i64 (mi + 1))) v) HNO.out rfl hN hrm rfl ⟨x4.st.cx kv fun k _ hk => x4.bx k hk, cv, fun k hk => ?_⟩ (fun k hk hb => ?_) (fun k hk => .inl (.inl hk)) (by have := x3.st.xl g hgX; omega) gl
    · have key : Bk c m fs2 k ∨ k = b ∨ k = g := by
        rcases hk with e | e | ⟨y, hy, e⟩
        · exact .inl (.inl e)
        · exact .inl (.inr (.inl e))
        · rcases List.mem_append.1 hy with hy | hy
          · exact .inl (.inr (.inr ⟨y, hy, e⟩))
          · obtain rfl : y = ⟨N, g, false, 0, b, rd d N⟩ := by simpa using hy
            exact .inr e
      rcases key with e | e | e
      · exact ⟨.inl (x4.bx k e).1, (x4.bx k e).2⟩
      · exact ⟨.inr ⟨by omega, cv.lt hk⟩, by omega⟩
      · subst e
        exact ⟨.inl hgX, by omega⟩
    · have hb2 : ¬ Bk c m fs2 k := fun h => hb (b3 k h)
      exact (kv.block k (x4.st.xl k (.inl hk)) hb2).trans ((k4 k (.inl hk) hb2).trans ((k3 k (.inl hk) hb).trans (HK2.out k hk)))
  have HH := hidden hH
  clear hH c4 x4 k4 hg4 hgX hgB k3 b3 x3 HX HU HNO HRD HG HK2 HGL HXS hrm
  go_wp2_with (go_at_call 22; refine HH.out.mono ?_; rintro e v ⟨b, rfl, hb, cv, kv⟩)
  go_ret2
  exact F1.out b v (by rw [size_setCell] at hb; exact hb) cv kv
set_option maxRecDepth 100000 in
/-- A page that is looked for. -/
theorem fetch_ok (w0 w : World) (X : Nat → Prop) (a c m : Nat) (d : D) (fr h mi ev : Int) (fs : List Fr) (x : Cx w0 w X a c m d fr h mi ev fs) (n : Int) (hwn : (Lit.int .i64 n).wf = true) (up : Up d fs ev) (hfl : fs.length < 65536)
    (r1 : 0 ≤ d.cr) (r2 : d.cr < 4611686018427387904) (m1 : 0 ≤ mi) (m2 : mi < 4611686018427387904) (h1 : 0 ≤ h) (h2 : h < 4611686018427387904) :
    Calls Try.prog 17 #[pt c, .int .i64 n] w fun e u => FetchIs w0 w X a c m d fr h mi ev fs n e u := by
  by_cases hin : ∃ f ∈ fs, (f.n : Int) = n
  · obtain ⟨f, hf, rfl⟩ := hin
    obtain ⟨A, B, rfl⟩ := List.append_of_mem hf
    refine (fetch_hit w0 w X a c m d fr h mi ev A B f x h1 h2).mono ?_
    rintro e u ⟨rfl, xu, ku⟩
    exact .hit A B f rfl rfl rfl xu ku
  · have hno : ∀ f ∈ fs, (f.n : Int) ≠ n := fun f hf e => hin ⟨f, hf, e⟩
    by_cases hfu : (fs.length : Int) < fr ∨ lv fs ≠ none
    · by_cases hbad : 0 ≤ n ∧ n < d.pages
      · obtain ⟨N, rfl⟩ : ∃ N : Nat, n = (N : Int) := ⟨n.toNat, by omega⟩
        exact fetch_miss w0 w X a c m d fr h mi ev fs x N hno hfu up (by omega) hfl r1 r2 m1 m2
      · exact fetch_bad w0 w X a c m d fr h mi ev fs x n hwn hno hfu up hbad
    · have hv : lv fs = none := by
        cases hv : lv fs with
        | none => rfl
        | some f => exact absurd (.inr (by rw [hv]; simp)) hfu
      exact fetch_full w0 w X a c m d fr h mi ev fs x n hwn hno (fun h => hfu (.inl h)) hv up.hp
end Go.Proofs.Ytmelhpghpcpoiab
