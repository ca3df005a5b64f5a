/- The cache over its device, which is up: Put. -/
import Derived.Test.YtmelhpghpcpoiabDl
namespace Go.Proofs.Ytmelhpghpcpoiab
open Go.RowKit Go.Maps

set_option maxRecDepth 100000 in
theorem bk_used {c m : Nat} {A B : List Fr} {f : Fr} {k : Nat} (h : Bk c m (A ++ B ++ [f]) k) : Bk c m (A ++ f :: B) k := by
  rcases h with h | h | ⟨x, hx, h⟩
  · exact .inl h
  · exact .inr (.inl h)
  · exact .inr (.inr ⟨x, (perm_used A B f).mem_iff.1 hx, h⟩)
set_option maxRecDepth 100000 in
theorem Put_bad (w0 w : World) (X : Nat → Prop) (a c m : Nat) (d : D) (fr h mi ev : Int) (fs : List Fr) (x : Cx w0 w X a c m d fr h mi ev fs) (n : Int) (l : List Int) (hbad : ¬ (0 ≤ n ∧ n < d.pages)) (v : Value) :
    Calls Try.prog 9 #[pt c, .int .i64 n, v] w fun e u => PutW w0 w X a c m d fr h mi ev fs n l e u := by
  have c0 : w.cell? ⟨c, 0, none⟩ = some (pt a) := x.cw.row.hc.cell 0
  have hPS : Calls Try.prog 19 #[.pointer (some ⟨a, 0, none⟩)] w fun e w' => e = .returned (.int .i64 d.pages) ∧ w' = w := by
    obtain ⟨F, hD⟩ := x.st.dv
    exact pgs_any w F a d hD
  have F1 : Hid (PutW w0 w X a c m d fr h mi ev fs n l (.returned (.int .i64 30)) w) := hidden (.bad hbad rfl x fun _ _ _ => rfl)
  clear x
  by_cases h0 : n < 0
  · clear hbad
    go_enter Try.func9, Try.ntmps9
    go_wp2
    go_ret
    exact F1.out
  · have h1 : (d.pages : Int) ≤ n := by omega
    generalize d.pages = ps at *
    clear hbad
    go_enter Try.func9, Try.ntmps9
    go_wp2_with (go_at_call 19; refine same_call hPS ?_)
    go_ret
    exact F1.out
set_option maxRecDepth 100000 in
set_option maxHeartbeats 1000000 in
theorem Put_held (w0 w : World) (X : Nat → Prop) (a c m : Nat) (d : D) (fr h mi ev : Int) (A B : List Fr) (f : Fr) (x : Cx w0 w X a c m d fr h mi ev (A ++ f :: B)) (hn : f.n < d.pages) (gb cap : Nat) (l : List Int) (hlen : l.length = d.page) (hwf : Wf l) (hb : Hs w gb (By l) 5) :
    Calls Try.prog 9 #[pt c, .int .i64 (f.n : Int), .slice (some ⟨gb, 0, none⟩) d.page cap] w fun e u => PutW w0 w X a c m d fr h mi ev (A ++ f :: B) (f.n : Int) l e u := by
  have fm : f ∈ A ++ f :: B := by simp
  have c0 : w.cell? ⟨c, 0, none⟩ = some (pt a) := x.cw.row.hc.cell 0
  have c2 : w.cell? ⟨c, 2, none⟩ = some (.map (some m)) := x.cw.row.hc.cell 2
  have l1 : w.cell? ⟨f.b, 1, none⟩ = some (.slice (some ⟨f.g, 0, none⟩) d.page d.page) := x.cw.row.mid.cell 1
  have hPS : Calls Try.prog 19 #[.pointer (some ⟨a, 0, none⟩)] w fun e w' => e = .returned (.int .i64 d.pages) ∧ w' = w := by
    obtain ⟨F, hD⟩ := x.st.dv
    exact pgs_any w F a d hD
  have hPG : Calls Try.prog 20 #[.pointer (some ⟨a, 0, none⟩)] w fun e w' => e = .returned (.int .i64 d.page) ∧ w' = w := by
    obtain ⟨F, hD⟩ := x.st.dv
    exact pg_any w F a d hD
  obtain ⟨D, hm, hD⟩ := x.cw.mp
  have hlk := look_some hm (wfn (x.cw.wn f fm)) (hD.at1 f fm)
  have hni : ¬ ((f.n : Int) < 0) := by omega
  have hnp : ¬ ((d.pages : Int) ≤ (f.n : Int)) := by omega
  obtain ⟨b1, b2, b3⟩ := x.cw.bys f fm
  have hsz : (Try.prog.info? 5).map (·.size) = some 1 := by kernel_rfl
  have HX := hidden x
  have HG := hidden b1
  have HB := hidden hb
  have HBL := hidden b2
  clear x hm hD b1 b2 b3 hb
  go_enter Try.func9, Try.ntmps9
  go_wp2_with (first
    | (go_at_call 19; refine same_call hPS ?_)
    | (go_at_call 20; refine same_call hPG ?_)
    | (refine copy_row rfl _ _ 34 34 rfl 5 Try.underlying34 hsz f.g 0 d.page d.page ⟨gb, 0, none⟩ d.page cap rfl rfl (By f.l) 5 HG.out (By l) (by rw [By_length, hlen]; exact (Nat.min_self _).symm) (row_cells HB.out) (by rw [By_length, By_length, hlen, HBL.out]; omega) (By_one _) ?_; intro u3 HU; refine Hid.out ?_))
  apply hidden
  have hu := HU.out
  rw [splice_all _ _ (by rw [By_length, By_length, hlen, HBL.out])] at hu
  obtain ⟨y2, f2, x4, k4⟩ := HX.out.wrt hlen hwf hu
  have hR := renew_cw (u3.setCell ⟨f.b, 2, none⟩ (.bool true)) c a fr h mi ev m _ A B { f with l := l, dt := true } x4.cw
  have F1 : Hid (∀ v, Cw v c a fr h mi ev m d.page (A ++ B ++ [{ f with l := l, dt := true }]) → Ch (Own c (A ++ { f with l := l, dt := true } :: B)) (u3.setCell ⟨f.b, 2, none⟩ (.bool true)) v → PutW w0 w X a c m d fr h mi ev (A ++ f :: B) (f.n : Int) l (.returned (.int .i64 0)) v) := by
    refine hidden fun v cv kv => ?_
    obtain ⟨x5, k5⟩ := x4.same (kv.mono (F := Bk c m (A ++ { f with l := l, dt := true } :: B)) fun k _ hk => bk_own hk) cv (fun k hk => bk_used hk)
    exact .held A B f X rfl rfl rfl x5 (k4.trans k5 (fun _ h => h) fun k _ hk => bk_upd (f := f) (f' := { f with l := l, dt := true }) rfl rfl hk) (fun _ h => h) (fun k _ hk => bk_upd (f := f) (f' := { f with l := l, dt := true }) rfl rfl (bk_used hk))
  have HR := hidden hR
  clear hR x4 k4 HX HG HB HBL HU hu hlk c0 c2 l1 hPS hPG
  go_wp2_with (go_at_call 23; refine HR.out.mono ?_; rintro e v ⟨rfl, cv, kv, zv⟩)
  go_ret
  exact F1.out v cv kv
set_option maxRecDepth 100000 in
set_option maxHeartbeats 2000000 in
theorem Put_new (w0 w : World) (X : Nat → Prop) (a c m : Nat) (d : D) (fr h mi ev : Int) (fs : List Fr) (x : Cx w0 w X a c m d fr h mi ev fs) (up : Up d fs ev) (hfl : fs.length < 65536) (N : Nat) (hno : ∀ f ∈ fs, (f.n : Int) ≠ (N : Int)) (hN : N < d.pages) (gb cap : Nat) (l : List Int) (hlen : l.length = d.page) (hwf : Wf l) (hb : Hs w gb (By l) 5) (hXb : X gb) (hnb : ¬ Bk c m fs gb) :
    Calls Try.prog 9 #[pt c, .int .i64 (N : Int), .slice (some ⟨gb, 0, none⟩) d.page cap] w fun e u => PutW w0 w X a c m d fr h mi ev fs (N : Int) l e u := by
  have hpg : d.page ≤ 65536 ∧ d.pages ≤ 65536 := by obtain ⟨F, _, _, _, _, _, hr⟩ := x.st.dv; exact ⟨hr.p2, hr.q2⟩
  have c0 : w.cell? ⟨c, 0, none⟩ = some (pt a) := x.cw.row.hc.cell 0
  have c2 : w.cell? ⟨c, 2, none⟩ = some (.map (some m)) := x.cw.row.hc.cell 2
  have hPS : Calls Try.prog 19 #[.pointer (some ⟨a, 0, none⟩)] w fun e w' => e = .returned (.int .i64 d.pages) ∧ w' = w := by
    obtain ⟨F, hD⟩ := x.st.dv
    exact pgs_any w F a d hD
  have hPG : Calls Try.prog 20 #[.pointer (some ⟨a, 0, none⟩)] w fun e w' => e = .returned (.int .i64 d.page) ∧ w' = w := by
    obtain ⟨F, hD⟩ := x.st.dv
    exact pg_any w F a d hD
  obtain ⟨D, hm, hD⟩ := x.cw.mp
  have hlk := look_none hm (wfn (by omega : N ≤ 65536)) (hD.at0 _ hno)
  have hMR := makeRoom_ok w0 w X a c m d fr h mi ev fs x up.hn up.dn up.ar up.w1 up.w2 up.few up.e1 up.e2 up.hp
  have hni : ¬ ((N : Int) < 0) := by omega
  have hnp : ¬ ((d.pages : Int) ≤ (N : Int)) := by omega
  have hsz : (Try.prog.info? 5).map (·.size) = some 1 := by kernel_rfl
  have HX := hidden x
  have HB := hidden hb
  have HNO := hidden hno
  have HNB := hidden hnb
  clear x hm hD hb hno up hnb
  go_enter Try.func9, Try.ntmps9
  go_wp2_with (first
    | (go_at_call 19; refine same_call hPS ?_)
    | (go_at_call 20; refine same_call hPG ?_)
    | (go_at_call 21; refine hMR.mono ?_; intro e u hMu; have hq := hMu.to; clear hMu; obtain ⟨k, rfl, hq⟩ := hq; refine Hid.out ?_))
  apply hidden
  clear hMR hPS hPG hlk c0 c2
  rcases hq with ⟨rfl, q1, q2, xu, ku⟩ | ⟨rfl, d2, fs2, ev2, hrm, xu, ku, bu⟩
  · have F1 : Hid (PutW w0 w X a c m d fr h mi ev fs (N : Int) l (.returned (.int .i64 40)) u) := hidden (.full HNO.out (by omega) q2 rfl xu ku)
    clear xu ku q1 q2
    go_wp2
    go_ret
    exact F1.out
  · have ep : d2.page = d.page := hrm.page.1
    have hmk := mkB d.page (by omega) u
    obtain ⟨u1, hu1⟩ : ∃ u1, u1 = u.alloc (.cells (By (List.replicate d.page 0)).toArray 5) := ⟨_, rfl⟩
    rw [← hu1] at hmk
    have hg1 : Hs u1 u.heap.size (By (List.replicate d.page 0)) 5 := by rw [hu1]; exact al_row _ _
    have hb1 : Below u.heap.size u u1 := by rw [hu1]; exact (Below.refl _ _).alloc (Nat.le_refl _) _
    have x1 : Cx w0 u1 (Xn X u u1) a c m d2 fr h mi ev2 fs2 := ⟨xu.st.page hb1, xu.cw.stay fun k hk => hb1.block k (xu.cw.lt hk), fun k hk => ⟨.inl (xu.bx k hk).1, (xu.bx k hk).2⟩⟩
    have k1 : Kp X c m fs w u1 := fun k hk hnb => (hb1.block k (xu.st.xl k hk)).trans (ku k hk hnb)
    have c1 := x1.cw
    rw [ep] at c1
    have hH := hold_cw u1 c a fr h mi ev2 m d.page fs2 N u.heap.size (List.replicate d.page 0) c1 (by omega) (fun f hf e => HNO.out f (hrm.sub f hf) (by rw [e])) hg1 (List.length_replicate ..) (replicate_wf _ _ (by omega)) (fun hk => by have := xu.cw.lt hk; omega) (by have := hrm.len; omega)
    have hbu1 : Hs u1 gb (By l) 5 := (k1 gb hXb HNB.out).trans HB.out
    have X1 := hidden x1
    have K1 := hidden k1
    have XU := hidden xu
    have BU := hidden bu
    have HB1 := hidden hbu1
    have HRM := hidden hrm
    have HH := hidden hH
    have ZG := hidden hg1.lt
    have XL := hidden (show ∀ k, X k → k < u.heap.size from xu.st.xl)
    clear hH x1 k1 xu ku bu c1 hg1 hb1 hbu1 hrm hu1 HB
    generalize hG : u.heap.size = G at *
    go_wp2_with (go_at_call 22; refine HH.out.mono ?_; rintro e v ⟨b, rfl, hb, cv, kv⟩; refine Hid.out ?_)
    apply hidden
    clear HH hmk
    have cv' : Cw v c a fr h mi ev2 m d2.page (fs2 ++ [⟨N, G, false, 0, b, List.replicate d.page 0⟩]) := by rw [ep]; exact cv
    have xv : Cx w0 v (Xn (Xn X u u1) u1 v) a c m d2 fr h mi ev2 (fs2 ++ [⟨N, G, false, 0, b, List.replicate d.page 0⟩]) := by
      refine ⟨X1.out.st.cx kv fun k _ hk => X1.out.bx k hk, cv', fun k hk => ?_⟩
      have b0 := XU.out.st.be.size
      have b1 := X1.out.st.be.size
      have zg := ZG.out
      have key : Bk c m fs2 k ∨ k = b ∨ k = G := by
        rcases hk with e | e | ⟨y, hy, e⟩
        · exact .inl (.inl e)
        · exact .inl (.inr (.inl e))
        · rcases List.mem_append.1 hy with hy | hy
          · exact .inl (.inr (.inr ⟨y, hy, e⟩))
          · obtain rfl : y = ⟨N, G, false, 0, b, List.replicate d.page 0⟩ := by simpa using hy
            exact .inr e
      rcases key with e | e | e
      · exact ⟨.inl (X1.out.bx k e).1, (X1.out.bx k e).2⟩
      · exact ⟨.inr ⟨by omega, cv'.lt hk⟩, by omega⟩
      · subst e
        exact ⟨.inl (.inr ⟨by omega, zg⟩), by omega⟩
    have kpv : Kp X c m fs w v := fun k hk hnb => (kv.block k (X1.out.st.xl k (.inl hk)) fun h => hnb (BU.out k h)).trans (K1.out k hk hnb)
    have hgv := (cv.bys ⟨N, G, false, 0, b, List.replicate d.page 0⟩ (by simp)).1
    have hbv : Hs v gb (By l) 5 := (kv.block gb HB1.out.lt fun h => HNB.out (BU.out gb h)).trans HB1.out
    have l1 : v.cell? ⟨b, 1, none⟩ = some (.slice (some ⟨G, 0, none⟩) d.page d.page) := (Rw.mid (A := fs2) (B := []) cv.row).cell 1
    have XV := hidden xv
    have KV := hidden kpv
    have HGV := hidden hgv
    have HBV := hidden hbv
    clear xv kpv hgv hbv cv cv' kv X1 K1 XU HB1
    go_wp2_with (refine copy_row rfl _ _ 34 34 rfl 5 Try.underlying34 hsz G 0 d.page d.page ⟨gb, 0, none⟩ d.page cap rfl rfl (By (List.replicate d.page 0)) 5 HGV.out (By l) (by rw [By_length, hlen]; exact (Nat.min_self _).symm) (row_cells HBV.out) (by rw [By_length, By_length, hlen, List.length_replicate]; omega) (By_one _) ?_; intro u3 HU; refine Hid.out ?_)
    apply hidden
    have hu := HU.out
    rw [splice_all _ _ (by rw [By_length, By_length, hlen, List.length_replicate])] at hu
    obtain ⟨y2, f2, x4, k4⟩ := Cx.wrt (A := fs2) (B := []) (f := ⟨N, G, false, 0, b, List.replicate d.page 0⟩) (l := l) XV.out (by rw [ep]; exact hlen) hwf hu
    have hR := renew_cw (u3.setCell ⟨b, 2, none⟩ (.bool true)) c a fr h mi ev2 m _ fs2 [] ⟨N, G, true, 0, b, l⟩ x4.cw
    rw [ep] at hR
    have F1 : Hid (∀ z, Cw z c a fr h mi ev2 m d.page (fs2 ++ [] ++ [⟨N, G, true, 0, b, l⟩]) → Ch (Own c (fs2 ++ [⟨N, G, true, 0, b, l⟩])) (u3.setCell ⟨b, 2, none⟩ (.bool true)) z → PutW w0 w X a c m d fr h mi ev fs (N : Int) l (.returned (.int .i64 0)) z) := by
      refine hidden fun z cz kz => ?_
      rw [List.append_nil, ← ep] at cz
      obtain ⟨x5, k5⟩ := x4.same (kz.mono (F := Bk c m (fs2 ++ [⟨N, G, true, 0, b, l⟩])) fun k _ hk => bk_own hk) cz (fun k hk => hk)
      have zg := ZG.out
      have hnk : ∀ k, X k → ¬ Bk c m fs k → ∀ dt l', ¬ Bk c m (fs2 ++ [⟨N, G, dt, 0, b, l'⟩]) k := by
        intro k hk hnb
        have kG := XL.out k hk
        rintro dt l' (e | e | ⟨y, hy, e⟩)
        · exact hnb (.inl e)
        · exact hnb (.inr (.inl e))
        · rcases List.mem_append.1 hy with hy | hy
          · exact hnb (BU.out k (.inr (.inr ⟨y, hy, e⟩)))
          · obtain rfl : y = ⟨N, G, dt, 0, b, l'⟩ := by simpa using hy
            rcases e with e | e
            · replace e : k = b := e
              omega
            · replace e : k = G := e
              omega
      refine .new N d2 fs2 ev2 G b _ HNO.out rfl hN HRM.out rfl x5 (fun k hk hnb => ?_) (fun k hk => .inl (.inl hk)) (fun k hk hb => Classical.byContradiction fun hnb => hnk k hk hnb _ _ hb)
      exact (k5 k (.inl (.inl hk)) (hnk k hk hnb _ _)).trans ((k4 k (.inl (.inl hk)) (hnk k hk hnb _ _)).trans (KV.out k hk hnb))
    have HR := hidden hR
    clear hR x4 k4 XV KV HGV HBV HU hu l1 HRM BU XL ZG HNO HNB HX
    go_wp2_with (go_at_call 23; refine HR.out.mono ?_; rintro e z ⟨rfl, cz, kz, zz⟩)
    go_ret
    exact F1.out z cz kz
set_option maxRecDepth 100000 in
/-- Put of a page's bytes. -/
theorem Put_ok (w0 w : World) (X : Nat → Prop) (a c m : Nat) (d : D) (fr h mi ev : Int) (fs : List Fr) (x : Cx w0 w X a c m d fr h mi ev fs) (up : Up d fs ev) (hfl : fs.length < 65536) (n : Int) (gb cap : Nat) (l : List Int) (hlen : l.length = d.page) (hwf : Wf l) (hb : Hs w gb (By l) 5) (hXb : X gb) (hnb : ¬ Bk c m fs gb) :
    Calls Try.prog 9 #[pt c, .int .i64 n, .slice (some ⟨gb, 0, none⟩) d.page cap] w fun e u => PutW w0 w X a c m d fr h mi ev fs n l e u := by
  by_cases hbad : 0 ≤ n ∧ n < d.pages
  · obtain ⟨N, rfl⟩ : ∃ N : Nat, n = (N : Int) := ⟨n.toNat, by omega⟩
    by_cases hin : ∃ f ∈ fs, (f.n : Int) = (N : Int)
    · obtain ⟨f, hf, e⟩ := hin
      obtain rfl : f.n = N := by omega
      obtain ⟨A, B, rfl⟩ := List.append_of_mem hf
      exact Put_held w0 w X a c m d fr h mi ev A B f x (by omega) gb cap l hlen hwf hb
    · exact Put_new w0 w X a c m d fr h mi ev fs x up hfl N (fun f hf e => hin ⟨f, hf, e⟩) (by omega) gb cap l hlen hwf hb hXb hnb
  · exact Put_bad w0 w X a c m d fr h mi ev fs x n l hbad _
end Go.Proofs.Ytmelhpghpcpoiab
