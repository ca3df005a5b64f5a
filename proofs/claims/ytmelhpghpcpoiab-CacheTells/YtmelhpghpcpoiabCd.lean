/- The cache: Get of the page that is held. -/
import Derived.Test.YtmelhpghpcpoiabCc
namespace Go.Proofs.Ytmelhpghpcpoiab
open Go.RowKit Go.Maps

set_option maxRecDepth 100000 in
theorem bClone (w : World) (g n : Nat) (l : List Int) (hg : Hs w g (By l) tU) (hl : l.length = n) (h0 : 0 < n) (hn : n ≤ 67108864) (hw : Wf l) :
    Calls Try.prog 18 #[.slice (some ⟨g, 0, none⟩) n n] w fun e u => ∃ g' c', e = .returned (.slice (some ⟨g', 0, none⟩) n c') ∧ w.heap.size ≤ g' ∧ Sl u (some ⟨g', 0, none⟩) n c' l ∧ Below w.heap.size w u := by
  obtain ⟨i0, hi, hz0, hz1, hz2⟩ := info_parts info5
  have HSRC : Hid (∀ j u, (By l)[j]? = some u → (w.alloc (.cells #[] tU (0, 0))).cell? ((⟨g, 0, none⟩ : Addr).add j) = some u) := hidden (row_cells ((Below.heap_alloc _ _ _ hg.lt).trans hg))
  have HOWN : Hid ((w.alloc (.cells #[] tU (0, 0))).ownsRow w.heap.size tU 1 (.slice (some ⟨w.heap.size, 0, none⟩) 0 0) 0 []) := hidden ⟨rfl, .inr ⟨w.heap.size, 0, #[], rfl, Nat.le_refl _, by show (w.heap.push _)[w.heap.size]? = _; simp, Nat.le_refl _, by unfold maxLen; omega, rfl, rfl⟩⟩
  have kE : (binOp .eql 34 (.slice (some ⟨g, 0, none⟩) n n) (.slice none 0 0)).run Try.prog w = .ok (.bool false) w := run_eql_slice_nil w 34 5 (some ⟨g, 0, none⟩) n n Try.underlying34
  clear hg
  go_enter Try.func18, Try.ntmps18
  go_wp2_with (refine wpList_append_own _ rfl _ _ 34 rfl w.heap.size 5 i0 (.int .u8 0) 1 1 Try.underlying34 hi hz0 hz1 hz2 rfl (by decide) (.slice (some ⟨w.heap.size, 0, none⟩) 0 0) 0 [] rfl HOWN.out ⟨g, 0, none⟩ n n (By l) rfl (by rw [By_length, hl, Nat.mul_one]) HSRC.out (By_one l) (by unfold maxLen; omega) (by omega) (by simp) ?_)
  intro v' w' h1 h2 _
  have hb : Below w.heap.size w w' := ((Below.refl _ _).alloc (Nat.le_refl _) _).trans ((Below.refl _ _).grown h2 (by simp) (fun k hk => Nat.le_of_eq (by simpa [Value.ownBlock] using hk)))
  have ho : OwnB w' w.heap.size v' l := by
    unfold OwnB
    rw [hl]
    simpa using h1
  obtain ⟨ao, c', e, hsl, hfr⟩ := ho.sl hw (by omega)
  subst e
  rw [hl] at hsl
  have hao : ∃ g', ao = some ⟨g', 0, none⟩ ∧ w.heap.size ≤ g' := by
    rcases ho.2 with ⟨hv, h00⟩ | ⟨g', cap, cur, hv, g1, _⟩
    · omega
    · injection hv with e1
      exact ⟨g', e1, g1⟩
  obtain ⟨g', rfl, hg'⟩ := hao
  have HSL := hidden hsl
  have HB := hidden hb
  clear h1 h2 hb hsl hfr ho HSRC HOWN kE hi hz0 hz1 hz2
  rw [hl]
  go_wp2
  go_ret
  exact ⟨_, _, rfl, hg', HSL.out, HB.out⟩

set_option maxRecDepth 100000 in
theorem One.at {w : World} {c a : Nat} {fr h mi ev : Int} {m : Nat} {n : Int} {L g p : Nat} {dt : Bool} {pins : Int} {l : List Int} (_hh : One w c a fr h mi ev m n L g p dt pins l) : ((DataW.map (H := Unit) []).put (.int .i64 n) (.lit (.int .i64 (L : Int)))).atKey (.int .i64 n) (.lit (.int .i64 (-1))) = .lit (.int .i64 (L : Int)) := atKey_put_same isMap_empty (by trivial) _ _
set_option maxRecDepth 100000 in
theorem fetch_held (w : World) (c a : Nat) (fr h mi ev : Int) (m : Nat) (n : Int) (L g p : Nat) (dt : Bool) (pins : Int) (l : List Int) (hO : One w c a fr h mi ev m n L g p dt pins l) (h0 : 0 ≤ h) (h1 : h < 4611686018427387904) :
    Calls Try.prog 17 #[pt c, .int .i64 n] w fun e u => e = .returned (.tuple #[pt L, .int .i64 0]) ∧ One u c a fr (h + 1) mi ev m n L g p dt pins l ∧ Ch (fun k => k = c ∨ k = L) w u := by
  have c2 : w.cell? ⟨c, 2, none⟩ = some (.map (some m)) := hO.hc.cell 2
  have hlk := look_some hO.hm hO.wn hO.at
  have hR := renew_one w c L a fr h mi ev m n _ dt pins hO.hc hO.hl hO.n1
  have HO := hidden hO
  clear hO
  go_enter Try.func17, Try.ntmps17
  go_wp2_with (go_at_call 23; refine hR.mono ?_; rintro e u ⟨rfl, hc1, hl1, hk1, hs1⟩; refine Hid.out ?_)
  apply hidden
  have y5 : u.cell? ⟨c, 5, none⟩ = some (.int .i64 h) := hc1.cell 5
  have f5 := hc1.free 5
  have HC := hidden hc1
  have HL := hidden hl1
  have HK := hidden hk1
  clear hc1 hl1 hk1 hR hlk c2
  go_wp2
  go_ret2
  have o := HO.out
  refine ⟨rfl, ⟨HC.out.self _, HL.out.other (Ne.symm o.n1) _, ?_, ?_, o.lp, o.wf, o.wn, o.n1, o.n2, o.n3, o.n4, o.n5, o.n6⟩, HK.out.set (.inl rfl) _⟩
  · exact (o.hg.ch HK.out (by have := o.n2; have := o.n6; omega)).other (Ne.symm o.n2) _
  · exact MapIs.ch o.hm (HK.out.set (.inl rfl) _) (by have := o.n3; have := o.n4; omega)
set_option maxRecDepth 100000 in
theorem Get_held (w : World) (c a : Nat) (fr h mi ev : Int) (m : Nat) (n : Int) (L g p : Nat) (dt : Bool) (pins : Int) (l : List Int) (hO : One w c a fr h mi ev m n L g p dt pins l) (h0 : 0 ≤ h) (h1 : h < 4611686018427387904) (p0 : 0 < p) (p1 : p ≤ 67108864) :
    Calls Try.prog 7 #[pt c, .int .i64 n] w fun e u => ∃ g' c', e = .returned (.tuple #[.slice (some ⟨g', 0, none⟩) p c', .int .i64 0]) ∧ w.heap.size ≤ g' ∧ Sl u (some ⟨g', 0, none⟩) p c' l ∧ One u c a fr (h + 1) mi ev m n L g p dt pins l ∧ Ch (fun k => k = c ∨ k = L) w u := by
  have hF := fetch_held w c a fr h mi ev m n L g p dt pins l hO h0 h1
  have hz : ∀ u : World, Ch (fun k => k = c ∨ k = L) w u → w.heap.size ≤ u.heap.size := fun u h => h.size
  clear hO
  go_enter Try.func7, Try.ntmps7
  go_wp2_with (go_at_call 17; refine hF.mono ?_; rintro e u ⟨rfl, o1, k1⟩; refine Hid.out ?_)
  apply hidden
  have l1 : u.cell? ⟨L, 1, none⟩ = some (.slice (some ⟨g, 0, none⟩) p p) := o1.hl.cell 1
  have hC := bClone u g p l o1.hg o1.lp p0 p1 o1.wf
  have HO := hidden o1
  have HK := hidden k1
  clear o1 k1 hF
  go_wp2_with (go_at_call 18; refine hC.mono ?_; rintro e v ⟨g', c', rfl, hg', hsl, hb⟩)
  go_ret2
  have o := HO.out
  have k : Ch (fun k => k = c ∨ k = L) u v := Ch.of_below hb
  exact ⟨g', c', rfl, Nat.le_trans HK.out.size hg', hsl, ⟨(hb.block _ o.hc.lt).trans o.hc, (hb.block _ o.hl.lt).trans o.hl, (hb.block _ o.hg.lt).trans o.hg, MapIs.ch o.hm (Ch.of_below (F := fun _ => False) hb) (fun h => h), o.lp, o.wf, o.wn, o.n1, o.n2, o.n3, o.n4, o.n5, o.n6⟩, HK.out.trans k fun _ _ h => h⟩
end Go.Proofs.Ytmelhpghpcpoiab
