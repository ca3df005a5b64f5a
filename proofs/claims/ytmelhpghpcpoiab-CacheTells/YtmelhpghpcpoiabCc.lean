/- The cache: a first Put; Get of what is held. -/
import Derived.Test.YtmelhpghpcpoiabCb
import Derived.Test.YtmelhpghpcpoiabPl12
import Derived.Maps.AppendAt
import Derived.Lib.LazyBuf
namespace Go.Proofs.Ytmelhpghpcpoiab
open Go.RowKit Go.Maps

abbrev tU : TypeId := 5
/-- One page is held. -/
structure One (w : World) (c a : Nat) (fr h mi ev : Int) (m : Nat) (n : Int) (L g p : Nat) (dt : Bool) (pins : Int) (l : List Int) : Prop where
  hc : Hs w c (cC a fr m (pt L) (pt L) h mi ev) tC
  hl : Hs w L (cL n (.slice (some ⟨g, 0, none⟩) p p) dt pins (.pointer none) (.pointer none)) tL
  hg : Hs w g (By l) tU
  hm : MapIs w m 1 ((DataW.map []).put (.int .i64 n) (.lit (.int .i64 (L : Int))))
  lp : l.length = p
  wf : Wf l
  wn : (Lit.int .i64 n).wf = true
  n1 : c ≠ L
  n2 : c ≠ g
  n3 : c ≠ m
  n4 : m ≠ L
  n5 : m ≠ g
  n6 : L ≠ g
def PutIs (w : World) (c a : Nat) (fr h mi ev : Int) (m : Nat) (n : Int) (p : Nat) (l : List Int) (e : Ending) (u : World) : Prop :=
  ∃ L g, e = .returned (.int .i64 0) ∧ w.heap.size ≤ L ∧ w.heap.size ≤ g ∧ One u c a fr h mi ev m n L g p true 0 l ∧ Ch (fun k => k = c ∨ k = m) w u

set_option maxRecDepth 100000 in
set_option maxHeartbeats 1000000 in
theorem Put_first (w : World) (F : Nat → Prop) (a : Nat) (d : D) (hD : Dv w F a d) (c : Nat) (fr h mi ev : Int) (m : Nat) (n : Nat) (hn : n < d.pages) (gb cap : Nat) (l : List Int) (hlen : l.length = d.page) (hwf : Wf l) (hfr : 0 < fr)
    (hc : Hs w c (cC a fr m (.pointer none) (.pointer none) h mi ev) tC) (hm : MapIs w m 0 (.map [])) (hne : c ≠ m) (hb : Hs w gb (By l) tU) (hbc : gb ≠ c) (hbm : gb ≠ m) :
    Calls Try.prog 9 #[pt c, .int .i64 (n : Int), .slice (some ⟨gb, 0, none⟩) d.page cap] w fun e u => PutIs w c a fr h mi ev m n d.page l e u := by
  have hp : d.page ≤ 65536 := by obtain ⟨_, _, _, _, _, hr⟩ := hD; exact hr.p2
  have hps : d.pages ≤ 65536 := by obtain ⟨_, _, _, _, _, hr⟩ := hD; exact hr.q2
  have hwn : (Lit.int .i64 (n : Int)).wf = true := WalkArith.wf_i64 (by omega)
  have HPS : Hid (∀ q, Calls Try.prog 19 #[.pointer (some ⟨a, 0, none⟩)] (w.drewN q) fun e w' => e = .returned (.int .i64 d.pages) ∧ w' = w.drewN q) := hidden fun q => pgs_any (w.drewN q) F a d (hD.drew q)
  have HPG : Hid (∀ q, Calls Try.prog 20 #[.pointer (some ⟨a, 0, none⟩)] (w.drewN q) fun e w' => e = .returned (.int .i64 d.page) ∧ w' = w.drewN q) := hidden fun q => pg_any (w.drewN q) F a d (hD.drew q)
  have c0 : w.cell? ⟨c, 0, none⟩ = some (pt a) := hc.cell 0
  have c2 : w.cell? ⟨c, 2, none⟩ = some (.map (some m)) := hc.cell 2
  have hni : ¬ ((n : Int) < 0) := by omega
  have hnp : ¬ ((d.pages : Int) ≤ (n : Int)) := by omega
  have HC := hidden hc
  have HM := hidden hm
  have HB := hidden hb
  clear hc hm hb hD
  have hlk := look_none HM.out hwn rfl
  have hmr := makeRoom_room w c a fr h mi ev m 0 (.map []) _ _ HC.out HM.out (by show ((0 : Nat) : Int) < fr; omega)
  have hmk := mkB d.page (by omega) w.drew
  have hclt := HC.out.lt
  have hmlt := World.ownsMap.lt HM.out
  have HH : Hid (∀ u, u = w.drew.alloc (.cells (By (List.replicate d.page 0)).toArray tU) → Calls Try.prog 22 #[pt c, .int .i64 (n : Int), .slice (some ⟨w.heap.size, 0, none⟩) d.page d.page] u fun e v => HoldIs u c a fr h mi ev m n (.slice (some ⟨w.heap.size, 0, none⟩) d.page d.page) e v) := by
    refine hidden ?_
    rintro u rfl
    exact hold_first _ c a fr h mi ev m n _ _ _ hwn ((Below.heap_alloc _ _ _ hclt).trans HC.out) (World.ownsMap.alloc (w := w.drew) HM.out _) hne
  go_enter Try.func9, Try.ntmps9
  go_wp2_with (first
    | (go_at_call 19; refine same_call (HPS.out 0) ?_)
    | (go_at_call 20; refine same_call (HPG.out 0) ?_)
    | (go_at_call 21; refine hmr.mono ?_; rintro e u ⟨rfl, rfl⟩)
    | (go_at_call 22; refine (HH.out _ rfl).mono ?_; rintro e u ⟨L, rfl, hL, hL2, hc2, hl2, hm2, hk2⟩; refine Hid.out ?_))
  apply hidden
  have hsz : (Try.prog.info? 5).map (·.size) = some 1 := by kernel_rfl
  have hgz : (w.drew.alloc (.cells (By (List.replicate d.page 0)).toArray tU)).heap.size = w.heap.size + 1 := Array.size_push ..
  have hgw : Hs (w.drew.alloc (.cells (By (List.replicate d.page 0)).toArray tU)) w.heap.size (By (List.replicate d.page 0)) tU := al_row w.drew _
  have hbw : Hs (w.drew.alloc (.cells (By (List.replicate d.page 0)).toArray tU)) gb (By l) tU := (Below.heap_alloc w.drew _ _ HB.out.lt).trans HB.out
  have hgu := hgw.ch hk2 (by omega)
  have hbu := hbw.ch hk2 (by omega)
  have hk3 : Ch (fun k => k = c ∨ k = m) w u := ((Ch.dr _ w).trans (Ch.alloc _ w.drew _) fun _ _ h => h).trans hk2 fun _ _ h => h
  have hblt := HB.out.lt
  rw [hgz] at hL
  have l1 : u.cell? ⟨L, 1, none⟩ = some (.slice (some ⟨w.heap.size, 0, none⟩) d.page d.page) := hl2.cell 1
  have HGU := hidden hgu
  have HBU := hidden hbu
  have HK3 := hidden hk3
  have HC2 := hidden hc2
  have HL2 := hidden hl2
  have HM2 := hidden hm2
  clear hgw hbw hgu hbu hk3 hk2 hc2 hl2 hm2 HC HM HB HH hmk hlk hmr HPS HPG c0 c2 hgz
  generalize hG : w.heap.size = G at *
  go_wp2_with (refine copy_row rfl _ _ 34 34 rfl 5 Try.underlying34 hsz G 0 d.page d.page ⟨gb, 0, none⟩ d.page cap rfl rfl (By (List.replicate d.page 0)) 5 HGU.out (By l) (by rw [By_length, hlen]; exact (Nat.min_self _).symm) (row_cells HBU.out) (by rw [By_length, By_length, hlen, List.length_replicate]; omega) (By_one _) ?_; intro u3 HU; refine Hid.out ?_)
  apply hidden
  have hu := HU.out
  rw [splice_all _ _ (by rw [By_length, By_length, hlen, List.length_replicate])] at hu
  have hg3 : Hs u3 G (By l) tU := by rw [hu]; exact setRow_heap u _ _ _ _ _ HGU.out
  have hk4 : Ch (fun k => k = G) u u3 := by rw [hu]; exact Ch.setRow (F := fun k => k = G) _ rfl _
  have hc3 := HC2.out.ch hk4 (by omega)
  have hl3 := HL2.out.ch hk4 (by omega)
  have hm3 := MapIs.ch HM2.out hk4 (by omega)
  have y2 : u3.cell? ⟨L, 2, none⟩ = some (.bool false) := hl3.cell 2
  have e2 := hl3.free 2
  have y3 : u3.cell? ⟨c, 3, none⟩ = some (pt L) := hc3.cell 3
  have HRN := renew_one (u3.setCell ⟨L, 2, none⟩ (.bool true)) c L a fr h mi ev m n (.slice (some ⟨G, 0, none⟩) d.page d.page) true 0 (hc3.other (by omega) _) (hl3.self _) (by omega)
  have hk5 : Ch (fun k => k = c ∨ k = m) w (u3.setCell ⟨L, 2, none⟩ (.bool true)) := (HK3.out.trans hk4 fun k hk e => by omega).trans (Ch.setCell (F := fun k => k = L) u3 (p := ⟨L, 2, none⟩) rfl _) fun k hk e => by omega
  have HK5 := hidden hk5
  have HM5 := hidden (MapIs.ch hm3 (Ch.setCell (F := fun k => k = L) u3 (p := ⟨L, 2, none⟩) rfl (.bool true)) (by omega))
  have HG5 := hidden (hg3.other (k := L) (i := 2) (by omega) (.bool true))
  have HR := hidden HRN
  clear HRN hk5 hm3 hg3 hk4 hc3 hl3 HK3 HC2 HL2 HM2 HGU HBU HU hu l1
  go_wp2_with (go_at_call 23; refine HR.out.mono ?_; rintro e u5 ⟨rfl, c5, l5, k5, s5⟩)
  go_ret
  refine ⟨L, G, rfl, by omega, by omega, ⟨c5, l5, HG5.out.ch k5 (by omega), MapIs.ch HM5.out k5 (by omega), hlen, hwf, hwn, by omega, by omega, hne, by omega, by omega, by omega⟩, HK5.out.trans k5 fun k hk e => by omega⟩
end Go.Proofs.Ytmelhpghpcpoiab
