/- Layer 12: a way's end in a leaf; what a look finds. -/
import Derived.Test.YtfcbfombobelmaaGreatDoorJ32
import Derived.Test.YtfcbfombobelmaaGreatDoorJ33
namespace Go.Proofs.YtfcbfombobelmaaGreatDoor
open Go.RowKit

set_option maxRecDepth 100000 in
theorem Wy.cells {w : World} {B g c : Nat} {root : Int} {a r : Nat} (h : Wy w B g c root a r) : w.cell? ⟨g, 0, none⟩ = some (.int .i64 root) ∧ w.cell? ⟨g, 1, none⟩ = some (iP a) ∧ w.cell? ⟨g, 2, none⟩ = some (.int .i64 (r : Int)) ∧ 1 ≤ c := by
  have h1 := h.own.cellAt 0 (by omega)
  have h2 := h.own.cellAt 1 (by omega)
  have h3 := h.own.cellAt 2 (by omega)
  refine ⟨by simpa using h1, by simpa using h2, by simpa using h3, ?_⟩
  rcases h.own.2 with ⟨h, _⟩ | ⟨q, c', cur, e, _, _, hn, _⟩
  · cases h
  · injection e with e1 e2 e3
    omega
set_option maxRecDepth 100000 in
theorem Wy.on {w w' : World} {B g c : Nat} {root : Int} {a r : Nat} (h : Wy w B g c root a r) (hb : Below w.heap.size w w') : Wy w' B g c root a r := by
  refine ⟨World.ownsRow.kept (row := none) h.own ⟨hb.os, hb.tape, hb.output, hb.size, fun k hk _ => hb.block k hk⟩ ?_⟩
  right
  simp [Value.ownBlock]
set_option maxRecDepth 100000 in
set_option maxHeartbeats 2000000 in
theorem end_leaf (w : World) (B C g c : Nat) (root : Int) (a r : Nat) (hw : Wy w B g c root a r) (vb vs : Value) (cs : List Cl) (hp : Po w C a 2 512 vb vs cs) (gd : Gd1 cs) :
    Calls Tryz.prog 37 #[.slice (some ⟨g, 0, none⟩) 1 c] w (FoTo (cellE cs r) (decide (remE cs r = 0)) w) := by
  obtain ⟨c0, c1, c2, hc1⟩ := hw.cells
  obtain ⟨s, hs⟩ : ∃ s, w.heap.size = s := ⟨_, rfl⟩
  obtain ⟨x, hx⟩ : ∃ x, w.alloc (.cells #[.slice none 0 0, .int .i64 0, .slice none 0 0, .int .i64 0, .int .i64 0, .bool false] 46) = x := ⟨_, rfl⟩
  have hbx : Below w.heap.size w x := by rw [← hx]; exact bl_al (Below.refl _ _) (Nat.le_refl _) _
  obtain ⟨y, hy⟩ : ∃ y, x.alloc (.cells #[.int .i64 root, iP a, .int .i64 (r : Int)] 89) = y := ⟨_, rfl⟩
  have hby : Below x.heap.size x y := by rw [← hy]; exact bl_al (Below.refl _ _) (Nat.le_refl _) _
  have hwy : Below w.heap.size w y := bl_go hbx (Nat.le_refl _) hby
  have hq6 : QV6F y s (.slice none 0 0) (.int .i64 0) (.slice none 0 0) (.int .i64 0) (.int .i64 0) (.bool false) := box_on (show x.heap[s]? = _ by rw [← hx, ← hs]; exact heap_alloc_last w _) hby
  have hxs : x.heap.size = s + 1 := by rw [← hx, ← hs]; simp
  have x0 := (hbx.cell (p := ⟨g, 0, none⟩) (World.block_lt_of_cell? w _ (by rw [c0]))).trans c0
  have x1 := (hbx.cell (p := ⟨g, 1, none⟩) (World.block_lt_of_cell? w _ (by rw [c1]))).trans c1
  have x2 := (hbx.cell (p := ⟨g, 2, none⟩) (World.block_lt_of_cell? w _ (by rw [c2]))).trans c2
  have hry : y.heap[s + 1]? = some (.cells #[.int .i64 root, iP a, .int .i64 (r : Int)] 89 (0, 0)) := by rw [← hy, ← hxs]; exact heap_alloc_last x _
  have y1 := cell_of_row _ _ 1 _ _ _ hry
  have y2 := cell_of_row _ _ 2 _ _ _ hry
  simp at y1 y2
  have hys : y.heap.size = s + 2 := by rw [← hy]; simp [hxs]
  have HYS := hidden hys
  have HCL := hidden (cellO_any y C a 2 512 vb vs cs (r : Int) (hp.on hwy) gd.wf gd.fit gd.sz (by omega))
  generalize cellE cs (r : Int) = d at *
  generalize remE cs (r : Int) = E at *
  have HQ6 := hidden hq6
  have HWY := hidden hwy
  have HSW : Hid (w.heap.size = s) := hidden hs
  clear hw hp gd c0 c1 c2 hq6 hbx hby hwy hry hys
  go_enter Tryz.func37, Tryz.ntmps37
  go_wp2_with (first | (go_at_call 214; refine HCL.out.mono ?_; rintro e w2 ⟨ko, kc, vo, vc, rfl, HO2, HB2⟩; refine Hid.out ?_))
  apply hidden
  have hq2 : QV6F w2 s (.slice none 0 0) (.int .i64 0) (.slice none 0 0) (.int .i64 0) (.int .i64 0) (.bool false) := box_on HQ6.out HB2.out
  obtain ⟨z, hz⟩ : ∃ z, w2.alloc (.cells #[.slice ko d.key.length kc, .int .i64 d.kd, .slice vo d.val.length vc, .int .i64 d.pg, .int .i64 d.ct] 29) = z := ⟨_, rfl⟩
  have hbz : Below w2.heap.size w2 z := by rw [← hz]; exact bl_al (Below.refl _ _) (Nat.le_refl _) _
  have hqz : QV6F z s (.slice none 0 0) (.int .i64 0) (.slice none 0 0) (.int .i64 0) (.int .i64 0) (.bool false) := box_on hq2 hbz
  have hc5 : C5 z w2.heap.size (.slice ko d.key.length kc) (.int .i64 d.kd) (.slice vo d.val.length vc) (.int .i64 d.pg) (.int .i64 d.ct) := by rw [← hz]; exact C5.box _ _ _ _ _ _
  obtain ⟨v0, v1, v2, v3, v4⟩ := hc5.cells
  have r0 := cell_of_row _ _ 0 _ _ _ hqz
  have r1 := cell_of_row _ _ 1 _ _ _ hqz
  have r2 := cell_of_row _ _ 2 _ _ _ hqz
  have r3 := cell_of_row _ _ 3 _ _ _ hqz
  have r4 := cell_of_row _ _ 4 _ _ _ hqz
  have r5 := cell_of_row _ _ 5 _ _ _ hqz
  simp at r0 r1 r2 r3 r4 r5
  have fz : ∀ i, z.frozen? ⟨s, i, none⟩ = false := fun i => by unfold QV6F at hqz; simp [World.frozen?, hqz]
  have HQZ := hidden hqz
  have HBZ : Hid (Below w.heap.size w z) := hidden (bl_go (bl_go HWY.out (Nat.le_refl _) HB2.out) (Nat.le_refl _) hbz)
  have HOZ : Hid (OwnB z w.heap.size (.slice ko d.key.length kc) d.key ∧ OwnB z w.heap.size (.slice vo d.val.length vc) d.val) := hidden ⟨(HO2.out.1.on (Nat.le_refl _) hbz).low HWY.out.size, (HO2.out.2.1.on (Nat.le_refl _) hbz).low HWY.out.size⟩
  clear hq2 hqz hc5 hbz HO2 HB2 HCL HQ6 hx hy x0 x1 x2 y1 y2
  go_wp2
  refine bodyPost_ret (results_cell_row rfl _ _ s 46 #[.slice ko d.key.length kc, .int .i64 d.kd, .slice vo d.val.length vc, .int .i64 d.pg, .int .i64 d.ct, .bool (decide (E = 0))] (0, 0) _ (by rfl) (put6F_row HQZ.out _ _ _ _ _ _) Tryz.underlying46 rfl sizeFo1) rfl ?_
  have hcf := put6F_cf z s (.slice ko d.key.length kc) (.int .i64 d.kd) (.slice vo d.val.length vc) (.int .i64 d.pg) (.int .i64 d.ct) (.bool (decide (E = 0)))
  have hqr := HQZ.out
  unfold QV6F at hqr
  have hsw := HSW.out
  refine ⟨ko, kc, vo, vc, rfl, hidden ⟨?_, ?_⟩, hidden (HBZ.out.trans (hcf.below HBZ.out.size (fun i hi e => by omega)))⟩
  · exact World.ownsRow.kept (row := some s) HOZ.out.1 ⟨hcf.os, hcf.tape, hcf.output, hcf.size, fun k hk h => hcf.block k hk (fun e => h (by rw [e]))⟩ (by
      cases e : (Value.slice ko d.key.length kc).ownBlock with
      | none => exact .inl rfl
      | some q =>
        right
        intro e2
        injection e2 with e2
        subst e2
        have h1 := HOZ.out.1
        unfold OwnB at h1
        rcases h1.2 with ⟨h, _⟩ | ⟨q, c', cu, h, _, h2, _⟩
        · rw [h] at e; simp [Value.ownBlock] at e
        · rw [h] at e
          simp [Value.ownBlock] at e
          subst e
          rw [hqr] at h2
          injection h2 with h2
          injection h2 with _ h3
          exact absurd h3 (by decide))
  · exact World.ownsRow.kept (row := some s) HOZ.out.2 ⟨hcf.os, hcf.tape, hcf.output, hcf.size, fun k hk h => hcf.block k hk (fun e => h (by rw [e]))⟩ (by
      cases e : (Value.slice vo d.val.length vc).ownBlock with
      | none => exact .inl rfl
      | some q =>
        right
        intro e2
        injection e2 with e2
        subst e2
        have h1 := HOZ.out.2
        unfold OwnB at h1
        rcases h1.2 with ⟨h, _⟩ | ⟨q, c', cu, h, _, h2, _⟩
        · rw [h] at e; simp [Value.ownBlock] at e
        · rw [h] at e
          simp [Value.ownBlock] at e
          subst e
          rw [hqr] at h2
          injection h2 with h2
          injection h2 with _ h3
          exact absurd h3 (by decide))
end Go.Proofs.YtfcbfombobelmaaGreatDoor

/- Layer 12: pages and cells that are laid: entries, parts, pages, of one leaf. -/

namespace Go.Proofs.YtfcbfombobelmaaGreatDoor
open Go.RowKit

set_option maxRecDepth 100000 in
theorem entries_leaf (w : World) (ao : Option Addr) (n cap : Nat) : Calls Tryz.prog 92 #[.int .i64 2, .slice ao n cap] w fun e w' => e = .returned (.int .i64 (n : Int)) ∧ w' = w := by
  go_enter Tryz.func92, Tryz.ntmps92
  go_wp2
  go_ret
  exact ⟨rfl, rfl⟩
/-- A change in memory: its room, the pages that are gone. -/
def Chg (w : World) (p b : Nat) (vg : Value) : Prop := w.heap[p]? = some (.cells #[iB b, vg] 86 (0, 0))
set_option maxRecDepth 100000 in
theorem Chg.cells {w : World} {p b : Nat} {vg : Value} (h : Chg w p b vg) : w.cell? ⟨p, 0, none⟩ = some (iB b) ∧ w.cell? ⟨p, 1, none⟩ = some vg := by
  unfold Chg at h
  exact ⟨by rw [cell_of_row _ _ 0 _ _ _ h]; rfl, by rw [cell_of_row _ _ 1 _ _ _ h]; rfl⟩
set_option maxRecDepth 100000 in
theorem meth_engine1 (b : Nat) (w : World) : (method 348 25 (pB b) "Engine").run Tryz.prog w = .ok (207, pB b) w := by kernel_rfl
set_option maxRecDepth 100000 in
theorem meth_size1 (b : Nat) (w : World) : (method 348 25 (pB b) "Size").run Tryz.prog w = .ok (211, pB b) w := by kernel_rfl
/-- A part: the cell that leads to a page, and its bytes. -/
def Prt1 (w : World) (g : Nat) (ko : Option Addr) (kn kc : Nat) (pg ct : Int) (gb : Nat) : Prop := w.heap[g]? = some (.cells #[.slice ko kn kc, .int .i64 3, .slice none 0 0, .int .i64 pg, .int .i64 ct, .slice (some ⟨gb, 0, none⟩) 512 512] 125 (0, 0))
set_option maxRecDepth 100000 in
set_option maxHeartbeats 2000000 in
theorem parts_leaf (w : World) (p b m : Nat) (rd : Int) (M : Int → Option Pf) (ct : Nat) (vg : Value) (hc : Chg w p b vg) (hb : Bq w b m rd M ct) (t1 : Tab w) (t2 : 1 < w.heap.size) (ko : Option Addr) (kn kc : Nat) (ao : Option Addr) (n cap : Nat) (cs : List Cl) (hs : SlC w ao n cap cs) (gd : Gd1 cs) (hn : 0 < n) :
    Calls Tryz.prog 69 #[.pointer (some ⟨p, 0, none⟩), .int .i64 2, .slice ko kn kc, .slice ao n cap] w fun e w' => ∃ g gb, e = .returned (.slice (some ⟨g, 0, none⟩) 1 1) ∧ Hid (Prt1 w' g ko kn kc 0 (n : Int) gb ∧ Bk w' gb (pgB 2 512 cs) ∧ w.heap.size ≤ g ∧ w.heap.size ≤ gb) ∧ Hid (Below w.heap.size w w') := by
  have hnI : ¬ (n : Int) = 0 := by omega
  have hn0 : ¬ n = 0 := by omega
  have HC : Hid (∀ z, Chg (w.drewN z) p b vg) := hidden fun z => box_on hc (bl_dr (Below.refl _ _) z)
  have a0 := fun z => (HC.out z).cells.1
  have b0 := hc.cells.1
  have HSZ := hidden (fun z => bsize_any (hb.on (bl_dr (Below.refl _ _) z)))
  have HEN := hidden (fun z => bengine_any (hb.on (bl_dr (Below.refl _ _) z)))
  have m1 := fun u => meth_size1 b u
  have m2 := fun u => meth_engine1 b u
  have HEC : Hid (∀ z, Calls Tryz.prog 91 #[.int .i64 1, .int .i64 2, .slice ao n cap, .int .i64 512] (w.drewN z) fun e w' => ∃ gb, e = .returned (.tuple #[.slice (some ⟨gb, 0, none⟩) 512 512, .int .i64 0]) ∧ Hid (Bk w' gb (pgB 2 512 cs) ∧ w.heap.size ≤ gb ∧ Below w.heap.size w w')) := hidden fun z => by
    have hbz : Below w.heap.size w (w.drewN z) := bl_dr (Below.refl _ _) z
    refine (nenc_1 2 512 ao n cap cs (w.drewN z) (hs.on hbz) (by have := gd.sz; omega) (t1.on hbz t2) (Nat.lt_of_lt_of_le t2 hbz.size)).mono ?_
    rintro e w' ⟨xo, xm, xc, c, rfl, HB, HQ⟩
    obtain ⟨q1, q2⟩ := HQ.out
    have he : encE 2 512 cs = 0 := by unfold encE; rw [if_pos ⟨isKd2, pw512⟩, if_pos gd.chk, if_neg (by have := gd.sz; omega)]
    rw [he] at q1
    subst q1
    rcases q2 with ⟨h, _⟩ | ⟨_, g, rfl, rfl, rfl, h4, h5⟩
    · exact absurd rfl h
    · exact ⟨g, rfl, hidden ⟨h5, Nat.le_trans hbz.size h4, bl_go hbz (Nat.le_refl _) HB.out⟩⟩
  clear hc hb hs gd t1 t2
  go_enter Tryz.func69, Tryz.ntmps69
  go_wp2_with fail
  go_quiet (first | (go_at_call 207; exact Calls.quiet_of_same (HEN.out _)) | (go_at_call 211; exact Calls.quiet_of_same (HSZ.out _)))
  go_wp2_with (first | (go_at_call 91; refine (HEC.out _).mono ?_; rintro e w1 ⟨gb, rfl, HQ1⟩) | (go_at_call 92; refine same_call (entries_leaf _ _ _ _) ?_; refine Hid.out ?_))
  apply hidden
  go_wp2
  go_ret
  obtain ⟨q1, q2, q3⟩ := HQ1.out
  have hb := bl_al (Below.refl _ w1) (Nat.le_refl _) (.cells #[.slice ko kn kc, .int .i64 3, .slice none 0 0, .int .i64 0, .int .i64 (n : Int), .slice (some ⟨gb, 0, none⟩) 512 512] 125)
  exact ⟨w1.heap.size, gb, rfl, hidden ⟨heap_alloc_last w1 _, q1.on hb, q3.size, q2⟩, hidden (bl_go q3 (Nat.le_refl _) hb)⟩
set_option maxRecDepth 100000 in
theorem parts_0 (w : World) (p : Nat) (k : Int) (ko : Option Addr) (kn kc : Nat) (ao : Option Addr) (cap : Nat) : Calls Tryz.prog 69 #[.pointer (some ⟨p, 0, none⟩), .int .i64 k, .slice ko kn kc, .slice ao 0 cap] w fun e w' => e = .returned (.slice none 0 0) ∧ w' = w := by
  go_enter Tryz.func69, Tryz.ntmps69
  go_wp2
  go_ret
  exact ⟨rfl, rfl⟩
end Go.Proofs.YtfcbfombobelmaaGreatDoor

/- Layer 12: the pages that a change writes: a new one. -/

namespace Go.Proofs.YtfcbfombobelmaaGreatDoor
open Go.RowKit

/-- One page's number in a row of its own. -/
def Pg1 (w : World) (B g c : Nat) (r : Int) : Prop := OwnJ w B (.slice (some ⟨g, 0, none⟩) 1 c) [r]
/-- 1 of no slice, 0 of any other. -/
def nilM : Value → Nat
  | .slice none _ _ => 1
  | _ => 0
set_option maxRecDepth 100000 in
set_option maxHeartbeats 2000000 in
theorem pages_new (w : World) (p b m : Nat) (rd : Int) (M : Int → Option Pf) (ct : Nat) (vg : Value) (hc : Chg w p b vg) (hb : Bq w b m rd M ct) (hM : M 2 = none) (hct : ct < 1000000) :
    Calls Tryz.prog 70 #[.pointer (some ⟨p, 0, none⟩), .int .i64 1, .slice none 0 0] w fun e w' => ∃ g c, e = .returned (.slice (some ⟨g, 0, none⟩) 1 c) ∧ Hid (Pg1 w' w.heap.size g c 2 ∧ Cf (Bo b m) w w' ∧ ∃ f : Pf, f.l.length = 512 ∧ w.heap.size ≤ f.g ∧ Bq w' b m rd (putM M 2 f) (ct + 1)) := by
  have b0 := hc.cells.1
  have HAL : Hid (Calls Tryz.prog 206 #[pB b] w fun e u => e = .returned (.tuple #[.int .i64 2, .int .i64 0]) ∧ Hid (Cf (Bo b m) w u ∧ ∃ f : Pf, f.l.length = 512 ∧ w.heap.size ≤ f.g ∧ Bq u b m rd (putM M 2 f) (ct + 1))) := hidden (by
    refine (alloc_yes hb pw512 (by omega) 2 (by omega) (by omega) hM (fun k h1 h2 => by omega) hct).mono ?_
    rintro e u ⟨rfl, HQ⟩
    obtain ⟨f, h1, h2, h3, h4⟩ := HQ.out
    exact ⟨rfl, hidden ⟨h4.wideB (fun x e => .inr e), f, by rw [h1, zs_length]; rfl, h2, h3⟩⟩)
  clear hc hb hM
  go_enter Tryz.func70, Tryz.ntmps70
  go_wp2_with fail
  go_loopw [7, 9, 14] (fun s7 s9 s14 wr => s7 = .slice none 0 0 ∧ s14 = .int .i64 0 ∧ wr = w) (fun _ _ _ _ => 0)
  case atStart => exact ⟨rfl, rfl, by first | rfl | trivial⟩
  case round =>
    obtain ⟨rfl, rfl, rfl⟩ := hrel
    go_wp2_with fail
    go_loopw [7, 10, 11] (fun s7 s10 s11 wx => (s7 = .slice none 0 0 ∧ wx = wr) ∨ (∃ g c, s7 = .slice (some ⟨g, 0, none⟩) 1 c ∧ Hid (Pg1 wx wr.heap.size g c 2 ∧ Cf (Bo b m) wr wx ∧ ∃ f : Pf, f.l.length = 512 ∧ wr.heap.size ≤ f.g ∧ Bq wx b m rd (putM M 2 f) (ct + 1)))) (fun s7 _ _ _ => nilM s7)
    case atStart => exact .inl ⟨rfl, by first | rfl | trivial⟩
    case round =>
      rcases hrel with ⟨rfl, rfl⟩ | ⟨g, c, rfl, HF⟩
      · go_wp2_with (first | (go_at_call 206; refine HAL.out.mono ?_; rintro e w1 ⟨rfl, HQ1⟩) | (go_at_call 29; refine same_call (must_ok _) ?_; refine Hid.out ?_))
        apply hidden
        obtain ⟨u, hu⟩ : ∃ u, w1.alloc (.cells #[.int .i64 2] 3) = u := ⟨_, rfl⟩
        have hbu : Below w1.heap.size w1 u := by rw [← hu]; exact bl_al (Below.refl _ _) (Nat.le_refl _) _
        have hyu : u.cell? ⟨w1.heap.size, 0, none⟩ = some (.int .i64 2) := by rw [← hu]; simp
        have hle : wr.heap.size ≤ u.heap.size := Nat.le_trans HQ1.out.1.size hbu.size
        have HBU := hidden hbu
        clear hbu
        go_wp2_with (at_builtin; refine app_j u rfl _ _ rfl wr.heap.size [] 2 _ w1.heap.size rfl rfl (OwnJ.nil _ _) hyu (by simp) hle ?_; refine Hid.out ?_)
        apply hidden
        intro v' w3 h1 h2
        have hb3 : Below u.heap.size u w3 := (Below.refl _ _).grown h2.grow (Nat.le_refl _) (fun k hk => by cases hk)
        obtain ⟨g, c, rfl⟩ : ∃ g c, v' = .slice (some ⟨g, 0, none⟩) 1 c := by
          unfold OwnJ at h1
          rcases h1.2 with ⟨_, h0⟩ | ⟨q, c', cur, rfl, _⟩
          · cases h0
          · exact ⟨q, c', rfl⟩
        have HFIN : Hid (Pg1 w3 wr.heap.size g c 2 ∧ Cf (Bo b m) wr w3 ∧ ∃ f : Pf, f.l.length = 512 ∧ wr.heap.size ≤ f.g ∧ Bq w3 b m rd (putM M 2 f) (ct + 1)) := hidden (by
          obtain ⟨q1, f, q0, q2, q3⟩ := HQ1.out
          have hb := bl_go HBU.out (Nat.le_refl _) hb3
          exact ⟨h1, q1.go (Cf.of_below hb), f, q0, q2, q3.on hb⟩)
        clear h1 h2 hb3 HBU hyu hle hu HQ1
        go_wp2
        go_roundw
        case rel => exact .inr ⟨g, c, rfl, HFIN⟩
        case measure => simp [nilM]
      · go_wp2
        go_ret
        exact ⟨g, c, rfl, HF⟩
end Go.Proofs.YtfcbfombobelmaaGreatDoor
