/- plain.read: what it reads of bytes. -/
import Derived.Test.YtfcbfombobelmaaGreatDoorJ18
namespace Go.Proofs.YtfcbfombobelmaaGreatDoor
open Go.RowKit

/-- What read comes to. -/
def ReadTo (l : List Int) (w : World) (e : Ending) (w' : World) : Prop :=
  ∃ po, e = .returned (.pointer po) ∧ Hid (Below w.heap.size w w') ∧ Hid ((po = none ∧ readM l = none) ∨ ∃ a bo bn bc so sn sc cs, po = some ⟨a, 0, none⟩ ∧ w.heap.size ≤ a ∧ readM l = some cs ∧ PgAt w' a (l.getD 0 0) l.length bo bn bc so sn sc cs)
set_option maxRecDepth 100000 in
theorem ReadTo.no {l : List Int} {w w' : World} (hb : Below w.heap.size w w') (h : readM l = none) : ReadTo l w (.returned (.pointer none)) w' := ⟨none, rfl, hidden hb, hidden (.inl ⟨rfl, h⟩)⟩
/-- read, ahead of the body. -/
structure Rq (w u : World) (a : Nat) (k0 : Int) (n b off cap : Nat) (l : List Int) : Prop where
  row : PR u a k0 n (.slice none 0 0) (.slice none 0 0)
  sl : Sl u (some ⟨b, off, none⟩) n cap l
  be : Below w.heap.size w u
set_option maxRecDepth 100000 in
theorem Rq.on {w u v : World} {a : Nat} {k0 : Int} {n b off cap : Nat} {l : List Int} (h : Rq w u a k0 n b off cap l) (hb : Below u.heap.size u v) : Rq w v a k0 n b off cap l := ⟨box_on h.row hb, h.sl.on (Nat.le_refl _) hb, bl_go h.be (Nat.le_refl _) hb⟩
end Go.Proofs.YtfcbfombobelmaaGreatDoor

/- plain.Open and plain.New. -/

namespace Go.Proofs.YtfcbfombobelmaaGreatDoor
open Go.RowKit

set_option maxRecDepth 100000 in
theorem equal6 (ao bo : Option Addr) (n m c d : Nat) (la lb : List Int) (w : World) (ha : Sl w ao n c la) (hb : Sl w bo m d lb) :
    Calls Tryz.prog 38 #[.slice ao n c, .slice bo m d] w fun e w' => e = .returned (.bool (decide (la = lb))) ∧ w' = w := by
  have h1 := conv_sl ha
  have h2 := conv_sl hb
  have h3 := str_beq ha.wf hb.wf
  clear ha hb
  go_enter Tryz.func38, Tryz.ntmps38
  go_wp2
  go_ret
  exact ⟨rfl, rfl⟩
/-- What New comes to. -/
def NewTo (k n : Int) (w : World) (e : Ending) (w' : World) : Prop :=
  ∃ po c, e = .returned (.tuple #[.pointer po, .int .i64 c]) ∧ Hid (Below w.heap.size w w') ∧ Hid ((po = none ∧ c = 1 ∧ ¬ (isKd k ∧ pw n)) ∨ (po = some ⟨w.heap.size, 0, none⟩ ∧ c = 0 ∧ isKd k ∧ pw n ∧ w'.heap[w.heap.size]? = some (.cells #[.int .i64 k, .int .i64 n, .slice none 0 0, .slice none 0 0] 158 (0, 0))))
set_option maxRecDepth 100000 in
theorem new_any (k n : Int) (w : World) : Calls Tryz.prog 80 #[.int .i64 k, .int .i64 n] w fun e w' => NewTo k n w e w' := by
  cases h1 : decide (isKd k) with
  | false =>
    have hk : ¬ isKd k := by simpa using h1
    go_enter Tryz.func80, Tryz.ntmps80
    go_wp2_with (first | (go_at_call 106; refine same_call (isKind_any _ _) ?_; rw [h1]))
    go_ret2
    exact ⟨none, 1, rfl, Below.refl _ _, .inl ⟨rfl, rfl, fun h => hk h.1⟩⟩
  | true =>
    have hk : isKd k := by simpa using h1
    cases h2 : decide (pw n) with
    | false =>
      have hn : ¬ pw n := by simpa using h2
      have HN := hidden hn
      have HK := hidden hk
      clear hn hk
      go_enter Tryz.func80, Tryz.ntmps80
      go_wp2_with (first | (go_at_call 106; refine same_call (isKind_any _ _) ?_; rw [h1]) | (go_at_call 54; refine same_call (isSize_any _ _) ?_; rw [h2]))
      go_ret2
      exact ⟨none, 1, rfl, Below.refl _ _, .inl ⟨rfl, rfl, fun h => HN.out h.2⟩⟩
    | true =>
      have hn : pw n := by simpa using h2
      have HN := hidden hn
      have HK := hidden hk
      clear hn hk
      go_enter Tryz.func80, Tryz.ntmps80
      go_wp2_with (first | (go_at_call 106; refine same_call (isKind_any _ _) ?_; rw [h1]) | (go_at_call 54; refine same_call (isSize_any _ _) ?_; rw [h2]))
      go_ret2
      exact ⟨_, 0, rfl, (Below.refl _ _).alloc (Nat.le_refl _) _, .inr ⟨rfl, rfl, HK.out, HN.out, heap_alloc_last w _⟩⟩
end Go.Proofs.YtfcbfombobelmaaGreatDoor

/- plain.Page.view: a cell of a page. -/

namespace Go.Proofs.YtfcbfombobelmaaGreatDoor
open Go.RowKit

set_option maxRecDepth 100000 in
theorem bdy_drop (cs : List Cl) (i : Nat) : (bdy cs).drop (bdy (cs.take i)).length = bdy (cs.drop i) := by
  conv => lhs; rw [← List.take_append_drop i cs]
  rw [bdy_append, List.take_append_drop, List.drop_left]
set_option maxRecDepth 100000 in
theorem bdy_take_le (cs : List Cl) (i : Nat) : (bdy (cs.take i)).length ≤ (bdy cs).length := by
  conv => rhs; rw [← List.take_append_drop i cs]
  rw [bdy_append, List.length_append]
  omega
set_option maxRecDepth 100000 in
set_option maxHeartbeats 1000000 in
theorem view_any (w : World) (a : Nat) (k : Int) (n : Nat) (bo : Option Addr) (bn bc : Nat) (so : Option Addr) (sn sc : Nat) (cs : List Cl) (h : PgAt w a k n bo bn bc so sn sc cs) (hfit : ∀ c ∈ cs, c.fit) (i : Nat) (hi : i < cs.length) (c : Cl) (hci : cs[i]? = some c) (hsz : bn ≤ 65536) :
    Calls Tryz.prog 105 #[.pointer (some ⟨a, 0, none⟩), .int .i64 (i : Int)] w fun e w' => ∃ ko kn kc vo vn vc, e = .returned (.agg #[.slice ko kn kc, .int .i64 c.kd, .slice vo vn vc, .int .i64 c.pg, .int .i64 c.ct]) ∧ Hid (Sl w' ko kn kc c.key) ∧ Hid (Sl w' vo vn vc c.val) ∧ Hid (Below w.heap.size w w') := by
  obtain ⟨hsn, hbn⟩ := h.sn_eq
  obtain ⟨c0, c1, c2, c3⟩ := h.cells
  have hcd : cs.drop i = c :: cs.drop (i + 1) := by
    rw [List.drop_eq_getElem_cons hi]
    congr 1
    rw [List.getElem?_eq_getElem hi] at hci
    exact Option.some.inj hci
  have hcf := hfit c (List.mem_of_getElem? hci)
  have hpc : pCell ((bdy cs).drop (bdy (cs.take i)).length) = some (c, bdy (cs.drop (i + 1))) := by
    rw [bdy_drop, hcd, bdy_cons, pCell_mid c _ hcf]
  have hlt : 0 < bn := by
    have h1 := congrArg List.length (bdy_drop cs i)
    rw [hcd, bdy_cons, List.length_drop, List.length_append] at h1
    have h2 := cB_length c
    have h3 : 2 < ctk c := by unfold ctk; split <;> omega
    omega
  obtain ⟨gb, off, rfl⟩ : ∃ gb off, bo = some ⟨gb, off, none⟩ := by
    rcases h.body.hat with h0 | ⟨b, off, e, _⟩
    · omega
    · exact ⟨b, off, e⟩
  obtain ⟨gs, offs, rfl, hgs, hcs⟩ : ∃ b off, so = some ⟨b, off, none⟩ ∧ b < w.heap.size ∧ ∀ j, j < sn → w.cell? ⟨b, off + j, none⟩ = some (.int .i64 (((sts 0 cs).getD j 0 : Nat) : Int)) := by
    rcases h.starts.hat with h0 | h0
    · omega
    · exact h0
  have cj := hcs i (by omega)
  rw [sts_get 0 i cs hi, Nat.zero_add] at cj
  have hst := bdy_take_le cs i
  obtain ⟨st, hste⟩ : ∃ st, (bdy (cs.take i)).length = st := ⟨_, rfl⟩
  rw [hste] at cj hpc hst
  have HPC := hidden hpc
  have HSL := hidden h.body
  have HPG := hidden h
  have i0 : (i : Int) < (sn : Int) := by omega
  have i1 : i < sn := by omega
  have hstb : st ≤ bn := by omega
  have HWF := hidden h.body.wf
  have hbx : ∀ o, Below w.heap.size w (w.alloc o) := fun o => bl_al (Below.refl _ _) (Nat.le_refl _) _
  have hbxx : ∀ o o', Below w.heap.size w ((w.alloc o).alloc o') := fun o o' => bl_al (hbx o) (Nat.le_refl _) _
  have HBXX := hidden hbxx
  have d2 := fun o => (h.on (hbx o)).cells.2.2.1
  have d3 := fun o => (h.on (hbx o)).cells.2.2.2
  have e2 := fun o o' => (h.on (hbxx o o')).cells.2.2.1
  have e3 := fun o o' => (h.on (hbxx o o')).cells.2.2.2
  have dj := fun o => ((hbx o).cell (p := ⟨gs, offs + i, none⟩) hgs).trans cj
  have ej := fun o o' => ((hbxx o o').cell (p := ⟨gs, offs + i, none⟩) hgs).trans cj
  have HSN := hidden hsn
  have HBN := hidden hbn
  clear h hpc hcs hcd hste hcf hfit hbx hbxx hsn hbn hci hi
  go_enter Tryz.func105, Tryz.ntmps105
  go_wp2_with fail
  go_region
  obtain ⟨g4, hg4⟩ : ∃ g4, w.heap.size = g4 := ⟨_, rfl⟩
  obtain ⟨x, hx⟩ : ∃ x, ((w.alloc (.cells #[.slice none 0 0, .int .i64 0, .slice none 0 0, .int .i64 0, .int .i64 0] 29)).alloc (.cells #[.slice (some ⟨gb, off, none⟩) bn bc, .int .i64 (st : Int), .bool false] 187)).drew = x := ⟨_, rfl⟩
  have hbx : Below w.heap.size w x := by rw [← hx]; exact (HBXX.out _ _).drew
  have HRD : Hid (Rd x (g4 + 1) (some ⟨gb, off, none⟩) bn bc st false) := by
    rw [← hx, ← hg4]
    have hz : (w.alloc (.cells #[.slice none 0 0, .int .i64 0, .slice none 0 0, .int .i64 0, .int .i64 0] 29)).heap.size = w.heap.size + 1 := by simp
    have := heap_alloc_last (w.alloc (.cells #[.slice none 0 0, .int .i64 0, .slice none 0 0, .int .i64 0, .int .i64 0] 29)) (.cells #[.slice (some ⟨gb, off, none⟩) bn bc, .int .i64 (st : Int), .bool false] 187)
    rw [hz] at this
    exact hidden this
  have HC4 : Hid (C5 x g4 (.slice none 0 0) (.int .i64 0) (.slice none 0 0) (.int .i64 0) (.int .i64 0)) := by
    rw [← hx, ← hg4]
    exact hidden ((Below.heap_alloc _ _ _ (by simp)).trans (heap_alloc_last w _))
  have HSX : Hid (Sl x (some ⟨gb, off, none⟩) bn bc (bdy cs)) := hidden (HSL.out.on (Nat.le_refl _) hbx)
  have HBX := hidden hbx
  rw [hx, hg4]
  have HCL := hidden (cell_any (bdy cs) x (g4 + 1) gb off bn bc st false HRD.out HSX.out hstb)
  have HG4 := hidden hg4
  clear hx hbx c0 c1 c2 c3 cj d2 d3 e2 e3 dj ej hg4
  go_wp2_with (first | (go_at_call 140; refine HCL.out.mono ?_; rintro e w2 ⟨ko, kn, kc, kd, vo, vn, vc, pg, ct, q, en, key, val, rfl, HR2, HCF, HQ⟩; refine Hid.out ?_))
  apply hidden
  obtain ⟨hks, hvs, _, _, hcase⟩ := HQ.out
  rw [HPC.out] at hcase
  rcases hcase with ⟨hcase, _⟩ | ⟨hcase, _⟩
  · injection hcase with hcase
    injection hcase with hc1 hc2
    subst hc1
    have HKS := hidden hks
    have HVS := hidden hvs
    have HC42 : Hid (C5 w2 g4 (.slice none 0 0) (.int .i64 0) (.slice none 0 0) (.int .i64 0) (.int .i64 0)) := hidden (HC4.out.cf HCF.out (by omega))
    obtain ⟨b0, b1, b2, b3, b4⟩ := HC42.out.cells
    obtain ⟨f0, f1, f2, f3, f4⟩ := HC42.out.free
    have HBE : Hid (Below w.heap.size w w2) := hidden (HBX.out.trans (HCF.out.below HBX.out.size (by have := HG4.out; intro i hi e; omega)))
    clear HQ hks hvs hc2 HCL HCF HR2 HRD HSX HC4 HBX HBXX
    go_wp2
    refine bodyPost_ret (results_cell_row rfl _ _ g4 29 #[.slice ko kn kc, .int .i64 kd, .slice vo vn vc, .int .i64 pg, .int .i64 ct] (0, 0) _ (by rfl) (HC42.out.put _ _ _ _ _) Tryz.underlying29 rfl sizeCell) rfl ?_
    have hf := put5_cf w2 g4 (.slice ko kn kc) (.int .i64 kd) (.slice vo vn vc) (.int .i64 pg) (.int .i64 ct)
    exact ⟨ko, kn, kc, vo, vn, vc, rfl, hidden (HKS.out.cf hf (HKS.out.apart5 HC42.out)), hidden (HVS.out.cf hf (HVS.out.apart5 HC42.out)), hidden (HBE.out.trans (hf.below HBE.out.size (by have := HG4.out; intro i hi e; omega)))⟩
  · cases hcase
end Go.Proofs.YtfcbfombobelmaaGreatDoor

/- plain.copied: a cell in memory of its own. -/

namespace Go.Proofs.YtfcbfombobelmaaGreatDoor
open Go.RowKit

/-- What copied comes to. -/
def CopTo (key val : List Int) (kn : Nat) (kd : Int) (vn : Nat) (pg ct : Int) (w : World) (e : Ending) (w' : World) : Prop :=
  ∃ g1 g2, e = .returned (.agg #[.slice (some ⟨g1, 0, none⟩) kn kn, .int .i64 kd, .slice (some ⟨g2, 0, none⟩) vn vn, .int .i64 pg, .int .i64 ct]) ∧ Hid (Bk w' g1 key ∧ Bk w' g2 val ∧ w.heap.size ≤ g1 ∧ w.heap.size ≤ g2 ∧ g1 ≠ g2) ∧ Hid (Below w.heap.size w w')
set_option maxRecDepth 100000 in
theorem Bk.apart5 {w : World} {g h : Nat} {l : List Int} {x0 x1 x2 x3 x4 : Value} (hb : Bk w g l) (hc : C5 w h x0 x1 x2 x3 x4) : ¬ g = h := by
  rintro rfl
  unfold Bk at hb
  unfold C5 at hc
  rw [hb] at hc
  simp at hc
set_option maxRecDepth 100000 in
set_option maxHeartbeats 1000000 in
theorem copied_any (ka : Option Addr) (kn kc : Nat) (kd : Int) (va : Option Addr) (vn vc : Nat) (pg ct : Int) (key val : List Int) (w : World) (hk : Sl w ka kn kc key) (hv : Sl w va vn vc val) :
    Calls Tryz.prog 104 #[.agg #[.slice ka kn kc, .int .i64 kd, .slice va vn vc, .int .i64 pg, .int .i64 ct]] w fun e w' => CopTo key val kn kd vn pg ct w e w' := by
  obtain ⟨s, hs⟩ : ∃ s, w.heap.size = s := ⟨_, rfl⟩
  obtain ⟨x, hx⟩ : ∃ x, (w.alloc (.cells #[.slice ka kn kc, .int .i64 kd, .slice va vn vc, .int .i64 pg, .int .i64 ct] 29)).alloc (.cells #[.slice none 0 0, .int .i64 0, .slice none 0 0, .int .i64 0, .int .i64 0] 29) = x := ⟨_, rfl⟩
  have hbx : Below w.heap.size w x := by rw [← hx]; exact bl_al (bl_al (Below.refl _ _) (Nat.le_refl _) _) (Nat.le_refl _) _
  have HBOX : Hid (C5 x s (.slice ka kn kc) (.int .i64 kd) (.slice va vn vc) (.int .i64 pg) (.int .i64 ct)) := by
    rw [← hx, ← hs]
    exact hidden ((Below.heap_alloc _ _ _ (by simp)).trans (heap_alloc_last w _))
  have HRES : Hid (C5 x (s + 1) (.slice none 0 0) (.int .i64 0) (.slice none 0 0) (.int .i64 0) (.int .i64 0)) := by
    rw [← hx, ← hs]
    have hz : (w.alloc (.cells #[.slice ka kn kc, .int .i64 kd, .slice va vn vc, .int .i64 pg, .int .i64 ct] 29)).heap.size = w.heap.size + 1 := by simp
    have := heap_alloc_last (w.alloc (.cells #[.slice ka kn kc, .int .i64 kd, .slice va vn vc, .int .i64 pg, .int .i64 ct] 29)) (.cells #[.slice none 0 0, .int .i64 0, .slice none 0 0, .int .i64 0, .int .i64 0] 29)
    rw [hz] at this
    exact hidden this
  have HK := hidden (hk.on (Nat.le_refl _) hbx)
  have HV := hidden (hv.on (Nat.le_refl _) hbx)
  have HBX := hidden hbx
  have hxs : x.heap.size = s + 2 := by rw [← hx, ← hs]; simp
  have HXS := hidden hxs
  have C1 : Hid (∀ u, Below x.heap.size x u → Calls Tryz.prog 139 #[.slice ka kn kc] u fun e u' => ∃ g, e = .returned (.slice (some ⟨g, 0, none⟩) kn kn) ∧ Hid (Bk u' g key ∧ x.heap.size ≤ g) ∧ Hid (Below x.heap.size x u') ∧ (u'.cell? ⟨s, 0, none⟩ = some (.slice ka kn kc) ∧ u'.cell? ⟨s, 1, none⟩ = some (.int .i64 kd) ∧ u'.cell? ⟨s, 2, none⟩ = some (.slice va vn vc) ∧ u'.cell? ⟨s, 3, none⟩ = some (.int .i64 pg) ∧ u'.cell? ⟨s, 4, none⟩ = some (.int .i64 ct))) := by
    refine hidden fun u hu => (copiedBytes_any ka kn kc key u (HK.out.on (Nat.le_refl _) hu)).mono ?_
    rintro e u' ⟨rfl, hb, hbe⟩
    have hb2 := bl_go hu (Nat.le_refl _) hbe.out
    exact ⟨u.heap.size, rfl, hidden ⟨hb.out, hu.size⟩, hidden hb2, (show C5 u' s (.slice ka kn kc) (.int .i64 kd) (.slice va vn vc) (.int .i64 pg) (.int .i64 ct) from box_on HBOX.out hb2).cells⟩
  have C2 : Hid (∀ u g1, Hid (Bk u g1 key ∧ x.heap.size ≤ g1) → Hid (Below x.heap.size x u) → Calls Tryz.prog 139 #[.slice va vn vc] u fun e u' => ∃ g, e = .returned (.slice (some ⟨g, 0, none⟩) vn vn) ∧ Hid (Bk u' g val ∧ Bk u' g1 key ∧ x.heap.size ≤ g ∧ x.heap.size ≤ g1 ∧ g1 ≠ g) ∧ Hid (Below x.heap.size x u') ∧ (u'.cell? ⟨s, 0, none⟩ = some (.slice ka kn kc) ∧ u'.cell? ⟨s, 1, none⟩ = some (.int .i64 kd) ∧ u'.cell? ⟨s, 2, none⟩ = some (.slice va vn vc) ∧ u'.cell? ⟨s, 3, none⟩ = some (.int .i64 pg) ∧ u'.cell? ⟨s, 4, none⟩ = some (.int .i64 ct)) ∧ (u'.frozen? ⟨s, 0, none⟩ = false ∧ u'.frozen? ⟨s, 1, none⟩ = false ∧ u'.frozen? ⟨s, 2, none⟩ = false ∧ u'.frozen? ⟨s, 3, none⟩ = false ∧ u'.frozen? ⟨s, 4, none⟩ = false)) := by
    refine hidden fun u g1 hg hu => (copiedBytes_any va vn vc val u (HV.out.on (Nat.le_refl _) hu.out)).mono ?_
    rintro e u' ⟨rfl, hb, hbe⟩
    have hb2 := bl_go hu.out (Nat.le_refl _) hbe.out
    have h5 : C5 u' s (.slice ka kn kc) (.int .i64 kd) (.slice va vn vc) (.int .i64 pg) (.int .i64 ct) := box_on HBOX.out hb2
    exact ⟨u.heap.size, rfl, hidden ⟨hb.out, hg.out.1.on hbe.out, hu.out.size, hg.out.2, Nat.ne_of_lt (lt_some hg.out.1)⟩, hidden hb2, h5.cells, h5.free⟩
  obtain ⟨c0, c1, c2, c3, c4⟩ := HBOX.out.cells
  clear hk hv hbx hxs
  go_enter Tryz.func104, Tryz.ntmps104
  go_wp2_with fail
  go_region_law (first
    | (go_simp; go_at_call 139; refine (C2.out _ g1 HG1 HB1).mono ?_; rintro e u2 ⟨g2, rfl, HG2, HB2, ⟨z0, z1, z2, z3, z4⟩, f0, f1, f2, f3, f4⟩)
    | (go_simp; go_at_call 139; refine (C1.out _ (by first | exact Below.refl _ _ | exact (Below.refl _ _).drew | exact bl_dr (Below.refl _ _) _)).mono ?_; rintro e u1 ⟨g1, rfl, HG1, HB1, y0, y1, y2, y3, y4⟩))
  all_goals
    obtain ⟨y, hy⟩ : ∃ y, (u2.setCell ⟨s, 0, none⟩ (.slice (some ⟨g1, 0, none⟩) kn kn)).setCell ⟨s, 2, none⟩ (.slice (some ⟨g2, 0, none⟩) vn vn) = y := ⟨_, rfl⟩
    have hbox2 : C5 u2 s (.slice ka kn kc) (.int .i64 kd) (.slice va vn vc) (.int .i64 pg) (.int .i64 ct) := box_on HBOX.out HB2.out
    have hres2 : C5 u2 (s + 1) (.slice none 0 0) (.int .i64 0) (.slice none 0 0) (.int .i64 0) (.int .i64 0) := box_on HRES.out HB2.out
    have hcy : Cf (· = s) u2 y := by rw [← hy]; exact (Cf.set _ _ _ _).go (Cf.set _ _ _ _)
    have HBY : Hid (C5 y s (.slice (some ⟨g1, 0, none⟩) kn kn) (.int .i64 kd) (.slice (some ⟨g2, 0, none⟩) vn vn) (.int .i64 pg) (.int .i64 ct)) := by
      rw [← hy]
      exact hidden ((hbox2.set _).1.set _).2.2.1
    have HRY : Hid (C5 y (s + 1) (.slice none 0 0) (.int .i64 0) (.slice none 0 0) (.int .i64 0) (.int .i64 0)) := hidden (hres2.cf hcy (by omega))
    have HG1Y : Hid (Bk y g1 key) := hidden (HG2.out.2.1.cf hcy (HG2.out.2.1.apart5 hbox2))
    have HG2Y : Hid (Bk y g2 val) := hidden (HG2.out.1.cf hcy (HG2.out.1.apart5 hbox2))
    have HBEY : Hid (Below w.heap.size w y) := hidden ((HBX.out.trans (HB2.out.mono (HBX.out.size))).trans (hcy.below (Nat.le_trans HBX.out.size HB2.out.size) (by intro i hi e; omega)))
    rw [hy]
    clear hy hcy hbox2 hres2 y0 y1 y2 y3 y4 z0 z1 z2 z3 z4 f0 f1 f2 f3 f4 c0 c1 c2 c3 c4
    obtain ⟨c0, c1, c2, c3, c4⟩ := HBY.out.cells
    obtain ⟨b0, b1, b2, b3, b4⟩ := HRY.out.cells
    obtain ⟨f0, f1, f2, f3, f4⟩ := HRY.out.free
    go_wp2
    refine bodyPost_ret (results_cell_row rfl _ _ (s + 1) 29 #[.slice (some ⟨g1, 0, none⟩) kn kn, .int .i64 kd, .slice (some ⟨g2, 0, none⟩) vn vn, .int .i64 pg, .int .i64 ct] (0, 0) _ (by rfl) (HRY.out.put _ _ _ _ _) Tryz.underlying29 rfl sizeCell) rfl ?_
    have hf := put5_cf y (s + 1) (.slice (some ⟨g1, 0, none⟩) kn kn) (.int .i64 kd) (.slice (some ⟨g2, 0, none⟩) vn vn) (.int .i64 pg) (.int .i64 ct)
    obtain ⟨_, _, q3, q4, q5⟩ := HG2.out
    have := HXS.out
    exact ⟨g1, g2, rfl, hidden ⟨HG1Y.out.cf hf (HG1Y.out.apart5 HRY.out), HG2Y.out.cf hf (HG2Y.out.apart5 HRY.out), by omega, by omega, q5⟩, hidden (HBEY.out.trans (hf.below HBEY.out.size (by intro i hi e; omega)))⟩
end Go.Proofs.YtfcbfombobelmaaGreatDoor
