import Derived.Test.YtjpmfgoodcldcaaGreatDoorJ17
namespace Go.Proofs.YtjpmfgoodcldcaaGreatDoor
set_option maxRecDepth 100000
open Go.RowKit
structure Rq (w u : World) (a : Nat) (k0 : Int) (n b off cap : Nat) (l : List Int) : Prop where
 row : PR u a k0 n (.slice none 0 0) (.slice none 0 0)
 sl : Sl u (some ⟨b, off, none⟩) n cap l
 be : Below w.heap.size w u
theorem Rq.on {w u v : World} {a : Nat} {k0 : Int} {n b off cap : Nat} {l : List Int} (h : Rq w u a k0 n b off cap l) (hb : Below u.heap.size u v) : Rq w v a k0 n b off cap l := ⟨box_on h.row hb, h.sl.on (Nat.le_refl _) hb, bl_go h.be (Nat.le_refl _) hb⟩
end Go.Proofs.YtjpmfgoodcldcaaGreatDoor

namespace Go.Proofs.YtjpmfgoodcldcaaGreatDoor
set_option maxRecDepth 100000
open Go.RowKit
theorem equal6 (ao bo : Option Addr) (n m c d : Nat) (la lb : List Int) (w : World) (ha : Sl w ao n c la) (hb : Sl w bo m d lb) :
  Calls Tryz.prog 86 #[.slice ao n c, .slice bo m d] w fun e w' => e = .returned (.bool (decide (la = lb))) ∧ w' = w := by
 have h1 := conv_sl ha
 have h2 := conv_sl hb
 have h3 := str_beq ha.wf hb.wf
 clear ha hb
 go_enter Tryz.func86, Tryz.ntmps86
 go_wp2
 go_ret
 exact ⟨rfl, rfl⟩
end Go.Proofs.YtjpmfgoodcldcaaGreatDoor

namespace Go.Proofs.YtjpmfgoodcldcaaGreatDoor
set_option maxRecDepth 100000
open Go.RowKit
theorem bdy_drop (cs : List Cl) (i : Nat) : (bdy cs).drop (bdy (cs.take i)).length = bdy (cs.drop i) := by
 conv => lhs; rw [← List.take_append_drop i cs]
 rw [bdy_append, List.take_append_drop, List.drop_left]
theorem bdy_take_le (cs : List Cl) (i : Nat) : (bdy (cs.take i)).length ≤ (bdy cs).length := by
 conv => rhs; rw [← List.take_append_drop i cs]
 rw [bdy_append, List.length_append]
 omega
set_option maxHeartbeats 1000000 in
theorem view_any (w : World) (a : Nat) (k : Int) (n : Nat) (bo : Option Addr) (bn bc : Nat) (so : Option Addr) (sn sc : Nat) (cs : List Cl) (h : PgAt w a k n bo bn bc so sn sc cs) (hfit : ∀ c ∈ cs, c.fit) (i : Nat) (hi : i < cs.length) (c : Cl) (hci : cs[i]? = some c) (hsz : bn ≤ 65536) :
  Calls Tryz.prog 82 #[.pointer (some ⟨a, 0, none⟩), .int .i64 (i : Int)] w fun e w' => ∃ ko kn kc vo vn vc, e = .returned (.agg #[.slice ko kn kc, .int .i64 c.kd, .slice vo vn vc, .int .i64 c.pg, .int .i64 c.ct]) ∧ Hid (Sl w' ko kn kc c.key) ∧ Hid (Sl w' vo vn vc c.val) ∧ Hid (Below w.heap.size w w') := by
 obtain ⟨hsn, hbn⟩ := h.sn_eq
 obtain ⟨c0, c1, c2, c3⟩ := h.cells
 have hcd : cs.drop i = c :: cs.drop (i + 1) := by
  rw [List.drop_eq_getElem_cons hi]
  congr 1
  rw [List.getElem?_eq_getElem hi] at hci
  exact Option.some.inj hci
 have hcf := hfit c (List.mem_of_getElem? hci)
 have hpc : pCell ((bdy cs).drop (bdy (cs.take i)).length) = some (c, bdy (cs.drop (i + 1))) := by
  rw [bdy_drop, hcd, bdy_cons, pCell_mid c _ hcf]
 have hlt : 0 < bn := by
  have h1 := congrArg List.length (bdy_drop cs i)
  rw [hcd, bdy_cons, List.length_drop, List.length_append] at h1
  have h2 := cB_length c
  have h3 : 2 < ctk c := by unfold ctk; split <;> omega
  omega
 obtain ⟨gb, off, rfl⟩ : ∃ gb off, bo = some ⟨gb, off, none⟩ := by
  rcases h.body.hat with h0 | ⟨b, off, e, _⟩
  ·omega
  ·exact ⟨b, off, e⟩
 obtain ⟨gs, offs, rfl, hgs, hcs⟩ : ∃ b off, so = some ⟨b, off, none⟩ ∧ b < w.heap.size ∧ ∀ j, j < sn → w.cell? ⟨b, off + j, none⟩ = some (.int .i64 (((sts 0 cs).getD j 0 : Nat) : Int)) := by
  rcases h.starts.hat with h0 | h0
  ·omega
  ·exact h0
 have cj := hcs i (by omega)
 rw [sts_get 0 i cs hi, Nat.zero_add] at cj
 have hst := bdy_take_le cs i
 obtain ⟨st, hste⟩ : ∃ st, (bdy (cs.take i)).length = st := ⟨_, rfl⟩
 rw [hste] at cj hpc hst
 have HPC := hidden hpc
 have HSL := hidden h.body
 have HPG := hidden h
 have i0 : (i : Int) < (sn : Int) := by omega
 have i1 : i < sn := by omega
 have hstb : st ≤ bn := by omega
 have HWF := hidden h.body.wf
 have hbx : ∀ o, Below w.heap.size w (w.alloc o) := fun o => bl_al (Below.refl _ _) (Nat.le_refl _) _
 have hbxx : ∀ o o', Below w.heap.size w ((w.alloc o).alloc o') := fun o o' => bl_al (hbx o) (Nat.le_refl _) _
 have HBXX := hidden hbxx
 have d2 := fun o => (h.on (hbx o)).cells.2.2.1
 have d3 := fun o => (h.on (hbx o)).cells.2.2.2
 have e2 := fun o o' => (h.on (hbxx o o')).cells.2.2.1
 have e3 := fun o o' => (h.on (hbxx o o')).cells.2.2.2
 have dj := fun o => ((hbx o).cell (p := ⟨gs, offs + i, none⟩) hgs).trans cj
 have ej := fun o o' => ((hbxx o o').cell (p := ⟨gs, offs + i, none⟩) hgs).trans cj
 have HSN := hidden hsn
 have HBN := hidden hbn
 clear h hpc hcs hcd hste hcf hfit hbx hbxx hsn hbn hci hi
 go_enter Tryz.func82, Tryz.ntmps82
 go_wp2_with fail
 go_region
 obtain ⟨g4, hg4⟩ : ∃ g4, w.heap.size = g4 := ⟨_, rfl⟩
 obtain ⟨x, hx⟩ : ∃ x, ((w.alloc (.cells #[.slice none 0 0, .int .i64 0, .slice none 0 0, .int .i64 0, .int .i64 0] 32)).alloc (.cells #[.slice (some ⟨gb, off, none⟩) bn bc, .int .i64 (st : Int), .bool false] 136)).drew = x := ⟨_, rfl⟩
 have hbx : Below w.heap.size w x := by rw [← hx]; exact (HBXX.out _ _).drew
 have HRD : Hid (Rd x (g4 + 1) (some ⟨gb, off, none⟩) bn bc st false) := by
  rw [← hx, ← hg4]
  have hz : (w.alloc (.cells #[.slice none 0 0, .int .i64 0, .slice none 0 0, .int .i64 0, .int .i64 0] 32)).heap.size = w.heap.size + 1 := by simp
  have := heap_alloc_last (w.alloc (.cells #[.slice none 0 0, .int .i64 0, .slice none 0 0, .int .i64 0, .int .i64 0] 32)) (.cells #[.slice (some ⟨gb, off, none⟩) bn bc, .int .i64 (st : Int), .bool false] 136)
  rw [hz] at this
  exact hidden this
 have HC4 : Hid (C5 x g4 (.slice none 0 0) (.int .i64 0) (.slice none 0 0) (.int .i64 0) (.int .i64 0)) := by
  rw [← hx, ← hg4]
  exact hidden ((Below.heap_alloc _ _ _ (by simp)).trans (heap_alloc_last w _))
 have HSX : Hid (Sl x (some ⟨gb, off, none⟩) bn bc (bdy cs)) := hidden (HSL.out.on (Nat.le_refl _) hbx)
 have HBX := hidden hbx
 rw [hx, hg4]
 have HCL := hidden (cell_any (bdy cs) x (g4 + 1) gb off bn bc st false HRD.out HSX.out hstb)
 have HG4 := hidden hg4
 clear hx hbx c0 c1 c2 c3 cj d2 d3 e2 e3 dj ej hg4
 go_wp2_with (first | (go_at_call 110; refine HCL.out.mono ?_; rintro e w2 ⟨ko, kn, kc, kd, vo, vn, vc, pg, ct, q, en, key, val, rfl, HR2, HCF, HQ⟩; refine Hid.out ?_))
 apply hidden
 obtain ⟨hks, hvs, _, _, hcase⟩ := HQ.out
 rw [HPC.out] at hcase
 rcases hcase with ⟨hcase, _⟩ | ⟨hcase, _⟩
 ·injection hcase with hcase
  injection hcase with hc1 hc2
  subst hc1
  have HKS := hidden hks
  have HVS := hidden hvs
  have HC42 : Hid (C5 w2 g4 (.slice none 0 0) (.int .i64 0) (.slice none 0 0) (.int .i64 0) (.int .i64 0)) := hidden (HC4.out.cf HCF.out (by omega))
  obtain ⟨b0, b1, b2, b3, b4⟩ := HC42.out.cells
  obtain ⟨f0, f1, f2, f3, f4⟩ := HC42.out.free
  have HBE : Hid (Below w.heap.size w w2) := hidden (HBX.out.trans (HCF.out.below HBX.out.size (by have := HG4.out; intro i hi e; omega)))
  clear HQ hks hvs hc2 HCL HCF HR2 HRD HSX HC4 HBX HBXX
  go_wp2
  refine bodyPost_ret (results_cell_row rfl _ _ g4 32 #[.slice ko kn kc, .int .i64 kd, .slice vo vn vc, .int .i64 pg, .int .i64 ct] (0, 0) _ (by rfl) (HC42.out.put _ _ _ _ _) Tryz.underlying32 rfl sizeCell) rfl ?_
  have hf := put5_cf w2 g4 (.slice ko kn kc) (.int .i64 kd) (.slice vo vn vc) (.int .i64 pg) (.int .i64 ct)
  exact ⟨ko, kn, kc, vo, vn, vc, rfl, hidden (HKS.out.cf hf (HKS.out.apart5 HC42.out)), hidden (HVS.out.cf hf (HVS.out.apart5 HC42.out)), hidden (HBE.out.trans (hf.below HBE.out.size (by have := HG4.out; intro i hi e; omega)))⟩
 ·cases hcase
end Go.Proofs.YtjpmfgoodcldcaaGreatDoor
