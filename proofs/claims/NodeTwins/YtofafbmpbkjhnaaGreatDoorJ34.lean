import Derived.Test.YtofafbmpbkjhnaaGreatDoorJ24
import Derived.BigQuiet
namespace Go.Proofs.YtofafbmpbkjhnaaGreatDoor
set_option maxRecDepth 100000
open Go.RowKit
set_option maxHeartbeats 2000000 in
theorem takenQ_any (w : World) (a : Nat) (k : Int) (n : Nat) (po : Option Addr) (pn pc : Nat) (bo : Option Addr) (bn bc : Nat) (so : Option Addr) (sn sc : Nat) (ws : Int) (P body : List Int) (st : List Nat) (cs : List Cl) (h : PgQ w a k n po pn pc bo bn bc so sn sc ws P body st) (hl : LayQ k P cs body st) (i : Nat) (c : Cl) (hci : cs[i]? = some c) (hbn : bn ≤ 65536) (T : Nat) (hT : (qB (if k = 3 ∧ i = 0 then 0 else P.length) c).length = T) :
  Calls Tryz.prog 284 #[.pointer (some ⟨a, 0, none⟩), .int .i64 (i : Int)] w fun e w' => e = .returned (.int .i64 (T : Int)) ∧ Hid (Below w.heap.size w w') := by
 obtain ⟨c0, c1, c2, c3, c4, c5⟩ := h.cells
 have hcf := hl.fit c (List.mem_of_getElem? hci)
 obtain ⟨r, hat⟩ := hl.at_ i c hci
 have hil : i < sn := by
  have := (zH.1 hci).1
  have := hl.len
  have := h.starts.hlen
  omega
 obtain ⟨m, hm⟩ : ∃ m, (if k = 3 ∧ i = 0 then 0 else P.length) = m := ⟨_, rfl⟩
 rw [hm] at hat hT
 have hpc : pC (body.drop (st.getD i 0)) = some (c.cut m, r) := by rw [hat, pC_mid m c r hcf]
 have hl1 := congrArg List.length hat
 rw [zK, zG, h.body.hlen, hT] at hl1
 have hTp : 0 < T := by rw [← hT]; exact qB_pos m c
 obtain ⟨s0, hst⟩ : ∃ s0, st.getD i 0 = s0 := ⟨_, rfl⟩
 rw [hst] at hpc hl1
 have hlen : s0 + T + r.length = bn := by omega
 obtain ⟨gb, off, rfl⟩ : ∃ gb off, bo = some ⟨gb, off, none⟩ := by
  rcases h.body.hat with h0 | ⟨b, off, e, _⟩
  ·omega
  ·exact ⟨b, off, e⟩
 obtain ⟨gs, offs, rfl, hgs, hcs⟩ : ∃ b off, so = some ⟨b, off, none⟩ ∧ b < w.heap.size ∧ ∀ j, j < sn → w.cell? ⟨b, off + j, none⟩ = some (.int .i64 ((st.getD j 0 : Nat) : Int)) := by
  rcases h.starts.hat with h0 | h0
  ·omega
  ·exact h0
 have cj := hcs i hil
 rw [hst] at cj
 have HPC := zaa hpc
 have HSL := zaa h.body
 have HPG := zaa h
 have HLEN := zaa (And.intro hlen h.body.hlen)
 have i0 : (i : Int) < (sn : Int) := by omega
 have i1 : i < sn := hil
 have hstb : s0 ≤ bn := by omega
 have hsI : (s0 : Int) ≤ 65536 := by omega
 have hbx : ∀ o, Below w.heap.size w (w.alloc o) := fun o => zac Br Lr _
 have HBXX := zaa hbx
 have d2 := fun o => (h.on (hbx o)).cells.2.2.2.1
 have d3 := fun o => (h.on (hbx o)).cells.2.2.2.2.1
 have dj := fun o => ((hbx o).cell (p := ⟨gs, offs + i, none⟩) hgs).trans cj
 have HCJ : Hid (∀ u, Below w.heap.size w u → u.cell? ⟨gs, offs + i, none⟩ = some (.int .i64 (s0 : Int)) ∧ PgQ u a k n po pn pc (some ⟨gb, off, none⟩) bn bc (some ⟨gs, offs, none⟩) sn sc ws P body st) := zaa fun u hu => ⟨(hu.cell (p := ⟨gs, offs + i, none⟩) hgs).trans cj, h.on hu⟩
 clear h hpc hcs hcf hbx hci hl hat hm hst hT hl1 hlen
 go_enter Tryz.func284, Tryz.ntmps284
 go_wp2_with fail
 go_region
 obtain ⟨g4, hg4⟩ : ∃ g4, w.heap.size = g4 := ⟨_, rfl⟩
 obtain ⟨x, hx⟩ : ∃ x, (w.alloc (.cells #[.slice (some ⟨gb, off, none⟩) bn bc, .int .i64 (s0 : Int), .bool false] 194)).drew = x := ⟨_, rfl⟩
 have hbx : Below w.heap.size w x := by rw [← hx]; exact (HBXX.out _).drew
 have HRD : Hid (Rdq x g4 (some ⟨gb, off, none⟩) bn bc s0 false) := by
  rw [← hx, ← hg4]
  exact zaa (heap_alloc_last w _)
 have HBX := zaa hbx
 rw [hx, hg4]
 have HCL := zaa (ucell_any body x g4 gb off bn bc s0 false HRD.out (HSL.out.on Lr hbx) hstb)
 have HG4 := zaa hg4
 clear hx hbx c0 c1 c2 c3 c4 c5 cj d2 d3 dj hg4
 go_wp2_with (go_at_call 201; refine HCL.out.mono ?_; rintro e w2 ⟨ko, kn, kc, kd, vo, vn, vc, pg, ct, q, en, key, val, rfl, HR2, HCF, HQ⟩; refine Hid.out ?_)
 apply zaa
 have HQT : Hid (q = s0 + T) := zaa (by
  obtain ⟨_, _, _, _, ⟨hq, _⟩, hcase⟩ := HQ.out
  rw [HPC.out] at hcase
  rcases hcase with ⟨hcase, _⟩ | ⟨hcase, _⟩
  ·injection hcase with hcase
   injection hcase with _ hc2
   have h1 := congrArg List.length hc2
   have h2 := HLEN.out
   rw [zK, h2.2] at h1
   omega
  ·cases hcase)
 have HBE : Hid (Below w.heap.size w w2) := zaa (HBX.out.trans (HCF.out.below HBX.out.size (by have := HG4.out; intro i hi e; omega)))
 obtain rfl := HQT.out
 have hz : ∀ z, PgQ (w2.drewN z) a k n po pn pc (some ⟨gb, off, none⟩) bn bc (some ⟨gs, offs, none⟩) sn sc ws P body st := fun z => (HCJ.out _ (zad HBE.out z)).2
 have e4 := fun z => (hz z).cells.2.2.2.2.1
 have ej := fun z => (HCJ.out _ (zad HBE.out z)).1
 have er : ∀ z, (w2.drewN z).cell? ⟨g4, 1, none⟩ = some (.int .i64 ((s0 : Int) + (T : Int))) := fun z => by
  have h := HR2.out
  unfold Rdq at h
  have := cell_of_row (w2.drewN z) g4 1 _ _ _ h
  simpa using this
 have e40 := e4 0
 have ej0 := ej 0
 have er0 := er 0
 have hTI : (T : Int) ≤ 65536 := by have := HLEN.out.1; omega
 have hwz : IntKind.i64.wrap ((s0 : Int) + (T : Int) - (s0 : Int)) = (T : Int) := by rw [IntKind.wrap_i64]; omega
 clear hz HCL HCF HR2 HRD HQ HQT
 go_wp2_with fail
 go_quiet (fail)
 go_wp2
 go_ret
 refine ⟨by first | rfl | (congr 2; omega) | (simp; try omega), zaa (by first | exact zad HBE.out _ | exact HBE.out)⟩
end Go.Proofs.YtofafbmpbkjhnaaGreatDoor
