import Derived.Test.YtofafbmpbkjhnaaGreatDoorJ33
namespace Go.Proofs.YtofafbmpbkjhnaaGreatDoor
set_option maxRecDepth 100000
open Go.RowKit
set_option maxHeartbeats 10995116277760 in
theorem lay_no (w : World) (a : Nat) (k : Int) (n : Nat) (po : Option Addr) (pn pc : Nat) (bo : Option Addr) (bn bc : Nat) (so : Option Addr) (sn sc : Nat) (ws : Int) (h : QR w a k n (.slice po pn pc) (.slice bo bn bc) (.slice so sn sc) ws) (G : Nat) (ao : Option Addr) (m cap : Nat) (cs : List Cl) (hs : SlE w G ao m cap cs) (hG : G ≤ w.heap.size) (hr : Rs cs) (hf : ∀ c ∈ cs, c.fit) (hn : n ≤ 65536) (hfit : n < szQ k (shP k cs).length cs) (hbig : szQ k (shP k cs).length cs ≤ 1099511627776) (hm : m ≤ 65536) :
  Calls Tryz.prog 282 #[.pointer (some ⟨a, 0, none⟩), .slice ao m cap] w fun e w' => e = .returned (.int .i64 61) ∧ Hid (Below w.heap.size w w') := by
 have hz := szQ_eq k (shP k cs).length cs
 obtain ⟨Z, hZ⟩ : ∃ Z, szQ k (shP k cs).length cs = Z := ⟨_, rfl⟩
 rw [hZ] at hz hfit hbig
 have E1 : Hid (∀ u, Below w.heap.size w u → Calls Tryz.prog 157 #[.int .i64 k, .int .i64 (n : Int), .slice ao m cap] u fun e w' => ∃ b qo qn qc co cn cc to_ tn tc, e = .returned (.pointer (some ⟨b, 0, none⟩)) ∧ w'.cell? ⟨a, 1, none⟩ = some (.int .i64 (n : Int)) ∧ Hid (PO w' w.heap.size b k n qo qn qc (.slice co cn cc) (.slice to_ tn tc) 0 (shP k cs) (qbd (shP k cs).length (whl k) cs) (qst (shP k cs).length (whl k) 0 cs)) ∧ Hid (Below w.heap.size w w') ∧ Hid (10 + qn + 2 * tn + cn = Z)) := by
  refine zaa fun u hu => (laid_any k n G ao m cap cs u (hs.on hu) (zN hG hu.size) hr hf hm (by omega)).mono ?_
  intro e w' hq
  obtain ⟨b, qo, qn, qc, co, cn, cc, to_, tn, tc, rfl, HPO, HB, HN⟩ := hq.po
  have hb := zab hu Lr HB.out
  have hpo := HPO.out
  obtain ⟨n1, n2, n3⟩ := HN.out
  refine ⟨b, qo, qn, qc, co, cn, cc, to_, tn, tc, rfl, (show QR w' a k n (.slice po pn pc) (.slice bo bn bc) (.slice so sn sc) ws from zaf h hb).cells.2.1, zaa ⟨hpo.row, hpo.pre, hpo.ob.low hu.size, ?_, hpo.far, zN hu.size hpo.ha⟩, zaa hb, zaa (by omega)⟩
  have h6 := hpo.on
  unfold OwnN at h6 ⊢
  rcases h6.2 with h8 | ⟨g, c, cur, e, hg, r⟩
  ·exact ⟨h6.1, .inl h8⟩
  ·exact ⟨h6.1, .inr ⟨g, c, cur, e, zN hu.size hg, r⟩⟩
 have HRA : Hid (∀ u, Below w.heap.size w u → QR u a k n (.slice po pn pc) (.slice bo bn bc) (.slice so sn sc) ws) := zaa fun u hu => zaf h hu
 obtain ⟨c0, c1, c2, c3, c4, c5⟩ := h.cells
 have hfI : (n : Int) < (Z : Int) := by omega
 have hZI : (Z : Int) ≤ 1099511627776 := by omega
 have hnI : (n : Int) ≤ 65536 := by omega
 clear h hs hr hf hz hZ
 go_enter Tryz.func282, Tryz.ntmps282
 go_upto_region 1 with fail
 go_cut [5] from 6 to 15 (fun v u => ∃ b qo qn qc co cn cc to_ tn tc, v = .pointer (some ⟨b, 0, none⟩) ∧ Hid (PO u w.heap.size b k n qo qn qc (.slice co cn cc) (.slice to_ tn tc) 0 (shP k cs) (qbd (shP k cs).length (whl k) cs) (qst (shP k cs).length (whl k) 0 cs)) ∧ Hid (Below w.heap.size w u) ∧ Hid (10 + qn + 2 * tn + cn = Z))
 case first =>
  go_wp2_with fail
  go_region_with (first | (go_at_call 157; refine (E1.out _ (by first | exact Br | exact Br.drew | exact zad Br _)).mono ?_; rintro e w1 ⟨b, qo, qn, qc, co, cn, cc, to_, tn, tc, rfl, y1, HPO, HB1, HZ1⟩))
  all_goals (try go_wp2_with fail)
  all_goals go_meet
  all_goals exact ⟨b, qo, qn, qc, co, cn, cc, to_, tn, tc, rfl, by first | exact HPO | exact zaa (HPO.out.go Br.drew) | exact zaa (HPO.out.go (zad Br _)), by first | exact HB1 | exact zaa HB1.out.drew | exact zaa (zad HB1.out _), HZ1⟩
 obtain ⟨b, qo, qn, qc, co, cn, cc, to_, tn, tc, rfl, HPO, HB1, HZ1⟩ := hcut
 obtain ⟨w1, hw1⟩ : ∃ w1, w1 = wc := ⟨_, rfl⟩
 subst hw1
 clear c0 c1 c2 c3 c4 c5 E1
 have hz1 := HZ1.out
 have HUS : Hid (∀ u, Below w1.heap.size w1 u → Calls Tryz.prog 277 #[.pointer (some ⟨b, 0, none⟩)] u fun e w' => e = .returned (.int .i64 (Z : Int)) ∧ w'.cell? ⟨a, 1, none⟩ = some (.int .i64 (n : Int)) ∧ Hid (Below w1.heap.size w1 w')) := by
  refine zaa fun u hu => (usedQ_any u b k n qo qn qc co cn cc to_ tn tc (zaf HPO.out.row hu) (by omega) (by omega) (by omega) Z hz1).mono ?_
  rintro e w' ⟨rfl, HB⟩
  have hb := zab hu Lr HB.out
  exact ⟨rfl, (HRA.out w' (zab HB1.out Lr hb)).cells.2.1, zaa hb⟩
 have c1 := (HRA.out w1 HB1.out).cells.2.1
 clear hz1
 go_upto_region 2 with fail
 go_cut [22] from 16 to 22 (fun v u => v = .bool true ∧ Hid (Below w1.heap.size w1 u))
 case first =>
  go_wp2_with fail
  go_region_with (first | (go_at_call 277; refine (HUS.out _ (by first | exact Br | exact Br.drew | exact zad Br _)).mono ?_; rintro e w2 ⟨rfl, y1, HB2⟩))
  all_goals (try go_wp2_with fail)
  all_goals go_meet
  all_goals exact ⟨by (simp <;> omega), by first | exact HB2 | exact zaa HB2.out.drew | exact zaa (zad HB2.out _)⟩
 obtain ⟨rfl, HB2⟩ := hcut
 obtain ⟨w2, hw2⟩ : ∃ w2, w2 = wc := ⟨_, rfl⟩
 subst hw2
 clear c1 HUS
 go_wp2
 go_ret
 exact ⟨rfl, zaa (zab HB1.out Lr HB2.out)⟩
end Go.Proofs.YtofafbmpbkjhnaaGreatDoor
