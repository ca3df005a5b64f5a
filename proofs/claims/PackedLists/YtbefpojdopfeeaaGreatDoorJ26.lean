/- packed.Page.Bytes. -/
import Derived.Test.YtbefpojdopfeeaaGreatDoorJ23
namespace Go.Proofs.YtbefpojdopfeeaaGreatDoor
open Go.RowKit

set_option maxRecDepth 100000 in
theorem SlE.wf {w : World} {G : Nat} {ao : Option Addr} {n cap : Nat} {cs : List Cl} (h : SlE w G ao n cap cs) : ∀ c ∈ cs, c.Wf := by
  intro c hc
  obtain ⟨i, hi, e⟩ := List.getElem_of_mem hc
  rcases h.hat with h0 | ⟨b, off, _, _, hcs⟩
  · have := h.hlen; omega
  · obtain ⟨_, _, _, _, _, _, _, _, _, h1, key, _, _, _, _, _, _, s1, s2, s3, e2, _⟩ := hcs i c (by rw [List.getElem?_eq_getElem hi, e])
    exact ⟨by rw [← e2]; exact s1.wf.append s2.wf, s3.wf⟩
/-- A page that was just laid. -/
def Ld (w : World) (b : Nat) (k : Int) (n : Nat) (cs : List Cl) : Prop :=
  ∃ po pn pc bo bn bc so sn sc, PgQ w b k n po pn pc bo bn bc so sn sc 0 (shP k cs) (qbd (shP k cs).length (whl k) cs) (qst (shP k cs).length (whl k) 0 cs)
set_option maxRecDepth 100000 in
theorem LaidTo.ld {k : Int} {n : Nat} {cs : List Cl} {w w' : World} {e : Ending} (h : LaidTo k n cs w e w') (hwf : ∀ c ∈ cs, c.Wf) (hf : ∀ c ∈ cs, c.fit) (hm : cs.length ≤ 65536) (hz : (qbd (shP k cs).length (whl k) cs).length ≤ 1099511627776) :
    ∃ b, e = .returned (.pointer (some ⟨b, 0, none⟩)) ∧ Hid (Ld w' b k n cs) ∧ Hid (Below w.heap.size w w') ∧ Hid (w.heap.size ≤ b) := by
  obtain ⟨w1, a, po, pn, pc, vb, vs, rfl, HL, HP, HB⟩ := h
  have hb := HL.out.be
  obtain ⟨bo, bc, so, sc, rfl, rfl, hpg⟩ := HL.out.pg (HP.out.on (Nat.le_refl _) hb) (qbd_wf _ _ _ fun c hc => ⟨hwf c hc, hf c hc⟩) (by omega) (by rw [qst_length]; omega)
  exact ⟨a, rfl, hidden ⟨po, pn, pc, bo, _, bc, so, _, sc, hpg⟩, hidden (bl_go HB.out (Nat.le_refl _) hb), hidden (Nat.le_trans HB.out.size HL.out.ha)⟩
set_option maxRecDepth 100000 in
/-- What written comes to, of a page that was just laid. -/
theorem written_ld {w : World} {b : Nat} {k : Int} {n : Nat} {cs : List Cl} (h : Ld w b k n cs) (hk : isKd k) (hn : pw n) (hfit : szQ k (shP k cs).length cs ≤ n) (ht : Tab w) (h0 : 0 < w.heap.size) :
    Calls Tryz.prog 55 #[.pointer (some ⟨b, 0, none⟩)] w fun e w' => ∃ g, e = .returned (.slice (some ⟨g, 0, none⟩) n n) ∧ w.heap.size ≤ g ∧ Hid (Bk w' g (pkB k n cs)) ∧ Hid (Below w.heap.size w w') := by
  obtain ⟨po, pn, pc, bo, bn, bc, so, sn, sc, hpg⟩ := h
  have hz := szQ_eq k (shP k cs).length cs
  have hn2 := pw_nat hn
  have := written_any w b k n po pn pc bo bn bc so sn sc 0 _ _ _ hpg hk (by omega) (by rw [qst_length]; omega) (fun s hs => by have := qst_le _ _ _ _ s hs; omega) ht h0
  rw [wrL_laid] at this
  exact this
set_option maxRecDepth 100000 in
set_option maxHeartbeats 1000000 in
theorem bytesQ_any (w : World) (a : Nat) (k : Int) (n : Nat) (po : Option Addr) (pn pc : Nat) (bo : Option Addr) (bn bc : Nat) (so : Option Addr) (sn sc : Nat) (ws : Int) (P body : List Int) (st : List Nat) (cs : List Cl) (h : PgQ w a k n po pn pc bo bn bc so sn sc ws P body st) (hl : LayQ k P cs body st) (hr : Rs cs) (hk : isKd k) (hn : pw n) (hfit : szQ k (shP k cs).length cs ≤ n) (ht : Tab w) (h0 : 0 < w.heap.size) :
    Calls Tryz.prog 18 #[.pointer (some ⟨a, 0, none⟩)] w fun e w' => ∃ g, e = .returned (.slice (some ⟨g, 0, none⟩) n n) ∧ Hid (w.heap.size ≤ g ∧ Bk w' g (pkB k n cs)) ∧ Hid (Below w.heap.size w w') := by
  have hn2 := pw_nat hn
  have hz := szQ_eq k (shP k cs).length cs
  have hsn : sn = cs.length := by rw [← h.starts.hlen, hl.len]
  have E1 : Hid (∀ u, Below w.heap.size w u → Calls Tryz.prog 47 #[.pointer (some ⟨a, 0, none⟩)] u fun e w' => ∃ g, e = .returned (.slice (some ⟨g, 0, none⟩) sn sn) ∧ (w'.cell? ⟨a, 0, none⟩ = some (.int .i64 k) ∧ w'.cell? ⟨a, 1, none⟩ = some (.int .i64 (n : Int))) ∧ Hid (SlE w' g (some ⟨g, 0, none⟩) sn sn cs ∧ Below w.heap.size w w' ∧ g ≤ w'.heap.size)) := by
    refine hidden fun u hu => (entries_any u a k n po pn pc bo bn bc so sn sc ws P body st cs (h.on hu) hl (by omega)).mono ?_
    rintro e w' ⟨g, rfl, HS, HB⟩
    have hb := bl_go hu (Nat.le_refl _) HB.out.1
    obtain ⟨c0, c1, _⟩ := (h.on hb).cells
    exact ⟨g, rfl, ⟨c0, c1⟩, hidden ⟨HS.out, hb, Nat.le_of_lt HB.out.2.2⟩⟩
  have E2 : Hid (∀ u g w1, Hid (SlE w1 g (some ⟨g, 0, none⟩) sn sn cs ∧ Below w.heap.size w w1 ∧ g ≤ w1.heap.size) → Below w1.heap.size w1 u → Calls Tryz.prog 54 #[.int .i64 k, .int .i64 (n : Int), .slice (some ⟨g, 0, none⟩) sn sn] u fun e w' => ∃ b, e = .returned (.pointer (some ⟨b, 0, none⟩)) ∧ Hid (Ld w' b k n cs ∧ Below w.heap.size w w')) := by
    refine hidden fun u g w1 hg hu => ?_
    obtain ⟨g1, g2, g3⟩ := hg.out
    refine (laid_any k n g _ sn sn cs u (g1.on hu) (Nat.le_trans g3 hu.size) hr hl.fit (by omega) (by omega)).mono ?_
    intro e w' hq
    obtain ⟨b, rfl, HL, HB, _⟩ := hq.ld g1.wf hl.fit (by omega) (by omega)
    exact ⟨b, rfl, hidden ⟨HL.out, bl_go (bl_go g2 (Nat.le_refl _) hu) (Nat.le_refl _) HB.out⟩⟩
  have E3 : Hid (∀ u b w2, Hid (Ld w2 b k n cs ∧ Below w.heap.size w w2) → Below w2.heap.size w2 u → Calls Tryz.prog 55 #[.pointer (some ⟨b, 0, none⟩)] u fun e w' => ∃ g, e = .returned (.slice (some ⟨g, 0, none⟩) n n) ∧ Hid (w.heap.size ≤ g ∧ Bk w' g (pkB k n cs)) ∧ Hid (Below w.heap.size w w')) := by
    refine hidden fun u b w2 hg hu => ?_
    have hb := bl_go hg.out.2 (Nat.le_refl _) hu
    obtain ⟨q1, q2, q3, q4, q5, q6, q7, q8, q9, hpg⟩ := hg.out.1
    refine (written_ld ⟨q1, q2, q3, q4, q5, q6, q7, q8, q9, hpg.on hu⟩ hk hn hfit (ht.on hb h0) (Nat.lt_of_lt_of_le h0 hb.size)).mono ?_
    rintro e w' ⟨g, rfl, hg, HK, HB⟩
    exact ⟨g, rfl, hidden ⟨Nat.le_trans hb.size hg, HK.out⟩, hidden (bl_go hb (Nat.le_refl _) HB.out)⟩
  obtain ⟨c0, c1, c2, c3, c4, c5⟩ := h.cells
  clear h hl hr hk hn ht hz hsn hfit
  go_enter Tryz.func18, Tryz.ntmps18
  go_wp2_with fail
  go_region_with (first
    | (go_at_call 55; refine (E3.out _ b w2 HQ2 (by first | exact Below.refl _ _ | exact (Below.refl _ _).drew | exact bl_dr (Below.refl _ _) _)).mono ?_; rintro e w3 ⟨g3, rfl, HQ3, HB3⟩)
    | (go_at_call 54; refine (E2.out _ g w1 HQ1 (by first | exact Below.refl _ _ | exact (Below.refl _ _).drew | exact bl_dr (Below.refl _ _) _)).mono ?_; rintro e w2 ⟨b, rfl, HQ2⟩)
    | (go_at_call 47; refine (E1.out _ (by first | exact Below.refl _ _ | exact (Below.refl _ _).drew | exact bl_dr (Below.refl _ _) _)).mono ?_; rintro e w1 ⟨g, rfl, ⟨y0, y1⟩, HQ1⟩))
  all_goals
    go_wp2
    go_ret
    exact ⟨g3, rfl, HQ3, HB3⟩
end Go.Proofs.YtbefpojdopfeeaaGreatDoor
