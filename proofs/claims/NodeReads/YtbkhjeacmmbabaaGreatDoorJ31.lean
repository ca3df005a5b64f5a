import Derived.Test.YtbkhjeacmmbabaaGreatDoorJ30
namespace Go.Proofs.YtbkhjeacmmbabaaGreatDoor
set_option maxRecDepth 100000
set_option maxHeartbeats 4000000
open Go.RowKit
theorem SlE.wf {w : World} {G : Nat} {ao : Option Addr} {n cap : Nat} {cs : List Cl} (h : SlE w G ao n cap cs) : ∀ c ∈ cs, c.Wf := by
 intro c hc
 obtain ⟨i, hi, e⟩ := List.getElem_of_mem hc
 rcases h.hat with h0 | ⟨b, off, _, _, hcs⟩
 ·have := h.hlen; omega
 ·obtain ⟨_, _, _, _, _, _, _, _, _, h1, key, _, _, _, _, _, _, s1, s2, s3, e2, _⟩ := hcs i c (by rw [zI hi, e])
  exact ⟨by rw [← e2]; exact s1.wf.append s2.wf, s3.wf⟩
def Ld (w : World) (b : Nat) (k : Int) (n : Nat) (cs : List Cl) : Prop :=
 ∃ po pn pc bo bn bc so sn sc, PgQ w b k n po pn pc bo bn bc so sn sc 0 (shP k cs) (qbd (shP k cs).length (whl k) cs) (qst (shP k cs).length (whl k) 0 cs)
theorem LaidTo.ld {k : Int} {n : Nat} {cs : List Cl} {w w' : World} {e : Ending} (h : LaidTo k n cs w e w') (hwf : ∀ c ∈ cs, c.Wf) (hf : ∀ c ∈ cs, c.fit) (hm : cs.length ≤ 65536) (hz : (qbd (shP k cs).length (whl k) cs).length ≤ 1099511627776) :
  ∃ b, e = .returned (.pointer (some ⟨b, 0, none⟩)) ∧ Hid (Ld w' b k n cs) ∧ Hid (Below w.heap.size w w') ∧ Hid (w.heap.size ≤ b) := by
 obtain ⟨w1, a, po, pn, pc, vb, vs, rfl, HL, HP, HB, _⟩ := h
 have hb := HL.out.be
 obtain ⟨bo, bc, so, sc, rfl, rfl, hpg⟩ := HL.out.pg (HP.out.on Lr hb) (qbd_wf _ _ _ fun c hc => ⟨hwf c hc, hf c hc⟩) (by omega) (by rw [zbm]; omega)
 exact ⟨a, rfl, zaa ⟨po, pn, pc, bo, _, bc, so, _, sc, hpg⟩, zaa (zae HB.out Lr hb), zaa (zN HB.out.size HL.out.ha)⟩
theorem written_ld {w : World} {b : Nat} {k : Int} {n : Nat} {cs : List Cl} (h : Ld w b k n cs) (hk : isKd k) (hn : pw n) (hfit : szQ k (shP k cs).length cs ≤ n) (ht : Tab w) (h0 : 1 < w.heap.size) :
  Calls Tryz.prog 87 #[.pointer (some ⟨b, 0, none⟩)] w fun e w' => ∃ g, e = .returned (.slice (some ⟨g, 0, none⟩) n n) ∧ w.heap.size ≤ g ∧ Hid (Bk w' g (pkB k n cs)) ∧ Hid (Below w.heap.size w w') := by
 obtain ⟨po, pn, pc, bo, bn, bc, so, sn, sc, hpg⟩ := h
 have hz := zbn k (shP k cs).length cs
 have hn2 := zao hn
 have := written_any w b k n po pn pc bo bn bc so sn sc 0 _ _ _ hpg hk (by omega) (by rw [zbm]; omega) (fun s hs => by have := qst_le _ _ _ _ s hs; omega) ht h0
 rw [wrL_laid] at this
 exact this
theorem bytesQ_any (w : World) (a : Nat) (k : Int) (n : Nat) (po : Option Addr) (pn pc : Nat) (bo : Option Addr) (bn bc : Nat) (so : Option Addr) (sn sc : Nat) (ws : Int) (P body : List Int) (st : List Nat) (cs : List Cl) (h : PgQ w a k n po pn pc bo bn bc so sn sc ws P body st) (hl : LayQ k P cs body st) (hr : Rs cs) (hk : isKd k) (hn : pw n) (hfit : szQ k (shP k cs).length cs ≤ n) (ht : Tab w) (h0 : 1 < w.heap.size) :
  Calls Tryz.prog 92 #[.pointer (some ⟨a, 0, none⟩)] w fun e w' => ∃ g, e = .returned (.slice (some ⟨g, 0, none⟩) n n) ∧ Hid (w.heap.size ≤ g ∧ Bk w' g (pkB k n cs)) ∧ Hid (Below w.heap.size w w') := by
 have hn2 := zao hn
 have hz := zbn k (shP k cs).length cs
 have hsn : sn = cs.length := by rw [← h.starts.hlen, hl.len]
 have E1 : Hid (∀ u, Below w.heap.size w u → Calls Tryz.prog 134 #[.pointer (some ⟨a, 0, none⟩)] u fun e w' => ∃ g, e = .returned (.slice (some ⟨g, 0, none⟩) sn sn) ∧ (w'.cell? ⟨a, 0, none⟩ = some (.int .i64 k) ∧ w'.cell? ⟨a, 1, none⟩ = some (.int .i64 (n : Int))) ∧ Hid (SlE w' g (some ⟨g, 0, none⟩) sn sn cs ∧ Below w.heap.size w w' ∧ g ≤ w'.heap.size)) := by
  refine zaa fun u hu => (entries_any u a k n po pn pc bo bn bc so sn sc ws P body st cs (h.on hu) hl (by omega)).mono ?_
  rintro e w' ⟨g, rfl, HS, HB⟩
  have hb := zae hu Lr HB.out.1
  obtain ⟨c0, c1, _⟩ := (h.on hb).cells
  exact ⟨g, rfl, ⟨c0, c1⟩, zaa ⟨HS.out, hb, Nat.le_of_lt HB.out.2.2⟩⟩
 have E2 : Hid (∀ u g w1, Hid (SlE w1 g (some ⟨g, 0, none⟩) sn sn cs ∧ Below w.heap.size w w1 ∧ g ≤ w1.heap.size) → Below w1.heap.size w1 u → Calls Tryz.prog 86 #[.int .i64 k, .int .i64 (n : Int), .slice (some ⟨g, 0, none⟩) sn sn] u fun e w' => ∃ b, e = .returned (.pointer (some ⟨b, 0, none⟩)) ∧ Hid (Ld w' b k n cs ∧ Below w.heap.size w w')) := by
  refine zaa fun u g w1 hg hu => ?_
  obtain ⟨g1, g2, g3⟩ := hg.out
  refine (laid_any k n g _ sn sn cs u (g1.on hu) (zN g3 hu.size) hr hl.fit (by omega) (by omega)).mono ?_
  intro e w' hq
  obtain ⟨b, rfl, HL, HB, _⟩ := hq.ld g1.wf hl.fit (by omega) (by omega)
  exact ⟨b, rfl, zaa ⟨HL.out, zae (zae g2 Lr hu) Lr HB.out⟩⟩
 have E3 : Hid (∀ u b w2, Hid (Ld w2 b k n cs ∧ Below w.heap.size w w2) → Below w2.heap.size w2 u → Calls Tryz.prog 87 #[.pointer (some ⟨b, 0, none⟩)] u fun e w' => ∃ g, e = .returned (.slice (some ⟨g, 0, none⟩) n n) ∧ Hid (w.heap.size ≤ g ∧ Bk w' g (pkB k n cs)) ∧ Hid (Below w.heap.size w w')) := by
  refine zaa fun u b w2 hg hu => ?_
  have hb := zae hg.out.2 Lr hu
  obtain ⟨q1, q2, q3, q4, q5, q6, q7, q8, q9, hpg⟩ := hg.out.1
  refine (written_ld ⟨q1, q2, q3, q4, q5, q6, q7, q8, q9, hpg.on hu⟩ hk hn hfit (ht.on hb h0) (zO h0 hb.size)).mono ?_
  rintro e w' ⟨g, rfl, hg, HK, HB⟩
  exact ⟨g, rfl, zaa ⟨zN hb.size hg, HK.out⟩, zaa (zae hb Lr HB.out)⟩
 obtain ⟨c0, c1, c2, c3, c4, c5⟩ := h.cells
 clear h hl hr hk hn ht hz hsn hfit
 go_enter Tryz.func92, Tryz.ntmps92
 go_wp2_with fail
 go_region_with (first
  | (go_at_call 87; refine (E3.out _ b w2 HQ2 (by first | exact Br | exact Br.drew | exact zab Br _)).mono ?_; rintro e w3 ⟨g3, rfl, HQ3, HB3⟩)
  | (go_at_call 86; refine (E2.out _ g w1 HQ1 (by first | exact Br | exact Br.drew | exact zab Br _)).mono ?_; rintro e w2 ⟨b, rfl, HQ2⟩)
  | (go_at_call 134; refine (E1.out _ (by first | exact Br | exact Br.drew | exact zab Br _)).mono ?_; rintro e w1 ⟨g, rfl, ⟨y0, y1⟩, HQ1⟩))
 all_goals
  go_wp2
  go_ret
  exact ⟨g3, rfl, HQ3, HB3⟩
structure PO (w : World) (B a : Nat) (k : Int) (n : Nat) (po : Option Addr) (pn pc : Nat) (vb vs : Value) (ws : Int) (P body : List Int) (st : List Nat) : Prop where
 row : QR w a k n (.slice po pn pc) vb vs ws
 pre : Sl w po pn pc P
 ob : OwnB w B vb body
 on : OwnN w B vs st
 far : Far po pn vb
 ha : B ≤ a
theorem PO.go {w v : World} {B a : Nat} {k : Int} {n : Nat} {po : Option Addr} {pn pc : Nat} {vb vs : Value} {ws : Int} {P body : List Int} {st : List Nat} (h : PO w B a k n po pn pc vb vs ws P body st) (hb : Below w.heap.size w v) : PO v B a k n po pn pc vb vs ws P body st :=
 ⟨zag h.row hb, h.pre.on Lr hb, h.ob.on Lr hb, h.on.below hb, h.far, h.ha⟩
theorem PO.pg {w : World} {B a : Nat} {k : Int} {n : Nat} {po : Option Addr} {pn pc : Nat} {vb vs : Value} {ws : Int} {P body : List Int} {st : List Nat} (h : PO w B a k n po pn pc vb vs ws P body st) (hw : Wf body) (hb : body.length ≤ 140737488355328) (hs : st.length ≤ 140737488355328) :
  ∃ bo bc so sc, vb = .slice bo body.length bc ∧ vs = .slice so st.length sc ∧ PgQ w a k n po pn pc bo body.length bc so st.length sc ws P body st := by
 obtain ⟨bo, bc, rfl, hbs, _⟩ := h.ob.sl hw hb
 obtain ⟨so, sc, rfl, hss⟩ := h.on.sln hs
 exact ⟨bo, bc, so, sc, rfl, rfl, ⟨h.row, h.pre, hbs, hss⟩⟩
def ReadQ (l : List Int) (w : World) (e : Ending) (w' : World) : Prop :=
 ∃ po, e = .returned (.pointer po) ∧ Hid (Below w.heap.size w w') ∧ Hid ((po = none ∧ zay l = none) ∨ ∃ a qo qn qc vb vs P cs, po = some ⟨a, 0, none⟩ ∧ zay l = some (P, cs) ∧ PO w' w.heap.size a (l.getD 0 0) l.length qo qn qc vb vs 0 P (qbd P.length (whl (l.getD 0 0)) cs) (qst P.length (whl (l.getD 0 0)) 0 cs))
theorem ReadQ.no {l : List Int} {w w' : World} (hb : Below w.heap.size w w') (h : zay l = none) : ReadQ l w (.returned (.pointer none)) w' := ⟨none, rfl, zaa hb, zaa (.inl ⟨rfl, h⟩)⟩
def Rz (w u : World) (a : Nat) (k0 : Int) (n gp pn pc gb bn bc : Nat) (P BD : List Int) : Prop :=
 QR u a k0 n (.slice (some ⟨gp, 0, none⟩) pn pc) (.slice (some ⟨gb, 0, none⟩) bn bc) (.slice none 0 0) 0 ∧ OwnB u w.heap.size (.slice (some ⟨gp, 0, none⟩) pn pc) P ∧ OwnB u w.heap.size (.slice (some ⟨gb, 0, none⟩) bn bc) BD ∧ gp < a ∧ gb < a ∧ gp ≠ gb ∧ w.heap.size ≤ a ∧ Below w.heap.size w u
def Cl1 (w u u' : World) (X : List Int) (g m c : Nat) : Prop := OwnB u' w.heap.size (.slice (some ⟨g, 0, none⟩) m c) X ∧ u.heap.size ≤ g ∧ g < u'.heap.size ∧ Below u.heap.size u u'
theorem Rz.of {w u0 u1 u2 u3 u4 : World} {k0 : Int} {n gp pn pc gb bn bc : Nat} {P BD : List Int} (h0 : Below w.heap.size w u0) (h1 : Cl1 w u0 u1 P gp pn pc) (h12 : Below u1.heap.size u1 u2) (h2 : Cl1 w u2 u3 BD gb bn bc) (h34 : Below u3.heap.size u3 u4) :
  Rz w (u4.alloc (.cells #[.int .i64 k0, .int .i64 (n : Int), .slice (some ⟨gp, 0, none⟩) pn pc, .slice (some ⟨gb, 0, none⟩) bn bc, .slice none 0 0, .int .i64 0] 128)) u4.heap.size k0 n gp pn pc gb bn bc P BD := by
 obtain ⟨a1, a2, a3, a4⟩ := h1
 obtain ⟨b1, b2, b3, b4⟩ := h2
 have e1 := h12.size
 have e2 := b4.size
 have e3 := h34.size
 have e4 := h0.size
 have hb := zad (Below.refl _ u4) Lr (.cells #[.int .i64 k0, .int .i64 (n : Int), .slice (some ⟨gp, 0, none⟩) pn pc, .slice (some ⟨gb, 0, none⟩) bn bc, .slice none 0 0, .int .i64 0] 128)
 refine ⟨heap_alloc_last u4 _, ((((a1.on Lr h12).on Lr b4).on Lr h34).on Lr hb), (b1.on Lr h34).on Lr hb, by omega, by omega, by omega, by have := a4.size; omega, ?_⟩
 exact zae (zae (zae (zae (zae h0 Lr a4) Lr h12) Lr b4) Lr h34) Lr hb
theorem readQ_tail (ao : Option Addr) (n cap : Nat) (l : List Int) (w : World) (hs : Sl w ao n cap l) (hn : pw n) (hk : isKd (l.getD 0 0)) :
  Calls Tryz.prog 91 #[.slice ao n cap] w fun e w' => ReadQ l w e w' := by
 have hn2 := zao hn
 have hn3 := hn2.1
 have hn4 := hn2.2
 have hlen := hs.hlen
 have hcap := hs.hcap
 obtain ⟨b, off, rfl, hbl, hc⟩ : ∃ b off, ao = some ⟨b, off, none⟩ ∧ b < w.heap.size ∧ ∀ i, i < n → w.cell? ⟨b, off + i, none⟩ = some (.int .u8 (l.getD i 0)) := by
  rcases hs.hat with h | h
  ·omega
  ·exact h
 have c0 := hc 0 (by omega)
 rw [Nat.add_zero] at c0
 have HC0 : Hid (∀ u, Below w.heap.size w u → u.cell? ⟨b, off, none⟩ = some (.int .u8 (l.getD 0 0))) := zaa fun u hu => (hu.cell (p := ⟨b, off, none⟩) hbl).trans c0
 have hk0 := hs.wf.getD 0
 have hN := zbh l hs.wf 2 2
 have hG4 := zbh l hs.wf 4 2
 obtain ⟨N, hNe⟩ := Int.eq_ofNat_of_zero_le hN.1
 obtain ⟨G, hGe⟩ := Int.eq_ofNat_of_zero_le hG4.1
 obtain ⟨E, hEe⟩ : ∃ E, n - 4 = E := ⟨_, rfl⟩
 have hEI : (n : Int) - 4 = (E : Int) := by omega
 obtain ⟨SL, hSL⟩ : ∃ SL, 6 + G = SL := ⟨_, rfl⟩
 have hSLI : 6 + (G : Int) = (SL : Int) := by omega
 obtain ⟨F, hF⟩ : ∃ F, SL + N * 2 = F := ⟨_, rfl⟩
 have hFI : (SL : Int) + (N : Int) * 2 = (F : Int) := by omega
 have HE : Hid (zay l = (if (E : Int) < (F : Int) then none else (zba (l.getD 0 0) n ((l.drop 6).take G) N (whl (l.getD 0 0)) none ((l.drop F).take (E - F))).map fun x => ((l.drop 6).take G, x.1))) := by
  refine zaa ?_
  have e1 : frsQ l = (F : Int) := by unfold frsQ; rw [hNe, hGe]; omega
  unfold zay
  rw [hlen, if_pos ⟨hn, hk⟩, e1, hEI, hNe, hGe, Int.toNat_natCast, Int.toNat_natCast, Int.toNat_natCast, hEe]
 have hNb : N < 65536 := by omega
 have hGb : G < 65536 := by omega
 have HS2 : Hid (Calls Tryz.prog 131 #[.slice (some ⟨b, off, none⟩) n cap, .int .i64 2] w fun e u' => e = .returned (.int .i64 (N : Int)) ∧ Hid (Below w.heap.size w u')) := by
  have := zed w (some ⟨b, off, none⟩) n cap 2 l hs (by omega)
  rw [hNe] at this
  refine zaa ((show Calls Tryz.prog 131 #[.slice (some ⟨b, off, none⟩) n cap, .int .i64 2] w _ from this).mono ?_)
  rintro e u' ⟨rfl, q, rfl⟩
  exact ⟨rfl, zaa (zab Br _)⟩
 have HS4 : Hid (∀ u, Below w.heap.size w u → Calls Tryz.prog 131 #[.slice (some ⟨b, off, none⟩) n cap, .int .i64 4] u fun e u' => e = .returned (.int .i64 (G : Int)) ∧ Hid (Below w.heap.size w u')) := by
  refine zaa fun u hu => ?_
  have := zed u (some ⟨b, off, none⟩) n cap 4 l (hs.on Lr hu) (by omega)
  rw [hGe] at this
  refine (show Calls Tryz.prog 131 #[.slice (some ⟨b, off, none⟩) n cap, .int .i64 4] u _ from this).mono ?_
  rintro e u' ⟨rfl, q, rfl⟩
  exact ⟨rfl, zaa (zab hu _)⟩
 obtain ⟨k0, hk0e⟩ : ∃ k0, l.getD 0 0 = k0 := ⟨_, rfl⟩
 rw [hk0e] at c0 hk0 hk HE HC0
 have d1 : decide (pw (n : Int)) = true := decide_eq_true hn
 have d2 : decide (isKd k0) = true := decide_eq_true hk
 have hw0 : IntKind.i64.wrap k0 = k0 := by rw [IntKind.wrap_i64]; omega
 have HPW := zaa hn
 have HKE := zaa hk0e
 have HLEN := zaa hlen
 have HS := zaa hs
 have bN : (N : Int) < 65536 := by omega
 have bG : (G : Int) < 65536 := by omega
 have bE : (E : Int) ≤ 65536 := by omega
 have bS : (SL : Int) ≤ 131072 := by omega
 have bF : (F : Int) ≤ 262144 := by omega
 have k01 := hk0.1
 have k02 := hk0.2
 have hn0 : (0 : Int) < (n : Int) := by omega
 clear hs hc hk hn hNe hGe hN hG4 hk0e hlen hk0 hn2 hbl
 go_enter Tryz.func91, Tryz.ntmps91
 go_wp2_with (first | (go_at_call 31; refine zac (zbi _ _) ?_; rw [d1]) | (go_at_call 78; refine zac (zbv _ _) ?_; rw [d2]) | (go_at_call 131; refine HS2.out.mono ?_; rintro e u1 ⟨rfl, HB1⟩; refine Hid.out ?_))
 apply zaa
 have HS4' := zaa (HS4.out u1 HB1.out)
 clear HS2 HS4 c0
 go_wp2_with (go_at_call 131; refine HS4'.out.mono ?_; rintro e u2 ⟨rfl, HB2⟩; refine Hid.out ?_)
 apply zaa
 clear HS4' HB1
 by_cases h1 : (E : Int) < (F : Int)
 ·have HNO : Hid (zay l = none) := zaa (by rw [HE.out, if_pos h1])
  go_wp2
  go_ret
  exact ReadQ.no HB2.out HNO.out
 ·obtain ⟨bn, hbn⟩ : ∃ bn, E - F = bn := ⟨_, rfl⟩
  obtain ⟨BD, hBD⟩ : ∃ BD, (l.drop F).take (E - F) = BD := ⟨_, rfl⟩
  obtain ⟨P, hP⟩ : ∃ P, (l.drop 6).take G = P := ⟨_, rfl⟩
  have HRM : Hid (zay l = (zba k0 n P N (whl k0) none BD).map fun x => (P, x.1)) := zaa (by rw [HE.out, if_neg h1, hBD, hP])
  have HBL : Hid (BD.length = bn) := zaa (by rw [← hBD, zJ, zK, HLEN.out]; omega)
  have HPL : Hid (P.length = G) := zaa (by rw [← hP, zJ, zK, HLEN.out]; omega)
  have HBW : Hid (Wf BD) := zaa (by rw [← hBD]; exact (HS.out.wf.drop _).take _)
  have HPWF : Hid (Wf P) := zaa (by rw [← hP]; exact (HS.out.wf.drop _).take _)
  have e0 : F ≤ E := by omega
  have e1 : (F : Int) ≤ (E : Int) := by omega
  have e2 : E ≤ cap := by omega
  have e3 : (E : Int) ≤ (cap : Int) := by omega
  have e4 : ¬ cap = F := by omega
  have e5 : 6 ≤ SL := by omega
  have e6 : (6 : Int) ≤ (SL : Int) := by omega
  have e7 : SL ≤ cap := by omega
  have e8 : (SL : Int) ≤ (cap : Int) := by omega
  have e9 : ¬ cap = 6 := by omega
  have eA : SL - 6 = G := by omega
  have eB : ¬ cap - 6 = 0 := by omega
  have eC : ¬ cap - F = 0 := by omega
  have HCN : Hid (∀ (X : List Int) (o m c : Nat) u, ((X = P ∧ o = off + 6 ∧ m = G ∧ c = cap - 6) ∨ (X = BD ∧ o = off + F ∧ m = bn ∧ c = cap - F)) → Below w.heap.size w u → Calls Tryz.prog 132 #[.slice (some ⟨b, o, none⟩) m c] u fun e u' => ∃ g c', e = .returned (.slice (some ⟨g, 0, none⟩) m c') ∧ u'.cell? ⟨b, off, none⟩ = some (.int .u8 k0) ∧ Hid (Cl1 w u u' X g m c') ∧ Hid (Below w.heap.size w u')) := by
   refine zaa fun X o m c u hX hu => ?_
   have hsl : Sl u (some ⟨b, o, none⟩) m c X := by
    have hsu := HS.out.on Lr hu
    rcases hX with ⟨x1, x2, x3, x4⟩ | ⟨x1, x2, x3, x4⟩
    ·rw [x1, x2, x3, x4, ← hP]
     exact hsu.piece 6 G (cap - 6) (by omega) (by omega)
    ·rw [x1, x2, x3, x4, ← hBD, hbn]
     exact hsu.piece F bn (cap - F) (by omega) (by omega)
   refine (clone_any _ m c X u hsl).mono ?_
   rintro e u' ⟨g, c', rfl, HO, HB⟩
   have hb := zae hu Lr HB.out
   exact ⟨g, c', rfl, HC0.out u' hb, zaa ⟨HO.out.1.low hu.size, HO.out.2.1, HO.out.2.2, HB.out⟩, zaa hb⟩
  have hn0N : 0 < n := by omega
  have c0 := HC0.out u2 HB2.out
  have hbn2 : bn ≤ 65536 := by omega
  clear hBD hP HE
  go_upto_region 8 with fail
  go_cut [7] from 35 to 51 (fun v u => ∃ a gp pc gb bc, v = .pointer (some ⟨a, 0, none⟩) ∧ Hid (Rz w u a k0 n gp G pc gb bn bc P BD))
  case first =>
   go_wp2_with fail
   refine wp_region_held_drew (S := (fun u => u.cell? ⟨b, off, none⟩ = some (.int .u8 k0))) (by kernel_rfl) (HC0.out _ HB2.out.drew) (fun hHeld => ?_)
   refine zT (i := 0) (v := ?_) rfl ?_ (fun _ _ _ h => h) ?_
   rotate_left
   ·(intro w hSw; (try dsimp only at hSw); go_simp; try (with_reducible rfl))
   try simp only [Act.put, zA, zC, zD, zE, zF]
   refine zT (i := 1) (v := ?_) rfl ?_ (fun _ _ _ h => h) ?_
   rotate_left
   ·(intro w hSw; (try dsimp only at hSw); go_simp; try (with_reducible rfl))
   try simp only [Act.put, zA, zB, zC, zD, zE, zF]
   refine zT (i := 2) (v := ?_) rfl ?_ (fun _ _ _ h => h) ?_
   rotate_left
   ·(intro w hSw; (try dsimp only at hSw); go_simp; try (with_reducible rfl))
   try simp only [Act.put, zA, zB, zC, zD, zE, zF]
   refine zT (i := 3) (v := ?_) rfl ?_ (fun _ _ _ h => h) ?_
   rotate_left
   ·(intro w hSw; (try dsimp only at hSw); go_simp; try (with_reducible rfl))
   try simp only [Act.put, zA, zB, zC, zD, zE, zF]
   refine zT (i := 4) (v := ?_) rfl ?_ (fun _ _ _ h => h) ?_
   rotate_left
   ·(intro w hSw; (try dsimp only at hSw); go_simp; try (with_reducible rfl))
   try simp only [Act.put, zA, zB, zC, zD, zE, zF]
   refine zT (i := 5) (v := ?_) rfl ?_ (fun _ _ _ h => h) ?_
   rotate_left
   ·(intro w hSw; (try dsimp only at hSw); go_simp; try (with_reducible rfl))
   try simp only [Act.put, zA, zB, zC, zD, zE, zF]
   refine zT (i := 6) (v := ?_) rfl ?_ (fun _ _ _ h => h) ?_
   rotate_left
   ·(intro w hSw; (try dsimp only at hSw); go_simp; try (with_reducible rfl))
   try simp only [Act.put, zA, zB, zC, zD, zE, zF]
   refine zT (i := 7) (v := ?_) rfl ?_ (fun _ _ _ h => h) ?_
   rotate_left
   ·(intro w hSw; (try dsimp only at hSw); go_simp; try (with_reducible rfl))
   try simp only [Act.put, zA, zB, zC, zD, zE, zF]
   refine zT (i := 8) (v := ?_) rfl ?_ (fun _ _ _ h => h) ?_
   rotate_left
   ·(intro w hSw; (try dsimp only at hSw); go_simp; try (with_reducible rfl))
   try simp only [Act.put, zA, zB, zC, zD, zE, zF]
   refine zT (i := 10) (v := ?_) rfl ?_ (fun _ _ _ h => h) ?_
   rotate_left
   ·(intro w hSw; (try dsimp only at hSw); go_simp; try (with_reducible rfl))
   try simp only [Act.put, zA, zB, zC, zD, zE, zF]
   refine zT (i := 11) (v := ?_) rfl ?_ (fun _ _ _ h => h) ?_
   rotate_left
   ·(intro w hSw; (try dsimp only at hSw); go_simp; try (with_reducible rfl))
   try simp only [Act.put, zA, zB, zC, zD, zE, zF]
   refine zT (i := 12) (v := ?_) rfl ?_ (fun _ _ _ h => h) ?_
   rotate_left
   ·(intro w hSw; (try dsimp only at hSw); go_simp; try (with_reducible rfl))
   try simp only [Act.put, zA, zB, zC, zD, zE, zF]
   refine zT (i := 13) (v := ?_) rfl ?_ (fun _ _ _ h => h) ?_
   rotate_left
   ·(intro w hSw; (try dsimp only at hSw); go_simp; try (with_reducible rfl))
   try simp only [Act.put, zA, zB, zC, zD, zE, zF]
   refine zY (i := 9) rfl fun K hK => ?_
   ·go_simp
    go_at_call 132
    refine (HCN.out P (off + 6) G (cap - 6) _ (.inl ⟨rfl, rfl, rfl, rfl⟩) (by first | exact HB2.out | exact HB2.out.drew | exact zab HB2.out _)).mono ?_
    rintro e u3 ⟨g1, c1, rfl, z1, HQ1, HX1⟩
    dsimp only
    refine hK.out _ _ z1 (fun hHeld => ?_)
    clear hK K
    try simp only [Act.put, zA, zB, zC, zD, zE, zF]
    refine zY (i := 14) rfl fun K hK => ?_
    go_simp
    go_at_call 132
    refine (HCN.out BD (off + F) bn (cap - F) _ (.inr ⟨rfl, rfl, rfl, rfl⟩) HX1.out).mono ?_
    rintro e u4 ⟨g2, c2, rfl, z2, HQ2, HX2⟩
    dsimp only
    refine hK.out _ _ z2 (fun hHeld => ?_)
    clear hK K
    try simp only [Act.put, zA, zB, zC, zD, zE, zF]
    refine zT (i := 15) (v := ?_) rfl ?_ (fun _ _ _ h => h) ?_
    rotate_left
    ·(intro w hSw; (try dsimp only at hSw); go_simp; try (with_reducible rfl))
    try simp only [Act.put, zA, zB, zC, zD, zE, zF]
    refine zY (i := 16) rfl fun K hK => ?_
    go_simp
    refine hK.out _ _ (HC0.out _ (zad HX2.out Lr _)) (fun hHeld => ?_)
    clear hK K
    try simp only [Act.put, zA, zB, zC, zD, zE, zF]
    refine zT (i := 17) (v := ?_) rfl ?_ (fun _ _ _ h => h) ?_
    rotate_left
    ·(intro w hSw; (try dsimp only at hSw); go_simp; try (with_reducible rfl))
    try simp only [Act.put, zA, zB, zC, zD, zE, zF]
    refine wpAnyH_done (by kernel_rfl) ?_ _
    try go_wp2_with fail
    go_meet
    exact ⟨_, g1, c1, g2, c2, rfl, zaa (Rz.of (by first | exact HB2.out | exact HB2.out.drew | exact zab HB2.out _) HQ1.out Br HQ2.out Br)⟩
  obtain ⟨a, gp, pc, gb, bc, rfl, HRZ⟩ := hcut
  obtain ⟨u5, hu5⟩ : ∃ u5, u5 = wc := ⟨_, rfl⟩
  subst hu5
  obtain ⟨q1, q2, q3, q4, q5, q6, q7, q8⟩ := HRZ.out
  have hsp : Sl u5 (some ⟨gp, 0, none⟩) G pc P := by
   obtain ⟨x1, x2, x3, x4, _⟩ := q2.sl HPWF.out (by rw [HPL.out]; omega)
   injection x3 with i1 i2 i3
   subst i1 i3
   rwa [HPL.out] at x4
  have hsb : Sl u5 (some ⟨gb, 0, none⟩) bn bc BD := by
   obtain ⟨x1, x2, x3, x4, _⟩ := q3.sl HBW.out (by rw [HBL.out]; omega)
   injection x3 with i1 i2 i3
   subst i1 i3
   rwa [HBL.out] at x4
  have HPT := zaa (partedQ_any N u5 a k0 n (some ⟨gp, 0, none⟩) G pc gb bn bc P BD _ q1 hsp hsb (.inr fun p hp => by injection hp with hp; subst hp; exact q4) q5 HPW.out hbn2 (by omega) (by omega))
  have HSP := zaa hsp
  clear c0 HCN HC0 q1 q2 q3 q4 q5 q6 q7 q8 hsp hsb HB2 e0 e1 e2 e3 e4 e5 e6 e7 e8 e9 eA eB eC
  go_wp2_with (go_at_call 133; refine HPT.out.mono ?_; rintro e u6 ⟨bb, rfl, HC6, HP6⟩; refine Hid.out ?_)
  apply zaa
  obtain ⟨q1, q2, q3, q4, q5, q6, q7, q8⟩ := HRZ.out
  have HBE6 : Hid (Below w.heap.size w u6) := zaa (q8.trans (HC6.out.below q8.size (by intro i hi e; omega)))
  cases bb with
  | true =>
   go_wp2
   go_ret
   rcases HP6.out with ⟨_, cs, vs, h3, h4, h5, h6⟩ | ⟨h3, _⟩
   ·refine ⟨some ⟨a, 0, none⟩, rfl, HBE6, zaa (.inr ⟨a, some ⟨gp, 0, none⟩, G, pc, .slice (some ⟨gb, 0, none⟩) (qbd P.length (whl k0) cs).length bc, vs, P, cs, rfl, by rw [HRM.out, h3]; rfl, ?_⟩)⟩
    rw [HKE.out, HLEN.out]
    have hbd : BD.take (qbd P.length (whl k0) cs).length = qbd P.length (whl k0) cs := by
     have := (partQ_inv P HPWF.out _ _ _ _ _ _ HBW.out h3).2.1
     conv => lhs; rw [this]
     exact List.take_left
    have hob : OwnB u6 w.heap.size (.slice (some ⟨gb, 0, none⟩) bn bc) BD := q3.same fun i e => by
     have ei : gb = i := by injection e
     subst ei
     exact HC6.out.block gb (by have := zaf q1; omega) (by omega)
    have hot := hob.take (qbd P.length (whl k0) cs).length (by rw [← HBL.out]; exact h4)
    rw [hbd] at hot
    refine ⟨h5, HSP.out.cfa HC6.out (.inr fun p hp => by injection hp with hp; subst hp; exact q4), hot, ?_, .inr fun p hp e => ?_, q7⟩
    ·have h7 := q8.size
     unfold OwnN at h6 ⊢
     rcases h6.2 with h8 | ⟨g, c, cur, e, hg, r⟩
     ·exact ⟨h6.1, .inl h8⟩
     ·exact ⟨h6.1, .inr ⟨g, c, cur, e, zN h7 hg, r⟩⟩
    ·injection hp with hp
     subst hp
     injection e with e
     exact q6 e.symm
   ·cases h3
  | false =>
   go_wp2
   go_ret
   rcases HP6.out with ⟨h3, _⟩ | ⟨_, h3⟩
   ·cases h3
   ·exact ReadQ.no HBE6.out (by rw [HRM.out, h3]; rfl)
theorem readQ_any (ao : Option Addr) (n cap : Nat) (l : List Int) (w : World) (hs : Sl w ao n cap l) :
  Calls Tryz.prog 91 #[.slice ao n cap] w fun e w' => ReadQ l w e w' := by
 by_cases hn : pw n
 ·by_cases hk : isKd (l.getD 0 0)
  ·exact readQ_tail ao n cap l w hs hn hk
  ·have hn2 := zao hn
   have hlen := hs.hlen
   obtain ⟨b, off, rfl, hbl, hc⟩ : ∃ b off, ao = some ⟨b, off, none⟩ ∧ b < w.heap.size ∧ ∀ i, i < n → w.cell? ⟨b, off + i, none⟩ = some (.int .u8 (l.getD i 0)) := by
    rcases hs.hat with h | h
    ·omega
    ·exact h
   have c0 := hc 0 (by omega)
   rw [Nat.add_zero] at c0
   have hk0 := hs.wf.getD 0
   have HNO : Hid (zay l = none) := zaa (by unfold zay; rw [if_neg (fun h => hk h.2)])
   have d1 : decide (pw (n : Int)) = true := decide_eq_true hn
   have d2 : decide (isKd (l.getD 0 0)) = false := decide_eq_false hk
   generalize l.getD 0 0 = k0 at *
   have hw0 : IntKind.i64.wrap k0 = k0 := by rw [IntKind.wrap_i64]; omega
   have hn0 : (0 : Int) < (n : Int) := by omega
   have k01 := hk0.1
   have k02 := hk0.2
   clear hs hc hk hn
   go_enter Tryz.func91, Tryz.ntmps91
   go_wp2_with (first | (go_at_call 31; refine zac (zbi _ _) ?_; rw [d1]) | (go_at_call 78; refine zac (zbv _ _) ?_; rw [d2]))
   go_ret
   exact ReadQ.no Br HNO.out
 ·have hlen := hs.hlen
  have HNO : Hid (zay l = none) := zaa (by unfold zay; rw [hlen, if_neg (fun h => hn h.1)])
  have d1 : decide (pw (n : Int)) = false := decide_eq_false hn
  clear hs hn
  go_enter Tryz.func91, Tryz.ntmps91
  go_wp2_with (go_at_call 31; refine zac (zbi _ _) ?_; rw [d1])
  go_ret
  exact ReadQ.no Br HNO.out
theorem equal7 (ao bo : Option Addr) (n m c d : Nat) (la lb : List Int) (w : World) (ha : Sl w ao n c la) (hb : Sl w bo m d lb) :
  Calls Tryz.prog 80 #[.slice ao n c, .slice bo m d] w fun e w' => e = .returned (.bool (decide (la = lb))) ∧ w' = w := by
 have h1 := zaq ha
 have h2 := zaq hb
 have h3 := str_beq ha.wf hb.wf
 clear ha hb
 go_enter Tryz.func80, Tryz.ntmps80
 go_wp2
 go_ret
 exact ⟨rfl, rfl⟩
theorem chk_rs {k p : Int} : ∀ {pr : Option (List Int)} {cs : List Cl}, chk k p pr cs = 0 → Rs cs
 | _, [], _ => List.Pairwise.nil
 | pr, e :: r, h => by
  unfold chk at h
  split at h
  ·split at h
   ·exact List.Pairwise.cons (fun d hd => chk_first h d hd) (chk_rs h)
   ·simp at h
  ·simp at h
theorem zda {k : Int} {n : Nat} {pr : Option (List Int)} {cs : List Cl} (h : chk k n pr cs = 0) (hn : pw n) : ∀ c ∈ cs, c.fit := fun c hc => (zcv h c hc).fit (by have := zao hn; omega)
def OpenQ (l : List Int) (w : World) (e : Ending) (w' : World) : Prop :=
 ∃ po k, e = .returned (.tuple #[.pointer po, .int .i64 k]) ∧ Hid (Below w.heap.size w w') ∧ Hid ((po = none ∧ k = 60 ∧ ¬ ∃ cs, IsQ (l.getD 0 0) l.length cs l) ∨ ∃ a qo qn qc vb vs cs, po = some ⟨a, 0, none⟩ ∧ k = 0 ∧ IsQ (l.getD 0 0) l.length cs l ∧ (∀ c ∈ cs, c.Wf) ∧ PO w' w.heap.size a (l.getD 0 0) l.length qo qn qc vb vs 0 (shP (l.getD 0 0) cs) (qbd (shP (l.getD 0 0) cs).length (whl (l.getD 0 0)) cs) (qst (shP (l.getD 0 0) cs).length (whl (l.getD 0 0)) 0 cs))
theorem openQ_any (ao : Option Addr) (n cap : Nat) (l : List Int) (w : World) (hs : Sl w ao n cap l) (ht : Tab w) (h0 : 1 < w.heap.size) :
  Calls Tryz.prog 49 #[.slice ao n cap] w fun e w' => OpenQ l w e w' := by
 have HR := zaa (readQ_any ao n cap l w hs)
 have HS := zaa hs
 have HT := zaa ht
 clear hs ht
 go_enter Tryz.func49, Tryz.ntmps49
 go_wp2_with (go_at_call 91; refine HR.out.mono ?_; rintro e w1 ⟨po, rfl, HB1, HQ⟩; refine Hid.out ?_)
 apply zaa
 clear HR
 rcases HQ.out with ⟨rfl, hno⟩ | ⟨a, qo, qn, qc, vb, vs, P, cs, rfl, hrm, hpo⟩
 ·have HNO : Hid (¬ ∃ cs, IsQ (l.getD 0 0) l.length cs l) := zaa (by
   rintro ⟨cs, h⟩
   have := (zdl h).1
   rw [hno] at this
   cases this)
  clear HQ hno
  go_wp2
  go_ret2
  exact ⟨none, 60, rfl, HB1, zaa (.inl ⟨rfl, rfl, HNO.out⟩)⟩
 ·have HRM := zaa hrm
  have HPO := zaa hpo
  obtain ⟨i1, i2, i3, i4, i5, i6, i7⟩ := readQ_inv HS.out.wf hrm
  have hf := zda i3 i2
  have hwf : ∀ c ∈ cs, c.Wf ∧ c.fit := fun c hc => ⟨i5 c hc, hf c hc⟩
  have hz := zbn (l.getD 0 0) P.length cs
  have hn2 := zao i2
  have hfit : szQ (l.getD 0 0) (shP (l.getD 0 0) cs).length cs ≤ l.length := zN (szQ_less i6) i4
  have HWF := zaa i5
  obtain ⟨bo, bc, so, sc, rfl, rfl, hpg⟩ := hpo.pg (qbd_wf _ _ _ hwf) (by omega) (by rw [zbm]; omega)
  have HBY := zaa (bytesQ_any w1 a _ _ qo qn qc bo _ bc so _ sc 0 P _ _ cs hpg (layQ_of i6 hf) (chk_rs i3) i1 i2 hfit (HT.out.on HB1.out h0) (zO h0 HB1.out.size))
  have HPL : Hid ((pkB (l.getD 0 0) l.length cs).length = l.length) := zaa (zdw _ _ _ hfit)
  have HPWF : Hid (Wf (pkB (l.getD 0 0) l.length cs)) := zaa (pkB_wf (by unfold isKd at i1; omega) hwf)
  have hnr := HS.out.hroom
  have HLEN := zaa HS.out.hlen
  clear hrm hpo HQ i1 i2 i3 i4 i5 i6 i7 hf hwf hz hn2 hfit hpg
  obtain ⟨PB, hPB⟩ : ∃ PB, pkB (l.getD 0 0) l.length cs = PB := ⟨_, rfl⟩
  rw [hPB] at HBY HPL HPWF
  have HPB := zaa hPB
  clear hPB
  rw [HLEN.out] at HBY HPL
  cases hd : decide (PB = l) with
  | true =>
   have HEQ : Hid (PB = l) := zaa (by simpa using hd)
   go_wp2_with (first | (go_at_call 92; refine HBY.out.mono ?_; rintro e w2 ⟨g, rfl, HBK, HB2⟩) | (go_at_call 80; refine zac (equal7 _ _ _ _ _ _ PB l _ (HBK.out.2.sl HPL.out HPWF.out hnr) (HS.out.on Lr (zae HB1.out Lr HB2.out))) ?_; rw [hd]))
   go_ret2
   have his : IsQ (l.getD 0 0) l.length cs l := (isQ_iff HS.out.wf cs).2 ⟨⟨P, HRM.out⟩, by rw [HPB.out]; exact HEQ.out⟩
   have hPP : P = shP (l.getD 0 0) cs := by
    have := (zdl his).1
    rw [HRM.out] at this
    injection this with this
    injection this
   have hpo := HPO.out.go HB2.out
   rw [hPP] at hpo
   refine ⟨some ⟨a, 0, none⟩, 0, rfl, zaa (zae HB1.out Lr HB2.out), zaa (.inr ⟨a, qo, qn, qc, _, _, cs, rfl, rfl, his, HWF.out, hpo⟩)⟩
  | false =>
   have HNO : Hid (¬ ∃ cs, IsQ (l.getD 0 0) l.length cs l) := zaa (by
    rintro ⟨ds, h⟩
    obtain ⟨⟨P', h1⟩, h2⟩ := (isQ_iff HS.out.wf ds).1 h
    rw [HRM.out] at h1
    injection h1 with h1
    injection h1 with _ h1
    subst h1
    rw [HPB.out] at h2
    simp [h2] at hd)
   go_wp2_with (first | (go_at_call 92; refine HBY.out.mono ?_; rintro e w2 ⟨g, rfl, HBK, HB2⟩) | (go_at_call 80; refine zac (equal7 _ _ _ _ _ _ PB l _ (HBK.out.2.sl HPL.out HPWF.out hnr) (HS.out.on Lr (zae HB1.out Lr HB2.out))) ?_; rw [hd]))
   go_ret2
   exact ⟨none, 60, rfl, zaa (zae HB1.out Lr HB2.out), zaa (.inl ⟨rfl, rfl, HNO.out⟩)⟩
theorem OwnB.sets {w : World} {B : Nat} {v : Value} {l : List Int} {b N j : Nat} {vs : List Value} (h : OwnB w B v l) (hr : RowC w b N) : OwnB (w.setCells b j vs) B v l := by
 refine h.same fun i e => ?_
 obtain ⟨cur, h1, _⟩ := hr
 have hne := h.apart h1 (by decide)
 have hlt : i < w.heap.size := by unfold OwnB at h; exact (h.lt i e).2
 exact World.heap_setCells_other _ _ _ _ hlt (fun h2 => hne (by rw [e, h2]))
end Go.Proofs.YtbkhjeacmmbabaaGreatDoor
