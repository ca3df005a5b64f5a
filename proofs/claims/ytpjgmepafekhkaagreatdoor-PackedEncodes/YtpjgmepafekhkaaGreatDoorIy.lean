/- The law's live answers true. -/
import Derived.Test.YtpjgmepafekhkaaGreatDoorJx
namespace Go.Proofs.YtpjgmepafekhkaaGreatDoor
open Go.RowKit

/-- What live holds through its calls. -/
structure Lv (w u : World) (s : Nat) : Prop where
  be : Below w.heap.size w u
  c : SlC u (some ⟨s + 4, 0, none⟩) 2 2 [cX, cY]
set_option maxRecDepth 100000 in
theorem Lv.on {w u u' : World} {s : Nat} (h : Lv w u s) (hb : Below u.heap.size u u') : Lv w u' s := ⟨bl_go h.be (Nat.le_refl _) hb, h.c.on hb⟩

set_option maxRecDepth 100000 in
set_option maxHeartbeats 8000000 in
theorem live_any (w : World) (ht : Tab w) (h0 : 1 < w.heap.size) : Calls Tryz.prog 6 #[] w fun e w' => e = .returned (.bool true) ∧ Below w.heap.size w w' := by
  have HT := hidden ht
  obtain ⟨s, hs⟩ : ∃ s, w.heap.size = s := ⟨_, rfl⟩
  have k1 := conv6H w #[.int .u8 97, .int .u8 98] 2 2 s hs
  have k2 := fun X => conv6H (w.alloc X) #[.int .u8 120] 1 1 (s + 1) (by rw [← hs]; simp)
  have k3 := fun X Y => conv6H ((w.alloc X).alloc Y) #[.int .u8 97, .int .u8 99] 2 2 (s + 2) (by rw [← hs]; simp)
  have k4 := fun X Y Z => conv6H (((w.alloc X).alloc Y).alloc Z) #[.int .u8 121, .int .u8 122] 2 2 (s + 3) (by rw [← hs]; simp)
  clear ht
  go_enter Tryz.func6, Tryz.ntmps6
  go_upto_region 2 with fail
  obtain ⟨x, hx⟩ : ∃ x, (((((w.alloc (.cells #[.int .u8 97, .int .u8 98] 5 (2, 3))).alloc (.cells #[.int .u8 120] 5 (1, 2))).alloc (.cells #[.int .u8 97, .int .u8 99] 5 (2, 3))).alloc (.cells #[.int .u8 121, .int .u8 122] 5 (2, 3))).alloc (.cells #[.slice (some ⟨s, 0, none⟩) 2 2, .int .i64 1, .slice (some ⟨s + 1, 0, none⟩) 1 1, .int .i64 0, .int .i64 0, .slice (some ⟨s + 2, 0, none⟩) 2 2, .int .i64 1, .slice (some ⟨s + 3, 0, none⟩) 2 2, .int .i64 0, .int .i64 0] 47)) = x := ⟨_, rfl⟩
  have HL0 : Hid (Lv w x s) := by
    have z1 : (w.alloc (.cells #[.int .u8 97, .int .u8 98] 5 (2, 3))).heap.size = s + 1 := by rw [← hs]; simp
    have z2 : ((w.alloc (.cells #[.int .u8 97, .int .u8 98] 5 (2, 3))).alloc (.cells #[.int .u8 120] 5 (1, 2))).heap.size = s + 2 := by rw [← hs]; simp
    have z3 : (((w.alloc (.cells #[.int .u8 97, .int .u8 98] 5 (2, 3))).alloc (.cells #[.int .u8 120] 5 (1, 2))).alloc (.cells #[.int .u8 97, .int .u8 99] 5 (2, 3))).heap.size = s + 3 := by rw [← hs]; simp
    have z4 : ((((w.alloc (.cells #[.int .u8 97, .int .u8 98] 5 (2, 3))).alloc (.cells #[.int .u8 120] 5 (1, 2))).alloc (.cells #[.int .u8 97, .int .u8 99] 5 (2, 3))).alloc (.cells #[.int .u8 121, .int .u8 122] 5 (2, 3))).heap.size = s + 4 := by rw [← hs]; simp
    have e0 : x.heap[s]? = some (.cells (By [97, 98]).toArray 5 (2, 3)) := by
      rw [← hx]
      refine (Below.heap_alloc _ _ _ (by rw [z4]; omega)).trans ((Below.heap_alloc _ _ _ (by rw [z3]; omega)).trans ((Below.heap_alloc _ _ _ (by rw [z2]; omega)).trans ((Below.heap_alloc _ _ _ (by rw [z1]; omega)).trans ?_)))
      rw [← hs]
      exact heap_alloc_last w _
    have e1 : x.heap[s + 1]? = some (.cells (By [120]).toArray 5 (1, 2)) := by
      rw [← hx]
      refine (Below.heap_alloc _ _ _ (by rw [z4]; omega)).trans ((Below.heap_alloc _ _ _ (by rw [z3]; omega)).trans ((Below.heap_alloc _ _ _ (by rw [z2]; omega)).trans ?_))
      rw [← z1]
      exact heap_alloc_last _ _
    have e2 : x.heap[s + 2]? = some (.cells (By [97, 99]).toArray 5 (2, 3)) := by
      rw [← hx]
      refine (Below.heap_alloc _ _ _ (by rw [z4]; omega)).trans ((Below.heap_alloc _ _ _ (by rw [z3]; omega)).trans ?_)
      rw [← z2]
      exact heap_alloc_last _ _
    have e3 : x.heap[s + 3]? = some (.cells (By [121, 122]).toArray 5 (2, 3)) := by
      rw [← hx]
      refine (Below.heap_alloc _ _ _ (by rw [z4]; omega)).trans ?_
      rw [← z3]
      exact heap_alloc_last _ _
    have e4 : x.heap[s + 4]? = some (.cells #[.slice (some ⟨s, 0, none⟩) cX.key.length 2, .int .i64 cX.kd, .slice (some ⟨s + 1, 0, none⟩) cX.val.length 1, .int .i64 cX.pg, .int .i64 cX.ct, .slice (some ⟨s + 2, 0, none⟩) cY.key.length 2, .int .i64 cY.kd, .slice (some ⟨s + 3, 0, none⟩) cY.val.length 2, .int .i64 cY.pg, .int .i64 cY.ct] 47 (0, 0)) := by
      rw [← hx, ← z4]
      exact heap_alloc_last _ _
    refine hidden ⟨?_, slc_two e4 (sl_lit x [97, 98] 2 (2, 3) s e0 rfl (Wf.cons (by omega) (Wf.cons (by omega) Wf.nil)) (by omega)) (sl_lit x [120] 1 (1, 2) (s + 1) e1 rfl (Wf.cons (by omega) Wf.nil) (by omega)) (sl_lit x [97, 99] 2 (2, 3) (s + 2) e2 rfl (Wf.cons (by omega) (Wf.cons (by omega) Wf.nil)) (by omega)) (sl_lit x [121, 122] 2 (2, 3) (s + 3) e3 rfl (Wf.cons (by omega) (Wf.cons (by omega) Wf.nil)) (by omega))⟩
    rw [← hx]
    exact bl_al (bl_al (bl_al (bl_al (bl_al (Below.refl _ _) (Nat.le_refl _) _) (Nat.le_refl _) _) (Nat.le_refl _) _) (Nat.le_refl _) _) (Nat.le_refl _) _
  rw [hx]
  have HTW : Hid (∀ u, Below w.heap.size w u → Tab u ∧ 1 < u.heap.size) := hidden fun u hu => ⟨HT.out.on hu h0, Nat.lt_of_lt_of_le h0 hu.size⟩
  clear k1 k2 k3 k4 hx hs
  have HZ := hidden (psize_any 2 (some ⟨s + 4, 0, none⟩) 2 2 [cX, cY] x HL0.out.c (by rw [l2_sz]; decide))
  rw [l2_sz] at HZ
  go_wp2_with (first | (go_at_call 25; refine HZ.out.mono ?_; rintro e w1 ⟨rfl, HB1⟩; refine Hid.out ?_))
  apply hidden
  have HL1 := hidden (HL0.out.on HB1.out)
  clear HZ HL0 HB1
  have HE := hidden (encodeQ_any 2 512 (some ⟨s + 4, 0, none⟩) 2 2 [cX, cY] w1 HL1.out.c (by rw [l2_sz]; decide) (HTW.out _ HL1.out.be).1 (HTW.out _ HL1.out.be).2)
  go_wp2_with (first | (go_at_call 8; refine HE.out.mono ?_; rintro e w2 ⟨ao, m, cap, c, rfl, HB2, HQ2⟩; refine Hid.out ?_))
  apply hidden
  obtain ⟨hc, hq⟩ := HQ2.out
  rw [l2_enc] at hc
  subst hc
  obtain ⟨gB, rfl, rfl, rfl, hbk⟩ : ∃ g, ao = some ⟨g, 0, none⟩ ∧ m = 512 ∧ cap = 512 ∧ Bk w2 g pB := by
    rcases hq with ⟨h, _⟩ | ⟨_, g, h1, h2, h3, h4, h5⟩
    · exact absurd rfl h
    · exact ⟨g, h1, h2, h3, h5⟩
  have HBK2 := hidden hbk
  have HL2 := hidden (HL1.out.on HB2.out)
  clear HE HQ2 hq hbk HB2 HL1
  have HD := hidden (decodeQ_any (some ⟨gB, 0, none⟩) 512 512 pB w2 (HBK2.out.sl pB_len pB_wf (by omega)) (HTW.out _ HL2.out.be).1 (HTW.out _ HL2.out.be).2)
  go_wp2_with (first | (go_at_call 15; refine HD.out.mono ?_; rintro e w3 ⟨dk, dao, dn, dcap, dc, rfl, HB3, HQ3⟩; refine Hid.out ?_))
  apply hidden
  obtain ⟨gD, rfl, rfl, rfl, rfl, rfl, hsd⟩ : ∃ g, dk = 2 ∧ dao = some ⟨g, 0, none⟩ ∧ dn = 2 ∧ dcap = 2 ∧ dc = 0 ∧ SlC w3 (some ⟨g, 0, none⟩) 2 2 [cX, cY] := by
    rcases HQ3.out with ⟨_, _, _, _, _, h⟩ | ⟨cs, g, h1, h2, h3, h4, h5, h6, h7, _, h9, hA⟩
    · exact absurd ⟨[cX, cY], pB_is.at⟩ h
    · have := pB_one cs h6
      subst this
      exact ⟨g, by rw [h2, pB_kd], h3, h4, h5, h1, decQ_slc h9 hA h7 l2_fit (by simp)⟩
  have HSD3 := hidden hsd
  have HL3 := hidden (HL2.out.on HB3.out)
  have HBK3 := hidden (HBK2.out.on HB3.out)
  clear HD HQ3 HL2 HBK2 HB3 hsd
  have HO := hidden (openQ_any (some ⟨gB, 0, none⟩) 512 512 pB w3 (HBK3.out.sl pB_len pB_wf (by omega)) (HTW.out _ HL3.out.be).1 (HTW.out _ HL3.out.be).2)
  go_wp2_with (first | (go_at_call 18; refine HO.out.mono ?_; rintro e w4 ⟨po, pk, rfl, HB4, HQ4⟩; refine Hid.out ?_))
  apply hidden
  obtain ⟨a, qo, qn, qc, vb, vs, rfl, rfl, hpo⟩ : ∃ a qo qn qc vb vs, po = some ⟨a, 0, none⟩ ∧ pk = 0 ∧ PO w4 w3.heap.size a 2 512 qo qn qc vb vs 0 (shP 2 [cX, cY]) (qbd (shP 2 [cX, cY]).length (whl 2) [cX, cY]) (qst (shP 2 [cX, cY]).length (whl 2) 0 [cX, cY]) := by
    rcases HQ4.out with ⟨_, _, h⟩ | ⟨a, qo, qn, qc, vb, vs, cs, h1, h2, h3, h4, h5⟩
    · exact absurd ⟨[cX, cY], pB_is.at⟩ h
    · have := pB_one cs h3
      subst this
      rw [pB_kd, pB_len] at h5
      exact ⟨a, qo, qn, qc, vb, vs, h1, h2, h5⟩
  have HL4 := hidden (HL3.out.on HB4.out)
  have HBK4 := hidden (HBK3.out.on HB4.out)
  have HSD4 := hidden (HSD3.out.on HB4.out)
  have HPO4 := hidden hpo
  have HAS : Hid (gB < a ∧ w.heap.size ≤ a ∧ w.heap.size ≤ w3.heap.size) := hidden (by
    have h1 := lt_some HBK3.out
    have h2 := hpo.ha
    have h3 := HL3.out.be.size
    omega)
  obtain ⟨B, hB⟩ : ∃ B, w3.heap.size = B := ⟨_, rfl⟩
  rw [hB] at HPO4 HAS
  have HBB : Hid (B ≤ w4.heap.size) := hidden (by rw [← hB]; exact HB4.out.size)
  clear HO HQ4 HL3 HBK3 HB4 HSD3 hpo hB
  have HSA := hidden (sameAll_self (some ⟨s + 4, 0, none⟩) (some ⟨gD, 0, none⟩) 2 2 2 [cX, cY] w4 HL4.out.c HSD4.out)
  go_wp2_with (first | (go_at_call 17; refine HSA.out.mono ?_; rintro e w5 ⟨rfl, HB5⟩; refine Hid.out ?_))
  apply hidden
  have HL5 := hidden (HL4.out.on HB5.out)
  have HBK5 := hidden (HBK4.out.on HB5.out)
  have HPO5 := hidden (HPO4.out.go HB5.out)
  have HBB5 : Hid (B ≤ w5.heap.size) := hidden (Nat.le_trans HBB.out HB5.out.size)
  clear HSA HL4 HBK4 HSD4 HPO4 HB5 HBB
  have k5 := conv6H w5 #[.int .u8 98] 1 1 w5.heap.size rfl
  obtain ⟨y, hy⟩ : ∃ y, w5.alloc (.cells #[.int .u8 98] 5 (1, 2)) = y := ⟨_, rfl⟩
  have hby : Below w5.heap.size w5 y := by rw [← hy]; exact bl_al (Below.refl _ _) (Nat.le_refl _) _
  have hsk : Sl y (some ⟨w5.heap.size, 0, none⟩) 1 1 [98] := sl_lit y [98] 1 (1, 2) _ (by rw [← hy]; exact heap_alloc_last w5 _) rfl (Wf.cons (by omega) Wf.nil) (by omega)
  obtain ⟨bo, bn, bc, so, sn, sc, hvb, hvs⟩ : ∃ bo bn bc so sn sc, vb = .slice bo bn bc ∧ vs = .slice so sn sc := by
    obtain ⟨bo, bc, h1⟩ := HPO5.out.ob.shape
    obtain ⟨so, sc, h2⟩ := HPO5.out.on.shape
    exact ⟨bo, _, bc, so, _, sc, h1, h2⟩
  subst hvb hvs
  have hsn : sn = 2 := by
    rw [HPO5.out.on.len, qst_length]
    rfl
  subst hsn
  have HI := hidden (insert_end y B a 2 512 qo qn qc bo bn bc so 2 sc _ _ _ [cX, cY] (HPO5.out.go hby) (layQ_of (shP_beg 2 [cX, cY]) l2_fit) (qbd_wf _ _ _ fun c hc => ⟨l2_wf c hc, l2_fit c hc⟩) (by decide) (Nat.le_trans HBB5.out hby.size) cZ (some ⟨w5.heap.size, 0, none⟩) none 1 0 hsk (Sl.nil_any _ _ _ fun _ => rfl) cZ_may pw512 (chk_rs l3_chk) cZ_no l3_sz 1 rfl)
  have HLY := hidden (HL5.out.on hby)
  have HBKY := hidden (HBK5.out.on hby)
  clear hsk HPO5 HL5 HBK5
  go_wp2_with (first | (go_at_call 26; refine HI.out.mono ?_; rintro e w6 ⟨rfl, HC6, HP6⟩; refine Hid.out ?_))
  apply hidden
  have HBE6 : Hid (Below w.heap.size w w6) := hidden (HLY.out.be.trans (HC6.out.below HLY.out.be.size (by have := HAS.out; intro i hi e; omega)))
  have HBK6 : Hid (Bk w6 gB pB) := hidden (HBKY.out.cf HC6.out (by have := HAS.out; omega))
  obtain ⟨ro, rn, rc, co, cn, cc, to_, tn, tc, hp6⟩ := HP6.out
  have htn : tn = 3 := by
    rw [hp6.on.len, qst_length]
    rfl
  subst htn
  have hwf3 := qbd_wf (shP 2 ([cX, cY] ++ [cZ])).length (whl 2) ([cX, cY] ++ [cZ]) fun c hc => ⟨l3_wf c hc, l3_fit c hc⟩
  have hln3 : (qbd (shP 2 ([cX, cY] ++ [cZ])).length (whl 2) ([cX, cY] ++ [cZ])).length ≤ 65536 := by decide
  have hpg6 := hp6.pgq hwf3 (by omega) (by rw [qst_length]; decide)
  have hcn : cn ≤ 65536 := by rw [hp6.ob.len]; exact hln3
  have HPG6 := hidden hpg6
  clear HI HP6 HC6 hp6 hwf3 hln3 hpg6 HLY HBKY k5 hy hby HBB5 HAS
  have k6 := conv6H w6 #[.int .u8 97, .int .u8 99] 2 2 w6.heap.size rfl
  obtain ⟨z, hz⟩ : ∃ z, w6.alloc (.cells #[.int .u8 97, .int .u8 99] 5 (2, 3)) = z := ⟨_, rfl⟩
  have hbz : Below w6.heap.size w6 z := by rw [← hz]; exact bl_al (Below.refl _ _) (Nat.le_refl _) _
  have hsz : Sl z (some ⟨w6.heap.size, 0, none⟩) 2 2 [97, 99] := sl_lit z [97, 99] 2 (2, 3) _ (by rw [← hz]; exact heap_alloc_last w6 _) rfl (Wf.cons (by omega) (Wf.cons (by omega) Wf.nil)) (by omega)
  have HF := hidden (findQ_any z a 2 512 ro rn rc co cn cc to_ 3 tc 0 _ _ _ ([cX, cY] ++ [cZ]) (HPG6.out.on hbz) (layQ_of (shP_beg 2 _) l3_fit) (chk_rs l3_chk) (by omega) (by omega) (some ⟨w6.heap.size, 0, none⟩) 2 2 [97, 99] hsz)
  have HBZ := hidden hbz
  clear hbz hsz
  go_wp2_with (first | (go_at_call 27; refine HF.out.mono ?_; rintro e w7 ⟨r, is, rfl, HB7, HQ7⟩; refine Hid.out ?_))
  apply hidden
  obtain ⟨hf, hi⟩ := HQ7.out
  obtain rfl : r = 1 := fnd_B r hf
  obtain rfl : is = true := hi.2 ⟨cY, rfl, rfl⟩
  have HB67 : Hid (Below w6.heap.size w6 w7) := hidden (bl_go HBZ.out (Nat.le_refl _) HB7.out)
  have HBE7 : Hid (Below w.heap.size w w7) := hidden (bl_go HBE6.out (Nat.le_refl _) HB67.out)
  have hbk7 := HBK6.out.on HB67.out
  have HLN := hidden (qlen_any w7 a 2 512 ro rn rc co cn cc to_ 3 tc 0 _ _ _ (HPG6.out.on HB67.out))
  have c9 := hbk7.cell 9 (by rw [pB_len]; omega)
  have cA := hbk7.cell 10 (by rw [pB_len]; omega)
  rw [pB_9.1] at c9
  rw [pB_9.2] at cA
  clear HF HQ7 hf hi HBK6 HPG6 HB7 HB67 HBZ hbk7 k6 hz HBE6
  go_wp2_with (first | (go_at_call 22; refine same_call HLN.out ?_))
  go_ret
  exact ⟨rfl, HBE7.out⟩
end Go.Proofs.YtpjgmepafekhkaaGreatDoor
