/- The walk of the law PackedDecodes. -/
import Derived.Test.YtobfkcepjnjfpaaGreatDoorJ44
import Derived.Test.YtobfkcepjnjfpaaGreatDoorJ49
import Derived.Test.YtobfkcepjnjfpaaGreatDoorJ26
namespace Go.Proofs.YtobfkcepjnjfpaaGreatDoor
open Go.RowKit

set_option maxRecDepth 100000 in
theorem take5 {L : List Value} {i : Nat} {x0 x1 x2 x3 x4 : Value} (h0 : L[i * 5]? = some x0) (h1 : L[i * 5 + 1]? = some x1) (h2 : L[i * 5 + 2]? = some x2) (h3 : L[i * 5 + 3]? = some x3) (h4 : L[i * 5 + 4]? = some x4) : L.take ((i + 1) * 5) = L.take (i * 5) ++ [x0, x1, x2, x3, x4] := by
  rw [show (i + 1) * 5 = i * 5 + 1 + 1 + 1 + 1 + 1 by omega, List.take_add_one, List.take_add_one, List.take_add_one, List.take_add_one, List.take_add_one, h0, h1, h2, h3, h4]
  simp
set_option maxRecDepth 100000 in
/-- The j-th cell, as it lies. -/
theorem Ov7.five {w : World} {B hi g : Nat} {cs : List Cl} {vs : List Value} (h : Ov7 w B hi g cs vs) {j : Nat} (hj : j < cs.length) : ∃ ka kn kc kd va vn vc pg ct, w.cell? ⟨g, j * 5, none⟩ = some (.slice ka kn kc) ∧ w.cell? ⟨g, j * 5 + 1, none⟩ = some (.int .i64 kd) ∧ w.cell? ⟨g, j * 5 + 2, none⟩ = some (.slice va vn vc) ∧ w.cell? ⟨g, j * 5 + 3, none⟩ = some (.int .i64 pg) ∧ w.cell? ⟨g, j * 5 + 4, none⟩ = some (.int .i64 ct) ∧ vs.take ((j + 1) * 5) = vs.take (j * 5) ++ [.slice ka kn kc, .int .i64 kd, .slice va vn vc, .int .i64 pg, .int .i64 ct] := by
  obtain ⟨d, hd⟩ : ∃ d, cs[j]? = some d := ⟨_, List.getElem?_eq_getElem hj⟩
  obtain ⟨ka, kc, va, vc, p0, p1, p2, p3, p4, _⟩ := R5B.at j d h.2.1 hd
  have hcl := World.ownsRow.cells h.1 (g := g) rfl
  have c0 := hcl _ _ p0
  have c1 := hcl _ _ p1
  have c2 := hcl _ _ p2
  have c3 := hcl _ _ p3
  have c4 := hcl _ _ p4
  rw [Addr.add_lit, Nat.zero_add] at c0 c1 c2 c3 c4
  exact ⟨_, _, _, _, _, _, _, _, _, c0, c1, c2, c3, c4, take5 p0 p1 p2 p3 p4⟩
set_option maxRecDepth 100000 in
theorem Ov7.len {w : World} {B hi g : Nat} {cs : List Cl} {vs : List Value} (h : Ov7 w B hi g cs vs) : vs.length = cs.length * 5 := h.1.1
set_option maxRecDepth 100000 in
set_option maxHeartbeats 16000000 in
theorem walk_PackedDecodes_y (ao : Option Addr) (n cap : Nat) (b : List Int) (w : World) (ht : Tab w) (h0 : 0 < w.heap.size) (hs : Sl w ao n cap b) (h8 : n + 3 ≤ 140737488355328) (k : Int) (cs : List Cl) (hk : b.getD 0 0 = k) (hIs : IsQ k n cs b) (hwf : ∀ c ∈ cs, c.Wf) :
    Calls Tryz.prog 3 #[.slice ao n cap] w fun e u => e = .returned (.bool true) ∧ Below w.heap.size w u := by
  have HLV := hidden (live_any w ht h0)
  have HS := hidden hs
  have HLE := hidden hs.hlen
  have HWF := hidden hs.wf
  have HT := hidden ht
  have hpn := pw_nat hIs.sz
  have HN6 : Hid (n ≤ 65536) := hidden hpn.2
  have HK := hidden hk
  have HIS := hidden hIs
  have hfc := chk_fit hIs.ok hIs.sz
  have HCW : Hid (∀ c ∈ cs, c.Wf ∧ c.key.length ≤ 65536 ∧ c.val.length ≤ 65536) := hidden (fun c hc => ⟨hwf c hc, by have := (hfc c hc).key; omega, by have := (hfc c hc).val; omega⟩)
  have HCF := hidden hfc
  have HCN : Hid (cs.length ≤ 65536) := hidden (by
    have h2 := szQ_eq k (shP k cs).length cs
    have h3 := hIs.fit
    omega)
  obtain ⟨N, hN⟩ : ∃ N, cs.length = N := ⟨_, rfl⟩
  have HN := hidden hN
  have hNI : (N : Int) ≤ 65536 := by have := HCN.out; omega
  have HONE : Hid (∀ ds, IsQ k n ds b → ds = cs) := hidden (fun ds h => (h.one hIs).2.2)
  clear hs ht hpn hIs hwf hfc hk hN
  go_enter Tryz.func3, Tryz.ntmps3
  go_wp2_with (go_at_call 4; refine HLV.out.mono ?_; rintro e w1 ⟨rfl, hb1⟩; have HB1 := hidden hb1; clear hb1; refine Hid.out ?_)
  apply hidden
  have HLN := hidden (lent_any ao n cap b w1 (HS.out.on (Nat.le_refl _) HB1.out))
  obtain ⟨g, hg⟩ : ∃ g, w1.heap.size = g := ⟨_, rfl⟩
  rw [hg] at HLN
  clear HLV
  go_wp2_with (go_at_call 5; refine HLN.out.mono ?_; rintro e w2 ⟨rfl, hk2, hba⟩; have HK2 := hidden hk2; have HBa := hidden hba; clear hk2 hba; refine Hid.out ?_)
  apply hidden
  rw [← hg] at HBa
  have HG : Hid (w.heap.size ≤ g) := hidden (by rw [← hg]; exact HB1.out.size)
  have HB2 := hidden (bl_go HB1.out (Nat.le_refl _) HBa.out)
  have HG2 : Hid (g < w2.heap.size) := hidden (World.ownsRow.lt HK2.out g rfl).2
  have HXW : Hid (Wf (b ++ [71, 72, 73])) := hidden (HWF.out.append (by intro x hx; simp only [List.mem_cons, List.not_mem_nil, or_false] at hx; omega))
  have HXL : Hid ((b ++ [71, 72, 73] : List Int).length = n + 3) := hidden (by rw [List.length_append, HLE.out]; rfl)
  have HSX : Hid (∀ u B, OwnB u B (.slice (some ⟨g, 0, none⟩) (n + 3) (n + 3)) (b ++ [71, 72, 73]) → Sl u (some ⟨g, 0, none⟩) n (n + 3) b) := hidden (fun u B h => by
    have := own_head h HXW.out HXL.out (m := n) (by omega) h8 (n + 3) (by omega)
    rw [show (b ++ ([71, 72, 73] : List Int)).take n = b from by rw [← HLE.out]; exact List.take_left' rfl] at this
    exact this)
  have HE1 := hidden (decodeQ_own _ n (n + 3) b w2 (HSX.out _ _ HK2.out) (HT.out.on HB2.out h0) (Nat.lt_of_lt_of_le h0 HB2.out.size))
  obtain ⟨C, hC⟩ : ∃ C, w2.heap.size = C := ⟨_, rfl⟩
  have HGC : Hid (g < C) := hidden (by rw [← hC]; exact HG2.out)
  have HWC : Hid (w.heap.size ≤ C) := hidden (by rw [← hC]; exact HB2.out.size)
  clear HLN HBa HB1 hg HG2
  go_wp2_with (go_at_call 6; refine HE1.out.mono ?_; rintro e w3 ⟨k3, o3, n3, c3, e3, rfl, HBb, HQ⟩; refine Hid.out ?_)
  apply hidden
  obtain ⟨g1, vs1, rfl, rfl, rfl, rfl, rfl, hov⟩ : ∃ g1 vs1, e3 = 0 ∧ k = k3 ∧ o3 = some ⟨g1, 0, none⟩ ∧ N = n3 ∧ N = c3 ∧ Ov7 w3 C w3.heap.size g1 cs vs1 := by
    rcases HQ.out with ⟨_, _, _, _, _, hno⟩ | ⟨ds, g1, P, a1, a2, a3, a4, a5, a6, a7, a8, a9, aa, ab⟩
    · exact absurd ⟨cs, by rw [HK.out, HLE.out]; exact HIS.out⟩ hno
    · rw [HK.out, HLE.out] at a6
      obtain rfl := HONE.out ds a6
      obtain ⟨vs, hv⟩ := ov7_of (B := w2.heap.size) (hi := w3.heap.size) a8 a9 aa ab (fun d hd => (HCW.out d hd).2) (by have := HCN.out; omega)
      rw [hC] at hv
      exact ⟨g1, vs, a1, by rw [a2, HK.out], a3, by rw [a4, HN.out], by rw [a5, HN.out], hv⟩
  have HV1 := hidden hov
  have HB3 := hidden (bl_go HB2.out (Nat.le_refl _) HBb.out)
  have HK3 := hidden (HK2.out.on (Nat.le_refl _) HBb.out)
  have HC3 : Hid (C ≤ w3.heap.size) := hidden (by rw [← hC]; exact HBb.out.size)
  obtain ⟨H1, hH1⟩ : ∃ H1, w3.heap.size = H1 := ⟨_, rfl⟩
  rw [hH1] at HV1
  have HG1 : Hid (g1 < H1) := hidden (by rw [← hH1]; exact (World.ownsRow.lt HV1.out.1 g1 rfl).2)
  have HH1 : Hid (C ≤ H1) := hidden (by rw [← hH1]; exact HC3.out)
  have HR := hidden (rdecQ_any ao n cap b w3 (HS.out.on (Nat.le_refl _) HB3.out))
  clear HE1 HQ hov HK2 HB2 hC HBb
  go_wp2_with (go_at_call 7; refine HR.out.mono ?_; rintro e w4 ⟨k4, wo, wn, wc, e4, rfl, HBc, HQ⟩; refine Hid.out ?_)
  apply hidden
  obtain ⟨rfl, rfl, rfl, hod⟩ : e4 = 0 ∧ k = k4 ∧ N = wn ∧ OwnD w4 w3.heap.size (.slice wo N wc) cs := by
    rcases HQ.out with ⟨_, _, _, _, _, hno⟩ | ⟨ds, a1, a2, a3, a4, a5, a6, a7⟩
    · exact absurd ⟨cs, by rw [HK.out, HLE.out]; exact HIS.out⟩ hno
    · rw [HK.out, HLE.out] at a4
      obtain rfl := HONE.out ds a4
      rw [a3, HN.out] at a7
      exact ⟨a1, by rw [a2, HK.out], by rw [a3, HN.out], a7⟩
  have HW : Hid (OwnD w4 C (.slice wo N wc) cs) := hidden (by
    obtain ⟨vs, q1, q2⟩ := hod
    rw [hH1] at q1 q2
    exact ⟨vs, ⟨q1.1, q1.2.imp id (fun ⟨g, cap, cur, e, hg, r⟩ => ⟨g, cap, cur, e, Nat.le_trans HH1.out hg, r⟩)⟩, q2.low HH1.out⟩)
  have HB4 := hidden (bl_go HB3.out (Nat.le_refl _) HBc.out)
  have HK4 := hidden (HK3.out.on (Nat.le_refl _) HBc.out)
  have HV14 := hidden (HV1.out.on HBc.out)
  have HC4 : Hid (H1 ≤ w4.heap.size) := hidden (by rw [← hH1]; exact HBc.out.size)
  have HSL : Hid (∀ u B hi g vs, Ov7 u B hi g cs vs → SlC u (some ⟨g, 0, none⟩) N N cs) := hidden (fun u B hi g vs h => by
    have := h.slc HCW.out (by have := HCN.out; omega)
    rw [HN.out] at this
    exact this)
  have HSD : Hid (∀ u, OwnD u C (.slice wo N wc) cs → SlC u wo N wc cs) := hidden (fun u h => by
    obtain ⟨a1, c1, e, h2⟩ := h.slc (fun c hc => ⟨(HCW.out c hc).1, by have := (HCW.out c hc).2.1; omega, by have := (HCW.out c hc).2.2; omega⟩) (by have := HCN.out; omega)
    rw [HN.out] at e h2
    injection e with e1 _ e3
    rw [← e1, ← e3] at h2
    exact h2)
  have HSA := hidden (sameAll_self _ _ N _ _ cs w4 (HSL.out _ _ _ _ _ HV14.out) (HSD.out _ HW.out))
  clear HR HQ hod hH1 HV1 HK3 HB3 HBc HC3
  go_wp2_with (go_at_call 8; refine HSA.out.mono ?_; rintro e w5 ⟨rfl, HBd⟩; refine Hid.out ?_)
  apply hidden
  have HB5 := hidden (bl_go HB4.out (Nat.le_refl _) HBd.out)
  have HK5 := hidden (HK4.out.on (Nat.le_refl _) HBd.out)
  have HV15 := hidden (HV14.out.on HBd.out)
  have HW5 := hidden (HW.out.on HBd.out)
  obtain ⟨B2, hB2⟩ : ∃ B2, w5.heap.size = B2 := ⟨_, rfl⟩
  have HB2' : Hid (H1 ≤ B2) := hidden (by rw [← hB2]; exact Nat.le_trans HC4.out HBd.out.size)
  have HE1 := hidden (decodeQ_own _ n (n + 3) b w5 (HSX.out _ _ HK5.out) (HT.out.on HB5.out h0) (Nat.lt_of_lt_of_le h0 HB5.out.size))
  clear HSA HBd HB4 HK4 HV14 HW HC4
  go_wp2_with (go_at_call 6; refine HE1.out.mono ?_; rintro e w6 ⟨k6, o6, n6, c6, e6, rfl, HBb, HQ⟩; refine Hid.out ?_)
  apply hidden
  obtain ⟨g2, vs2, rfl, rfl, rfl, rfl, rfl, hov⟩ : ∃ g2 vs2, e6 = 0 ∧ k = k6 ∧ o6 = some ⟨g2, 0, none⟩ ∧ N = n6 ∧ N = c6 ∧ Ov7 w6 B2 w6.heap.size g2 cs vs2 := by
    rcases HQ.out with ⟨_, _, _, _, _, hno⟩ | ⟨ds, g1, P, a1, a2, a3, a4, a5, a6, a7, a8, a9, aa, ab⟩
    · exact absurd ⟨cs, by rw [HK.out, HLE.out]; exact HIS.out⟩ hno
    · rw [HK.out, HLE.out] at a6
      obtain rfl := HONE.out ds a6
      obtain ⟨vs, hv⟩ := ov7_of (B := w5.heap.size) (hi := w6.heap.size) a8 a9 aa ab (fun d hd => (HCW.out d hd).2) (by have := HCN.out; omega)
      rw [hB2] at hv
      exact ⟨g1, vs, a1, by rw [a2, HK.out], a3, by rw [a4, HN.out], by rw [a5, HN.out], hv⟩
  obtain ⟨H2, hH2⟩ : ∃ H2, w6.heap.size = H2 := ⟨_, rfl⟩
  rw [hH2] at hov
  have HV26 := hidden hov
  have HB6 := hidden (bl_go HB5.out (Nat.le_refl _) HBb.out)
  have HK6 := hidden (HK5.out.on (Nat.le_refl _) HBb.out)
  have HV16 := hidden (HV15.out.on HBb.out)
  have HW6 := hidden (HW5.out.on HBb.out)
  have HBH : Hid (B2 ≤ H2) := hidden (by rw [← hH2, ← hB2]; exact HBb.out.size)
  have HOP := hidden (openQ_any7 _ n (n + 3) b w6 (HSX.out _ _ HK6.out) (HT.out.on HB6.out h0) (Nat.lt_of_lt_of_le h0 HB6.out.size))
  clear HE1 HQ hov HK5 HB5 HV15 HW5 HBb hB2
  go_wp2_with (go_at_call 9; refine HOP.out.mono ?_; rintro e w7 ⟨po, e7, rfl, HBb, HQ⟩; refine Hid.out ?_)
  apply hidden
  obtain ⟨a, gp, qn, qc, vb, vs, rfl, rfl, hgp, hpo⟩ : ∃ a gp qn qc vb vs, po = some ⟨a, 0, none⟩ ∧ e7 = 0 ∧ H2 ≤ gp ∧ PO w7 H2 a k n (some ⟨gp, 0, none⟩) qn qc vb vs 0 (shP k cs) (qbd (shP k cs).length (whl k) cs) (qst (shP k cs).length (whl k) 0 cs) := by
    rcases HQ.out with ⟨_, _, hno⟩ | ⟨a, qo, qn, qc, vb, vs, ds, a1, a2, a3, a4, ⟨gp, a5, a6⟩, a7⟩
    · exact absurd ⟨cs, by rw [HK.out, HLE.out]; exact HIS.out⟩ hno
    · rw [HK.out, HLE.out] at a3 a7
      obtain rfl := HONE.out ds a3
      subst a5
      rw [hH2] at a6 a7
      exact ⟨a, gp, qn, qc, vb, vs, a1, a2, a6, a7⟩
  have HPO := hidden hpo
  have HGP := hidden hgp
  have HB7 := hidden (bl_go HB6.out (Nat.le_refl _) HBb.out)
  have HK7 := hidden (HK6.out.on (Nat.le_refl _) HBb.out)
  have HV17 := hidden (HV16.out.on HBb.out)
  have HV27 := hidden (HV26.out.on HBb.out)
  have HW7 := hidden (HW6.out.on HBb.out)
  have HAL := hidden (asLent_any g g n ao cap b w7 HK7.out (HS.out.on (Nat.le_refl _) HB7.out) h8)
  clear HOP HQ hpo hgp HK6 HB6 HV16 HV26 HW6 HBb hH2
  go_wp2_with (go_at_call 10; refine HAL.out.mono ?_; rintro e w8 ⟨rfl, hgr⟩; have HGR := hidden hgr; clear hgr; refine Hid.out ?_)
  apply hidden
  have HB8 : Hid (Below w.heap.size w w8) := hidden (HB7.out.grown HGR.out HB7.out.size (fun k hk => by injection hk with hk; have := HG.out; omega))
  have HV18 := hidden (HV17.out.gr7 HGR.out HGC.out)
  have HV28 := hidden (HV27.out.gr7 HGR.out (by have h1 := HGC.out; have h2 := HH1.out; have h3 := HB2'.out; omega))
  have HW8 := hidden (HW7.out.gr7 HGR.out HGC.out)
  have HP8 := hidden (HPO.out.gr7 HGP.out HGR.out (by have h1 := HGC.out; have h2 := HH1.out; have h3 := HB2'.out; have h4 := HBH.out; omega))
  have HSA := hidden (sameAll_self _ _ N _ _ cs w8 (HSL.out _ _ _ _ _ HV18.out) (HSD.out _ HW8.out))
  clear HAL HK7 HB7 HV17 HV27 HW7 HPO HGR
  go_wp2_with (go_at_call 8; refine HSA.out.mono ?_; rintro e w9 ⟨rfl, HBd⟩; refine Hid.out ?_)
  apply hidden
  have HB9 := hidden (bl_go HB8.out (Nat.le_refl _) HBd.out)
  have HV19 := hidden (HV18.out.on HBd.out)
  have HV29 := hidden (HV28.out.on HBd.out)
  have HW9 := hidden (HW8.out.on HBd.out)
  have HP9 := hidden (HP8.out.go HBd.out)
  clear HSA HB8 HV18 HV28 HW8 HP8 HBd
  have HSA := hidden (sameAll_self _ _ N _ _ cs w9 (HSL.out _ _ _ _ _ HV29.out) (HSD.out _ HW9.out))
  go_wp2_with (go_at_call 8; refine HSA.out.mono ?_; rintro e x ⟨rfl, HBd⟩; refine Hid.out ?_)
  apply hidden
  have HBx := hidden (bl_go HB9.out (Nat.le_refl _) HBd.out)
  have HV1 := hidden (HV19.out.on HBd.out)
  have HV2 := hidden (HV29.out.on HBd.out)
  obtain ⟨bo, bc, so, sc, rfl, rfl, hpg⟩ := (HP9.out.go HBd.out).pg (qbd_wf _ _ _ fun c hc => ⟨(HCW.out c hc).1, HCF.out c hc⟩) (by have h2 := szQ_eq k (shP k cs).length cs; have h3 := HIS.out.fit; have h4 := HN6.out; omega) (by rw [qst_length]; have := HCN.out; omega)
  have HPG := hidden hpg
  have HBY := hidden (bytesQ_any x a k n _ _ _ _ _ _ _ _ _ _ _ _ _ cs hpg (layQ_of (shP_beg k cs) HCF.out) (chk_rs HIS.out.ok) HIS.out.kd HIS.out.sz HIS.out.fit (HT.out.on HBx.out h0) (Nat.lt_of_lt_of_le h0 HBx.out.size))
  have HWN : Hid ((qst (shP k cs).length (whl k) 0 cs).length = N) := hidden (by rw [qst_length, HN.out])
  clear HSA HB9 HV19 HV29 HW9 HP9 HBd hpg
  go_wp2_with (first | (go_at_call 11; refine HBY.out.mono ?_; rintro e y ⟨gb, rfl, HBK, HBd⟩; refine Hid.out ?_))
  apply hidden
  have HBy := hidden (bl_go HBx.out (Nat.le_refl _) HBd.out)
  have HV1y := hidden (HV1.out.on HBd.out)
  have HV2y := hidden (HV2.out.on HBd.out)
  have hsb : Sl y (some ⟨gb, 0, none⟩) n n b := by
    have h1 := HBK.out.2
    rw [HIS.out.eq] at h1
    exact h1.sl HLE.out HWF.out (by omega)
  have HSM := hidden (same_any (some ⟨gb, 0, none⟩) ao n n n cap b b y hsb (HS.out.on (Nat.le_refl _) HBy.out))
  rw [show decide (b = b) = true by simp] at HSM
  have HPGy := hidden (HPG.out.on HBd.out)
  rw [HWN.out] at HPGy
  have HKI := hidden (pkind_any _ _ _ _ _ _ _ _ _ _ _ _ _ _ _ _ _ HPGy.out)
  have HLN2 := hidden (qlen_any _ _ _ _ _ _ _ _ _ _ _ _ _ _ _ _ _ HPGy.out)
  clear HBY hsb HBx HV1 HV2 HPG
  go_wp2_with (first
    | (go_at_call 12; refine same_call HSM.out ?_)
    | (go_at_call 13; refine same_call HKI.out ?_)
    | (go_at_call 14; refine same_call HLN2.out ?_))
  clear HSM HKI HLN2 HPGy HBK HBd HSL HSD
  go_loopw [23, 24] (fun v i wr => ∃ (ov : Value) (j : Nat), ov = v ∧ i = .int .i64 (j : Int) ∧ j ≤ N ∧ Hid (Al7 wr C C H1 B2 H2 g1 g2 ov j (vs1.take (j * 5)) cs vs1 vs2) ∧ Hid (Below w.heap.size w wr)) (fun _ i _ => N - (RowKit.intOf i).toNat)
  case atStart => exact ⟨_, 0, rfl, rfl, by omega, hidden ⟨by simpa using World.ownsRow_nil _ _ _ _, by simp [Value.ownBlock], by simp [Value.ownBlock], HV1y.out, HV2y.out⟩, HBy⟩
  case round =>
    obtain ⟨ov, j, hov, rfl, hj, HA, HB⟩ := hrel
    subst hov
    have bj : (j : Int) ≤ 65536 := by omega
    by_cases hlt : j < N
    · have hltI : (j : Int) < (N : Int) := by omega
      obtain ⟨ka, kn, kc, kd, va, vn, vc, pg, ct, c0, c1, c2, c3, c4, htk⟩ := HA.out.o1.five (j := j) (by rw [HN.out]; exact hlt)
      have HTK := hidden htk
      obtain ⟨y1, hy1⟩ : ∃ y, wr.alloc (.cells #[.slice ka kn kc, .int .i64 kd, .slice va vn vc, .int .i64 pg, .int .i64 ct] 37) = y := ⟨_, rfl⟩
      have hb1 : Below wr.heap.size wr y1 := by rw [← hy1]; exact bl_al (Below.refl _ _) (Nat.le_refl _) _
      have HAY := hidden (HA.out.on hb1)
      have HXY : Hid (∀ i u, ([.slice ka kn kc, .int .i64 kd, .slice va vn vc, .int .i64 pg, .int .i64 ct] : List Value)[i]? = some u → y1.cell? ⟨wr.heap.size, 0 + i, none⟩ = some u) := hidden (by
        obtain ⟨f0, f1, f2, f3, f4⟩ := (C5.box wr (.slice ka kn kc) (.int .i64 kd) (.slice va vn vc) (.int .i64 pg) (.int .i64 ct)).cells
        rw [hy1] at f0 f1 f2 f3 f4
        intro i u hu
        have hj5 : i < 5 := (List.getElem?_eq_some_iff.1 hu).1
        have hj' : i = 0 ∨ i = 1 ∨ i = 2 ∨ i = 3 ∨ i = 4 := by omega
        rcases hj' with rfl | rfl | rfl | rfl | rfl <;> (simp only [List.getElem?_cons_zero, List.getElem?_cons_succ, Option.some.injEq] at hu; subst hu; assumption))
      have HBY : Hid (Below w.heap.size w y1) := hidden (bl_go HB.out (Nat.le_refl _) hb1)
      have HCY : Hid (C ≤ y1.heap.size) := hidden (by have := World.ownsRow.lt HAY.out.o1.1 g1 rfl; omega)
      have HNB : Hid (j + 1 ≤ 400000) := hidden (by have := hNI; omega)
      clear htk hb1 HA HB
      go_wp2_with (at_builtin; refine app_al7 _ rfl _ _ rfl C C H1 B2 H2 g1 g2 j ov _ [.slice ka kn kc, .int .i64 kd, .slice va vn vc, .int .i64 pg, .int .i64 ct] cs vs1 vs2 wr.heap.size rfl rfl HAY.out rfl HXY.out (by intro u hu; simp only [List.mem_cons, List.not_mem_nil, or_false] at hu; rcases hu with rfl | rfl | rfl | rfl | rfl <;> rfl) HNB.out HCY.out ?_; intro v2 u2 HA2 HB2; refine Hid.out ?_)
      apply hidden
      have HBU : Hid (Below w.heap.size w u2) := hidden (HBY.out.trans (HB2.out.mono HWC.out))
      have HAU : Hid (Al7 u2 C C H1 B2 H2 g1 g2 v2 (j + 1) (vs1.take ((j + 1) * 5)) cs vs1 vs2) := hidden (by
        have := HA2.out
        first | (rw [← HTK.out] at this; exact this) | (rw [List.append_assoc, ← HTK.out] at this; exact this))
      clear HA2 HB2 HAY HXY HBY HCY HNB HTK hy1 c0 c1 c2 c3 c4
      go_wp2
      go_roundw
      case rel => exact ⟨_, j + 1, rfl, by go_num, by omega, HAU, HBU⟩
      case measure => simp [RowKit.intOf]; omega
    · obtain rfl : j = N := by omega
      have hltI : ¬ (j : Int) < (j : Int) := by omega
      have HA0 : Hid (Al7 wr C C H1 B2 H2 g1 g2 ov (j + 0) (vs1 ++ vs2.take (0 * 5)) cs vs1 vs2) := hidden (by
        have := HA.out
        rw [List.take_of_length_le (by rw [this.o1.len, HN.out]; exact Nat.le_refl _)] at this
        simpa using this)
      go_wp2_with fail
      clear hltI hlt HA
      go_loopw [23, 25] (fun v i wr => ∃ (ov : Value) (q : Nat), ov = v ∧ i = .int .i64 (q : Int) ∧ q ≤ j ∧ Hid (Al7 wr C C H1 B2 H2 g1 g2 ov (j + q) (vs1 ++ vs2.take (q * 5)) cs vs1 vs2) ∧ Hid (Below w.heap.size w wr)) (fun _ i _ => j - (RowKit.intOf i).toNat)
      case atStart => exact ⟨_, 0, rfl, rfl, by omega, HA0, HB⟩
      case round =>
        clear HA0 HB
        obtain ⟨ov, q, hov, rfl, hq, HA, HB⟩ := hrel
        subst hov
        have bq : (q : Int) ≤ 65536 := by omega
        by_cases hlt : q < j
        · have hltI : (q : Int) < (j : Int) := by omega
          obtain ⟨ka, kn, kc, kd, va, vn, vc, pg, ct, c0, c1, c2, c3, c4, htk⟩ := HA.out.o2.five (j := q) (by rw [HN.out]; exact hlt)
          have HTK := hidden htk
          obtain ⟨y1, hy1⟩ : ∃ y, wr.alloc (.cells #[.slice ka kn kc, .int .i64 kd, .slice va vn vc, .int .i64 pg, .int .i64 ct] 37) = y := ⟨_, rfl⟩
          have hb1 : Below wr.heap.size wr y1 := by rw [← hy1]; exact bl_al (Below.refl _ _) (Nat.le_refl _) _
          have HAY := hidden (HA.out.on hb1)
          have HXY : Hid (∀ i u, ([.slice ka kn kc, .int .i64 kd, .slice va vn vc, .int .i64 pg, .int .i64 ct] : List Value)[i]? = some u → y1.cell? ⟨wr.heap.size, 0 + i, none⟩ = some u) := hidden (by
            obtain ⟨f0, f1, f2, f3, f4⟩ := (C5.box wr (.slice ka kn kc) (.int .i64 kd) (.slice va vn vc) (.int .i64 pg) (.int .i64 ct)).cells
            rw [hy1] at f0 f1 f2 f3 f4
            intro i u hu
            have hj5 : i < 5 := (List.getElem?_eq_some_iff.1 hu).1
            have hj' : i = 0 ∨ i = 1 ∨ i = 2 ∨ i = 3 ∨ i = 4 := by omega
            rcases hj' with rfl | rfl | rfl | rfl | rfl <;> (simp only [List.getElem?_cons_zero, List.getElem?_cons_succ, Option.some.injEq] at hu; subst hu; assumption))
          have HBY : Hid (Below w.heap.size w y1) := hidden (bl_go HB.out (Nat.le_refl _) hb1)
          have HCY : Hid (C ≤ y1.heap.size) := hidden (by have := World.ownsRow.lt HAY.out.o1.1 g1 rfl; omega)
          have HNB : Hid ((j + q) + 1 ≤ 400000) := hidden (by have := hNI; omega)
          clear htk hb1 HA HB
          go_wp2_with (at_builtin; refine app_al7 _ rfl _ _ rfl C C H1 B2 H2 g1 g2 (j + q) ov _ [.slice ka kn kc, .int .i64 kd, .slice va vn vc, .int .i64 pg, .int .i64 ct] cs vs1 vs2 wr.heap.size rfl rfl HAY.out rfl HXY.out (by intro u hu; simp only [List.mem_cons, List.not_mem_nil, or_false] at hu; rcases hu with rfl | rfl | rfl | rfl | rfl <;> rfl) HNB.out HCY.out ?_; intro v2 u2 HA2 HB2; refine Hid.out ?_)
          apply hidden
          have HBU : Hid (Below w.heap.size w u2) := hidden (HBY.out.trans (HB2.out.mono HWC.out))
          have HAU : Hid (Al7 u2 C C H1 B2 H2 g1 g2 v2 (j + (q + 1)) (vs1 ++ vs2.take ((q + 1) * 5)) cs vs1 vs2) := hidden (by
            have := HA2.out
            first | (rw [← HTK.out] at this; exact this) | (rw [List.append_assoc, ← HTK.out] at this; exact this))
          clear HA2 HB2 HAY HXY HBY HCY HNB HTK hy1 c0 c1 c2 c3 c4
          go_wp2
          go_roundw
          case rel => exact ⟨_, q + 1, rfl, by go_num, by omega, HAU, HBU⟩
          case measure => simp [RowKit.intOf]; omega
        · obtain rfl : q = j := by omega
          have hltI : ¬ (q : Int) < (q : Int) := by omega
          have hal : Al7 wr C C H1 B2 H2 g1 g2 ov (q + q) (vs1 ++ vs2) cs vs1 vs2 := by
            have := HA.out
            rw [List.take_of_length_le (l := vs2) (by rw [this.o2.len, HN.out]; exact Nat.le_refl _)] at this
            exact this
          obtain ⟨lo, lc, hlo⟩ : ∃ lo lc, ov = .slice lo (q + q) lc := by
            rcases hal.row.2 with ⟨e, h0⟩ | ⟨g, cap, cur, e, _⟩
            · exact ⟨none, 0, by rw [e, h0]⟩
            · exact ⟨_, cap, e⟩
          subst hlo
          have HAL := hidden hal
          obtain ⟨g3, hg3, hmr⟩ := hal.mine (by rw [HN.out]) HB2'.out (Nat.le_refl _) (Nat.le_trans HH1.out HB2'.out) (Nat.le_trans HB2'.out HBH.out) (Nat.le_trans HH1.out HB2'.out) HCW.out
          have HCW2 : Hid (C ≤ wr.heap.size) := hidden (by have := World.ownsRow.lt hal.o1.1 g1 rfl; omega)
          have HMI := hidden (mine7 wr lo (q + q) lc C g3 (cs ++ cs) _ HCW2.out hmr (by rw [List.length_append, HN.out]) (by omega) hg3)
          clear hal hmr hg3 HA
          go_wp2_with (first | (go_at_call 15; refine HMI.out.mono ?_; rintro e x1 ⟨rfl, HKM⟩; refine Hid.out ?_))
          apply hidden
          have HBM : Hid (Below w.heap.size w x1) := hidden (HB.out.trans (HKM.out.2.mono HWC.out))
          have HF1 : Hid (Fi7 x1 C g1 (some ⟨g1, 0, none⟩) q q 0 (-5)) := hidden (by
            have := HAL.out.o1.fi HKM.out.1 (Nat.le_refl _) (by have := HCN.out; omega) (-5)
            rw [HN.out] at this
            exact this)
          have HF2 : Hid (Fi7 x1 C g2 (some ⟨g2, 0, none⟩) q q 0 (-6)) := hidden (by
            have := HAL.out.o2.fi HKM.out.1 (Nat.le_trans HH1.out HB2'.out) (by have := HCN.out; omega) (-6)
            rw [HN.out] at this
            exact this)
          have HG12 : Hid (g1 ≠ g2) := hidden (by
            have h1 := HG1.out
            have h2 := (World.ownsRow.lt HAL.out.o2.1 g2 rfl).1
            have h3 := HB2'.out
            omega)
          have HAP := hidden (apart7 x1 (some ⟨g1, 0, none⟩) (some ⟨g2, 0, none⟩) q q q q C g1 g2 (Nat.le_trans HCW2.out HKM.out.1.1) HF1.out HF2.out HG12.out (by omega) (by omega))
          clear HMI HKM HAL
          go_wp2_with (first | (go_at_call 16; refine HAP.out.mono ?_; rintro e x2 ⟨rfl, hbx⟩; have HBX := hidden hbx; clear hbx; refine Hid.out ?_))
          apply hidden
          have HBZ : Hid (Below w.heap.size w x2) := hidden (HBM.out.trans (HBX.out.mono HWC.out))
          clear HAP HF1 HF2 HBX HBM HB
          go_wp2
          go_ret
          exact ⟨rfl, HBZ.out⟩
set_option maxRecDepth 100000 in
set_option maxHeartbeats 16000000 in
theorem walk_PackedDecodes_n (ao : Option Addr) (n cap : Nat) (b : List Int) (w : World) (ht : Tab w) (h0 : 0 < w.heap.size) (hs : Sl w ao n cap b) (h8 : n + 3 ≤ 140737488355328) (hno : ¬ ∃ cs, IsQ (b.getD 0 0) b.length cs b) :
    Calls Tryz.prog 3 #[.slice ao n cap] w fun e u => e = .returned (.bool true) ∧ Below w.heap.size w u := by
  have HLV := hidden (live_any w ht h0)
  have HS := hidden hs
  have HLE := hidden hs.hlen
  have HWF := hidden hs.wf
  have HT := hidden ht
  have HNO := hidden hno
  have HSN : Hid (∀ u, SlC u none 0 0 []) := hidden (fun u => by
    obtain ⟨a1, c1, e, h2⟩ := (OwnD.nil u 0).slc (fun c hc => by cases hc) (by simp)
    injection e with e1 _ e3
    rw [← e1, ← e3] at h2
    exact h2)
  clear hs ht hno
  go_enter Tryz.func3, Tryz.ntmps3
  go_wp2_with (go_at_call 4; refine HLV.out.mono ?_; rintro e w1 ⟨rfl, hb1⟩; have HB1 := hidden hb1; clear hb1; refine Hid.out ?_)
  apply hidden
  have HLN := hidden (lent_any ao n cap b w1 (HS.out.on (Nat.le_refl _) HB1.out))
  obtain ⟨g, hg⟩ : ∃ g, w1.heap.size = g := ⟨_, rfl⟩
  rw [hg] at HLN
  clear HLV
  go_wp2_with (go_at_call 5; refine HLN.out.mono ?_; rintro e w2 ⟨rfl, hk2, hba⟩; have HK2 := hidden hk2; have HBa := hidden hba; clear hk2 hba; refine Hid.out ?_)
  apply hidden
  rw [← hg] at HBa
  have HG : Hid (w.heap.size ≤ g) := hidden (by rw [← hg]; exact HB1.out.size)
  have HB2 := hidden (bl_go HB1.out (Nat.le_refl _) HBa.out)
  have HXW : Hid (Wf (b ++ [71, 72, 73])) := hidden (HWF.out.append (by intro x hx; simp only [List.mem_cons, List.not_mem_nil, or_false] at hx; omega))
  have HXL : Hid ((b ++ [71, 72, 73] : List Int).length = n + 3) := hidden (by rw [List.length_append, HLE.out]; rfl)
  have HSX : Hid (∀ u B, OwnB u B (.slice (some ⟨g, 0, none⟩) (n + 3) (n + 3)) (b ++ [71, 72, 73]) → Sl u (some ⟨g, 0, none⟩) n (n + 3) b) := hidden (fun u B h => by
    have := own_head h HXW.out HXL.out (m := n) (by omega) h8 (n + 3) (by omega)
    rw [show (b ++ ([71, 72, 73] : List Int)).take n = b from by rw [← HLE.out]; exact List.take_left' rfl] at this
    exact this)
  have HE1 := hidden (decodeQ_own _ n (n + 3) b w2 (HSX.out _ _ HK2.out) (HT.out.on HB2.out h0) (Nat.lt_of_lt_of_le h0 HB2.out.size))
  clear HLN HBa HB1 hg
  go_wp2_with (go_at_call 6; refine HE1.out.mono ?_; rintro e w3 ⟨k3, o3, n3, c3, e3, rfl, HBb, HQ⟩; refine Hid.out ?_)
  apply hidden
  obtain ⟨rfl, rfl, rfl, rfl, rfl⟩ : e3 = 60 ∧ k3 = 0 ∧ o3 = none ∧ n3 = 0 ∧ c3 = 0 := by
    rcases HQ.out with ⟨a1, a2, a3, a4, a5, _⟩ | ⟨ds, g1, P, a1, a2, a3, a4, a5, a6, _⟩
    · exact ⟨a1, a2, a3, a4, a5⟩
    · exact absurd ⟨ds, a6⟩ HNO.out
  have HB3 := hidden (bl_go HB2.out (Nat.le_refl _) HBb.out)
  have HK3 := hidden (HK2.out.on (Nat.le_refl _) HBb.out)
  have HR := hidden (rdecQ_any ao n cap b w3 (HS.out.on (Nat.le_refl _) HB3.out))
  clear HE1 HQ HK2 HB2 HBb
  go_wp2_with (go_at_call 7; refine HR.out.mono ?_; rintro e w4 ⟨k4, wo, wn, wc, e4, rfl, HBc, HQ⟩; refine Hid.out ?_)
  apply hidden
  obtain ⟨rfl, rfl, rfl, rfl, rfl⟩ : e4 = 60 ∧ k4 = 0 ∧ wo = none ∧ wn = 0 ∧ wc = 0 := by
    rcases HQ.out with ⟨a1, a2, a3, a4, a5, _⟩ | ⟨ds, a1, a2, a3, a4, _⟩
    · exact ⟨a1, a2, a3, a4, a5⟩
    · exact absurd ⟨ds, a4⟩ HNO.out
  have HB4 := hidden (bl_go HB3.out (Nat.le_refl _) HBc.out)
  have HK4 := hidden (HK3.out.on (Nat.le_refl _) HBc.out)
  have HSA := hidden (sameAll_self none none 0 0 0 [] w4 (HSN.out _) (HSN.out _))
  clear HR HQ HK3 HB3 HBc
  go_wp2_with (go_at_call 8; refine HSA.out.mono ?_; rintro e w5 ⟨rfl, HBd⟩; refine Hid.out ?_)
  apply hidden
  have HB5 := hidden (bl_go HB4.out (Nat.le_refl _) HBd.out)
  have HK5 := hidden (HK4.out.on (Nat.le_refl _) HBd.out)
  have HE1 := hidden (decodeQ_own _ n (n + 3) b w5 (HSX.out _ _ HK5.out) (HT.out.on HB5.out h0) (Nat.lt_of_lt_of_le h0 HB5.out.size))
  clear HSA HBd HB4 HK4
  go_wp2_with (go_at_call 6; refine HE1.out.mono ?_; rintro e w6 ⟨k6, o6, n6, c6, e6, rfl, HBb, HQ⟩; refine Hid.out ?_)
  apply hidden
  obtain ⟨rfl, rfl, rfl, rfl, rfl⟩ : e6 = 60 ∧ k6 = 0 ∧ o6 = none ∧ n6 = 0 ∧ c6 = 0 := by
    rcases HQ.out with ⟨a1, a2, a3, a4, a5, _⟩ | ⟨ds, g1, P, a1, a2, a3, a4, a5, a6, _⟩
    · exact ⟨a1, a2, a3, a4, a5⟩
    · exact absurd ⟨ds, a6⟩ HNO.out
  have HB6 := hidden (bl_go HB5.out (Nat.le_refl _) HBb.out)
  have HK6 := hidden (HK5.out.on (Nat.le_refl _) HBb.out)
  have HOP := hidden (openQ_any7 _ n (n + 3) b w6 (HSX.out _ _ HK6.out) (HT.out.on HB6.out h0) (Nat.lt_of_lt_of_le h0 HB6.out.size))
  clear HE1 HQ HK5 HB5 HBb
  go_wp2_with (go_at_call 9; refine HOP.out.mono ?_; rintro e w7 ⟨po, e7, rfl, HBb, HQ⟩; refine Hid.out ?_)
  apply hidden
  obtain ⟨rfl, rfl⟩ : po = none ∧ e7 = 60 := by
    rcases HQ.out with ⟨a1, a2, _⟩ | ⟨a, qo, qn, qc, vb, vs, ds, a1, a2, a3, _⟩
    · exact ⟨a1, a2⟩
    · exact absurd ⟨ds, a3⟩ HNO.out
  have HB7 := hidden (bl_go HB6.out (Nat.le_refl _) HBb.out)
  have HK7 := hidden (HK6.out.on (Nat.le_refl _) HBb.out)
  have HAL := hidden (asLent_any g g n ao cap b w7 HK7.out (HS.out.on (Nat.le_refl _) HB7.out) h8)
  clear HOP HQ HK6 HB6 HBb
  go_wp2_with (go_at_call 10; refine HAL.out.mono ?_; rintro e w8 ⟨rfl, hgr⟩; have HGR := hidden hgr; clear hgr; refine Hid.out ?_)
  apply hidden
  have HB8 : Hid (Below w.heap.size w w8) := hidden (HB7.out.grown HGR.out HB7.out.size (fun k hk => by injection hk with hk; have := HG.out; omega))
  have HSA := hidden (sameAll_self none none 0 0 0 [] w8 (HSN.out _) (HSN.out _))
  clear HAL HK7 HB7 HGR
  go_wp2_with (go_at_call 8; refine HSA.out.mono ?_; rintro e w9 ⟨rfl, HBd⟩; refine Hid.out ?_)
  apply hidden
  have HB9 := hidden (bl_go HB8.out (Nat.le_refl _) HBd.out)
  clear HSA HB8 HBd
  have HSA := hidden (sameAll_self none none 0 0 0 [] w9 (HSN.out _) (HSN.out _))
  go_wp2_with (go_at_call 8; refine HSA.out.mono ?_; rintro e x ⟨rfl, HBd⟩; refine Hid.out ?_)
  apply hidden
  have HBx := hidden (bl_go HB9.out (Nat.le_refl _) HBd.out)
  clear HSA HB9 HBd
  go_wp2_with fail
  go_loopw [23, 24] (fun v i wr => v = .slice none 0 0 ∧ i = .int .i64 0 ∧ Hid (Below w.heap.size w wr)) (fun _ _ _ => 0)
  case atStart => exact ⟨rfl, rfl, HBx⟩
  case round =>
    clear HBx
    obtain ⟨rfl, rfl, HBx⟩ := hrel
    go_wp2_with fail
    go_loopw [23, 25] (fun v i wr => v = .slice none 0 0 ∧ i = .int .i64 0 ∧ Hid (Below w.heap.size w wr)) (fun _ _ _ => 0)
    case atStart => exact ⟨rfl, rfl, HBx⟩
    case round =>
      clear HBx
      obtain ⟨rfl, rfl, HBx⟩ := hrel
      have HMI := hidden (mine7 wr none 0 0 w.heap.size 0 [] [] HBx.out.size ⟨.inl rfl, rfl, fun i d hd => by simp at hd, fun t t' u u' h => by simp at h⟩ rfl (by omega) (.inl rfl))
      go_wp2_with (first | (go_at_call 15; refine HMI.out.mono ?_; rintro e x1 ⟨rfl, HKM⟩; refine Hid.out ?_))
      apply hidden
      have HBM : Hid (Below w.heap.size w x1) := hidden (HBx.out.trans HKM.out.2)
      have HAP := hidden (apart7 x1 none none 0 0 0 0 w.heap.size 0 1 HBM.out.size (.inl ⟨rfl, rfl, rfl⟩) (.inl ⟨rfl, rfl, rfl⟩) (by decide) (by omega) (by omega))
      clear HMI HKM
      go_wp2_with (first | (go_at_call 16; refine HAP.out.mono ?_; rintro e x2 ⟨rfl, hbx⟩; have HBX := hidden hbx; clear hbx; refine Hid.out ?_))
      apply hidden
      have HBZ : Hid (Below w.heap.size w x2) := hidden (HBM.out.trans HBX.out)
      clear HAP HBX HBM HBx
      go_wp2
      go_ret
      exact ⟨rfl, HBZ.out⟩
set_option maxRecDepth 100000 in
theorem walk_PackedDecodes (ao : Option Addr) (n cap : Nat) (b : List Int) (w : World) (ht : Tab w) (h0 : 0 < w.heap.size) (hs : Sl w ao n cap b) (h8 : n + 3 ≤ 140737488355328) :
    Calls Tryz.prog 3 #[.slice ao n cap] w fun e u => e = .returned (.bool true) ∧ Below w.heap.size w u := by
  by_cases h : ∃ cs, IsQ (b.getD 0 0) b.length cs b
  · obtain ⟨cs, hcs⟩ := h
    have hl := hs.hlen
    obtain ⟨P, hP⟩ : ∃ P, readQ b = some (P, cs) := ⟨_, (readQ_of hcs).1⟩
    obtain ⟨_, _, _, _, hwf, _⟩ := readQ_inv hs.wf hP
    rw [hl] at hcs
    exact walk_PackedDecodes_y ao n cap b w ht h0 hs h8 _ cs rfl hcs hwf
  · exact walk_PackedDecodes_n ao n cap b w ht h0 hs h8 h
end Go.Proofs.YtobfkcepjnjfpaaGreatDoor
