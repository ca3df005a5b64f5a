/- The walk of the law PackedBack. -/
import Derived.Test.YtiemnbanehdmnaaDoorJm
namespace Go.Proofs.YtiemnbanehdmnaaDoor
open Go.RowKit

set_option maxRecDepth 100000 in
/-- What is encoded is a page of these cells. -/
theorem encQ_is {k n : Int} {cs : List Cl} (h : encQ k n cs = 0) : IsQ k n.toNat cs (pkB k n.toNat cs) ∧ ((n.toNat : Nat) : Int) = n := by
  unfold encQ at h
  split at h
  · next h1 =>
    have hp := pw_le h1.2
    have e : ((n.toNat : Nat) : Int) = n := by omega
    split at h
    · next h2 =>
      split at h
      · simp at h
      · next h3 =>
        refine ⟨⟨h1.1, by rw [e]; exact h1.2, by rw [e]; exact h2, by omega, rfl⟩, e⟩
    · next h2 => exact absurd h h2
  · simp at h
set_option maxRecDepth 100000 in
theorem IsQ.enc {k : Int} {n : Nat} {cs : List Cl} {b : List Int} (h : IsQ k n cs b) : encQ k (n : Int) cs = 0 := by
  unfold encQ
  have := h.fit
  rw [if_pos ⟨h.kd, h.sz⟩, if_pos h.ok, if_neg (by omega)]
set_option maxRecDepth 100000 in
theorem IsQ.few {k : Int} {n : Nat} {cs : List Cl} {b : List Int} (h : IsQ k n cs b) : cs.length ≤ 65536 := by
  have h1 := pw_nat h.sz
  have h2 := szQ_eq k (shP k cs).length cs
  have h3 := h.fit
  omega

set_option maxRecDepth 100000 in
set_option maxHeartbeats 8000000 in
theorem walk_PackedBack (kd : Int) (co : Option Addr) (cn cc : Nat) (cs : List Cl) (pg : Int) (bo : Option Addr) (bn bc : Nat) (bl : List Int) (w : World) (ht : Tab w) (h0 : 1 < w.heap.size) (hs : SlC w co cn cc cs) (hb : Sl w bo bn bc bl) :
    Calls Tryd.prog 4 #[.int .i64 kd, .slice co cn cc, .int .i64 pg, .slice bo bn bc] w fun e w' => e = .returned (.bool true) ∧ Below w.heap.size w w' := by
  have HS := hidden hs
  have HBL := hidden hb
  have HT := hidden ht
  have HLEN := hidden hs.hlen
  have HBN := hidden hb.hlen
  have hbr := hb.hroom
  have HG := hidden (greatQ_any co cn cc cs w hs)
  clear hs hb ht
  go_enter Tryd.func4, Tryd.ntmps4
  go_wp2_with (first | (go_at_call 6; refine HG.out.mono ?_; rintro e w1 ⟨b, rfl, HB1, HGQ⟩; refine Hid.out ?_))
  apply hidden
  have HAW := hidden (live_any w1 (HT.out.on HB1.out h0) (Nat.lt_of_lt_of_le h0 HB1.out.size))
  clear HG
  go_wp2_with (first | (go_at_call 5; refine HAW.out.mono ?_; rintro e w2 ⟨rfl, hb2⟩; have HB2 := hidden hb2; clear hb2; refine Hid.out ?_))
  apply hidden
  have HW2 : Hid (Below w.heap.size w w2) := hidden (bl_go HB1.out (Nat.le_refl _) HB2.out)
  clear HAW HB1 HB2
  cases b with
  | true =>
    go_wp2
    go_ret
    exact ⟨rfl, HW2.out⟩
  | false =>
    obtain ⟨hcn, hgs⟩ := HGQ.out rfl
    have hzb : szQ kd (shP kd cs).length cs ≤ 1099511627776 := by have := szQ_gS kd cs; omega
    have HZB := hidden hzb
    have hcI : (cn : Int) ≤ 300000 := by omega
    have HE := hidden (encodeQ_any kd pg co cn cc cs w2 (HS.out.on HW2.out) hzb (HT.out.on HW2.out h0) (Nat.lt_of_lt_of_le h0 HW2.out.size))
    clear HGQ hgs hzb
    go_wp2_with (first | (go_at_call 7; refine HE.out.mono ?_; rintro e w3 ⟨eo, em, ecp, ece, rfl, HB3, HEQ⟩; refine Hid.out ?_))
    apply hidden
    have HW3 : Hid (Below w.heap.size w w3) := hidden (bl_go HW2.out (Nat.le_refl _) HB3.out)
    clear HE HB3 HW2
    go_upto_if 41 with fail
    go_cut [] (fun u => Hid (Below w.heap.size w u))
    case first =>
      by_cases hen : encQ kd pg cs = 0
      · obtain ⟨his, hpg⟩ := encQ_is hen
        obtain ⟨rfl, g, rfl, rfl, rfl, hbk⟩ : ece = 0 ∧ ∃ g, eo = some ⟨g, 0, none⟩ ∧ em = pg.toNat ∧ ecp = pg.toNat ∧ Bk w3 g (pkB kd pg.toNat cs) := by
          obtain ⟨e1, e2⟩ := HEQ.out
          rw [hen] at e1
          rcases e2 with ⟨h, _⟩ | ⟨_, g, a1, a2, a3, _, a5⟩
          · exact absurd e1 h
          · exact ⟨e1, g, a1, a2, a3, a5⟩
        obtain ⟨P, hP⟩ : ∃ P, pg.toNat = P := ⟨_, rfl⟩
        rw [hP] at his hpg hbk ⊢
        subst hpg
        obtain ⟨PB, hPB⟩ : ∃ PB, pkB kd P cs = PB := ⟨_, rfl⟩
        rw [hPB] at his hbk
        obtain ⟨_, hlen, hget⟩ := readQ_of his
        have hpw := pw_nat his.sz
        have HIS := hidden his
        have hfit := chk_fit his.ok his.sz
        have HFITS := hidden hfit
        have HSL : Hid (Sl w3 (some ⟨g, 0, none⟩) P P PB) := hidden (hbk.sl hlen (by rw [← hPB]; exact pkB_wf (by have := his.kd; unfold isKd at this; omega) fun c hc => ⟨HS.out.wf c hc, hfit c hc⟩) (by omega))
        have HD := hidden (decodeQ_any (some ⟨g, 0, none⟩) P P PB w3 HSL.out (HT.out.on HW3.out h0) (Nat.lt_of_lt_of_le h0 HW3.out.size))
        have HGET := hidden hget
        have hPI : (P : Int) ≤ 65536 := by omega
        clear hP HEQ hPB hbk his hget hlen hen hfit
        go_wp2_with (first | (go_at_call 8; refine HD.out.mono ?_; rintro e w4 ⟨k, do_, dn, dc, c, rfl, HB4, HDQ⟩; refine Hid.out ?_))
        apply hidden
        have HW4 : Hid (Below w.heap.size w w4) := hidden (bl_go HW3.out (Nat.le_refl _) HB4.out)
        have his := HIS.out
        obtain ⟨g2, rfl, rfl, rfl, rfl, rfl, hwf, hg, hrow, hdat⟩ : ∃ g, c = 0 ∧ k = kd ∧ do_ = some ⟨g, 0, none⟩ ∧ dn = cs.length ∧ dc = cs.length ∧ (∀ d ∈ cs, d.Wf) ∧ w3.heap.size ≤ g ∧ RowC w4 g cs.length ∧ ∀ i d, cs[i]? = some d → KAt w4 w3.heap.size g (i * 5) d := by
          rcases HDQ.out with ⟨_, _, _, _, _, h⟩ | ⟨ds, g, a1, a2, a3, a4, a5, a6, a7⟩
          · exact absurd ⟨cs, his.at⟩ h
          · obtain rfl : ds = cs := (a6.one his).2.2
            exact ⟨g, a1, by rw [a2, HGET.out], a3, a4, a5, a7⟩
        have HSD : Hid (SlC w4 (some ⟨g2, 0, none⟩) cs.length cs.length cs) := hidden (decQ_slc hrow hdat hwf HFITS.out his.few)
        rw [HLEN.out] at HSD ⊢
        have HSM := hidden (sameAll_self (some ⟨g2, 0, none⟩) co cn cn cc cs w4 HSD.out (HS.out.on HW4.out))
        have hfit2 := his.fit
        clear HD HDQ HSL hrow hdat hwf his hg HB4
        go_wp2_with (first | (go_at_call 9; refine HSM.out.mono ?_; rintro e w5 ⟨rfl, HB5⟩; refine Hid.out ?_))
        apply hidden
        have HW5 : Hid (Below w.heap.size w w5) := hidden (bl_go HW4.out (Nat.le_refl _) HB5.out)
        have HSZ := hidden (psize_any k co cn cc cs w5 (HS.out.on HW5.out) HZB.out)
        obtain ⟨Z, hZ⟩ : ∃ Z, szQ k (shP k cs).length cs = Z := ⟨_, rfl⟩
        rw [hZ] at HSZ hfit2
        have hZI : ¬ (P : Int) < (Z : Int) := by omega
        clear HSM HSD hZ
        go_wp2_with (first | (go_at_call 10; refine HSZ.out.mono ?_; rintro e w6 ⟨rfl, HB6⟩))
        go_meet
        exact hidden (bl_go HW5.out (Nat.le_refl _) HB6.out)
      · obtain ⟨h1, rfl, rfl, rfl⟩ : ece ≠ 0 ∧ eo = none ∧ em = 0 ∧ ecp = 0 := by
          obtain ⟨e1, e2⟩ := HEQ.out
          rw [← e1] at hen
          rcases e2 with h | ⟨h, _⟩
          · exact h
          · exact absurd h hen
        have hb1 : (ece == 0) = false := by simpa using h1
        clear HEQ hen
        go_wp2_with fail
        go_meet
        exact HW3
    have HW4 := hcut
    obtain ⟨w4, hw4⟩ : ∃ w4, w4 = wc := ⟨_, rfl⟩
    subst hw4
    clear HEQ HW3 hcut
    have HD := hidden (decodeQ_any bo bn bc bl w4 (HBL.out.on (Nat.le_refl _) HW4.out) (HT.out.on HW4.out h0) (Nat.lt_of_lt_of_le h0 HW4.out.size))
    go_wp2_with (first | (go_at_call 8; refine HD.out.mono ?_; rintro e w5 ⟨k, do_, dn, dc, c, rfl, HB5, HDQ⟩; refine Hid.out ?_))
    apply hidden
    have HW5 : Hid (Below w.heap.size w w5) := hidden (bl_go HW4.out (Nat.le_refl _) HB5.out)
    clear HD
    rcases HDQ.out with ⟨rfl, rfl, rfl, rfl, rfl, _⟩ | ⟨ds, g, rfl, rfl, rfl, rfl, rfl, his, hwf, hg, hrow, hdat⟩
    · clear HDQ
      go_wp2
      go_ret
      exact ⟨rfl, HW5.out⟩
    · have HSD : Hid (SlC w5 (some ⟨g, 0, none⟩) ds.length ds.length ds) := hidden (decQ_slc hrow hdat hwf (chk_fit his.ok his.sz) his.few)
      have hpw := pw_nat his.sz
      have hbn := HBN.out
      have HEN := hidden his.enc
      have HEQB := hidden his.eq
      have HKW := hidden (pkB_wf (k := bl.getD 0 0) (n := bl.length) (cs := ds) (by have := his.kd; unfold isKd at this; omega) fun c hc => ⟨hwf c hc, chk_fit his.ok his.sz c hc⟩)
      have hfz := his.fit
      have HPKL := hidden (pkB_length (bl.getD 0 0) bl.length ds hfz)
      obtain ⟨dl, hdl⟩ : ∃ dl, ds.length = dl := ⟨_, rfl⟩
      rw [hdl] at HSD ⊢
      obtain ⟨K, hK⟩ : ∃ K, bl.getD 0 0 = K := ⟨_, rfl⟩
      rw [hK] at HEN HEQB HKW HPKL hfz ⊢
      rw [hbn] at HEN HEQB HKW HPKL hfz
      have HE := hidden (encodeQ_any K (bn : Int) (some ⟨g, 0, none⟩) dl dl ds w5 HSD.out (by omega) (HT.out.on HW5.out h0) (Nat.lt_of_lt_of_le h0 HW5.out.size))
      clear HDQ his hwf hrow hdat hg hbn hdl hK hfz
      go_wp2_with (first | (go_at_call 7; refine HE.out.mono ?_; rintro e w6 ⟨eo, em, ecp, ece, rfl, HB6, HEQ⟩; refine Hid.out ?_))
      apply hidden
      have HW6 : Hid (Below w.heap.size w w6) := hidden (bl_go HW5.out (Nat.le_refl _) HB6.out)
      obtain ⟨rfl, g6, rfl, h2, h3, hbk⟩ : ece = 0 ∧ ∃ g, eo = some ⟨g, 0, none⟩ ∧ em = bn ∧ ecp = bn ∧ Bk w6 g (pkB K bn ds) := by
        obtain ⟨e1, e2⟩ := HEQ.out
        rw [HEN.out] at e1
        rcases e2 with ⟨h, _⟩ | ⟨_, g, a1, a2, a3, _, a5⟩
        · exact absurd e1 h
        · rw [Int.toNat_natCast] at a2 a3 a5
          exact ⟨e1, g, a1, a2, a3, a5⟩
      subst em
      subst ecp
      have HSM := hidden (same_any (some ⟨g6, 0, none⟩) bo bn bn bn bc (pkB K bn ds) bl w6 (hbk.sl HPKL.out HKW.out hbr) (HBL.out.on (Nat.le_refl _) HW6.out))
      rw [decide_eq_true HEQB.out] at HSM
      clear HE HEQ hbk
      go_wp2_with (first | (go_at_call 11; refine same_call HSM.out ?_))
      go_ret
      exact ⟨rfl, HW6.out⟩
end Go.Proofs.YtiemnbanehdmnaaDoor
