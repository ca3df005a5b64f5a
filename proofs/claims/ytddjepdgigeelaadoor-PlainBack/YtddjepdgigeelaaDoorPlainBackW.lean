/- The walk of the law PlainBack. -/
import Derived.Test.YtddjepdgigeelaaDoorGf
namespace Go.Proofs.YtddjepdgigeelaaDoor
open Go.RowKit

set_option maxRecDepth 100000 in
set_option maxHeartbeats 4000000 in
theorem walk_PlainBack (kd : Int) (co : Option Addr) (cn cc : Nat) (cs : List Cl) (pg : Int) (w : World) (ht : Tab w) (h0 : 0 < w.heap.size) (hs : SlC w co cn cc cs) :
    Calls Tryd.prog 6 #[.int .i64 kd, .slice co cn cc, .int .i64 pg] w fun e w' => e = .returned (.bool true) ∧ Below w.heap.size w w' := by
  have HS := hidden hs
  have HT := hidden ht
  have HLEN := hidden hs.hlen
  have HAW := hidden (awake_any w ht h0)
  clear hs ht
  go_enter Tryd.func6, Tryd.ntmps6
  go_wp2_with (first | (go_at_call 8; refine HAW.out.mono ?_; rintro e w1 ⟨rfl, hb1⟩; have HB1 := hidden hb1; clear hb1; refine Hid.out ?_))
  apply hidden
  have HG := hidden (great_any co cn cc cs w1 (HS.out.on HB1.out))
  clear HAW
  go_wp2_with (first | (go_at_call 9; refine HG.out.mono ?_; rintro e w2 ⟨b, rfl, HB2, HGQ⟩; refine Hid.out ?_))
  apply hidden
  have HW2 : Hid (Below w.heap.size w w2) := hidden (bl_go HB1.out (Nat.le_refl _) HB2.out)
  clear HG HB1 HB2
  cases b with
  | true =>
    go_wp2
    go_ret
    exact ⟨rfl, HW2.out⟩
  | false =>
    obtain ⟨hcn, hsz⟩ := HGQ.out rfl
    have HSZ := hidden hsz
    have hcI : (cn : Int) ≤ 100000 := by omega
    have HE := hidden (encode_plain kd pg co cn cc cs w2 (HS.out.on HW2.out) (by omega) (HT.out.on HW2.out h0) (Nat.lt_of_lt_of_le h0 HW2.out.size))
    clear HGQ hsz
    go_wp2_with (first | (go_at_call 13; refine HE.out.mono ?_; rintro e w3 ⟨eo, em, ecp, ece, rfl, HB3, HEQ⟩; refine Hid.out ?_))
    apply hidden
    have HW3 : Hid (Below w.heap.size w w3) := hidden (bl_go HW2.out (Nat.le_refl _) HB3.out)
    clear HE HB3 HW2
    by_cases hen : encE kd pg cs = 0
    · obtain ⟨his, hpg⟩ := enc_is hen
      obtain ⟨rfl, g, rfl, rfl, rfl, hbk⟩ : ece = 0 ∧ ∃ g, eo = some ⟨g, 0, none⟩ ∧ em = pg.toNat ∧ ecp = pg.toNat ∧ Bk w3 g (pgB kd pg.toNat cs) := by
        obtain ⟨e1, e2⟩ := HEQ.out
        rw [hen] at e1
        rcases e2 with ⟨h, _⟩ | ⟨_, g, a1, a2, a3, _, a5⟩
        · exact absurd e1 h
        · exact ⟨e1, g, a1, a2, a3, a5⟩
      obtain ⟨P, hP⟩ : ∃ P, pg.toNat = P := ⟨_, rfl⟩
      rw [hP] at his hpg hbk ⊢
      subst hpg
      obtain ⟨PB, hPB⟩ : ∃ PB, pgB kd P cs = PB := ⟨_, rfl⟩
      rw [hPB] at his hbk
      obtain ⟨_, hlen, hget⟩ := readM_of his
      have hpw := pw_nat his.sz
      have HIS := hidden his
      have HSL : Hid (Sl w3 (some ⟨g, 0, none⟩) P P PB) := hidden (hbk.sl hlen (by rw [← hPB]; exact pgB_wf (by have := his.kd; unfold isKd at this; omega) HS.out.wf) (by omega))
      have HD := hidden (decode_any (some ⟨g, 0, none⟩) P P PB w3 HSL.out (HT.out.on HW3.out h0) (Nat.lt_of_lt_of_le h0 HW3.out.size))
      have HGET := hidden hget
      have HPL := hidden hlen
      have hPI : (P : Int) ≤ 65536 := by omega
      clear hP HEQ hPB hbk his hget hlen hen
      go_wp2_with (first | (go_at_call 19; refine HD.out.mono ?_; rintro e w4 ⟨k, do_, dn, dc, c, rfl, HB4, HDQ⟩; refine Hid.out ?_))
      apply hidden
      have HW4 : Hid (Below w.heap.size w w4) := hidden (bl_go HW3.out (Nat.le_refl _) HB4.out)
      have HO := hidden (open_any (some ⟨g, 0, none⟩) P P PB w4 (HSL.out.on (Nat.le_refl _) HB4.out) (HT.out.on HW4.out h0) (Nat.lt_of_lt_of_le h0 HW4.out.size))
      clear HD
      go_wp2_with (first | (go_at_call 20; refine HO.out.mono ?_; rintro e w5 ⟨po, ec, rfl, HB5, HOQ⟩; refine Hid.out ?_))
      apply hidden
      have HW5 : Hid (Below w.heap.size w w5) := hidden (bl_go HW4.out (Nat.le_refl _) HB5.out)
      have his := HIS.out
      obtain ⟨g2, rfl, rfl, rfl, rfl, rfl, hwf, hg, hrow, hdat⟩ : ∃ g, c = 0 ∧ k = kd ∧ do_ = some ⟨g, 0, none⟩ ∧ dn = cs.length ∧ dc = cs.length ∧ (∀ d ∈ cs, d.Wf) ∧ w3.heap.size ≤ g ∧ RowC w4 g cs.length ∧ ∀ i d, cs[i]? = some d → DAt w4 w3.heap.size g (i * 5) d := by
        rcases HDQ.out with ⟨_, _, _, _, _, h⟩ | ⟨ds, g, a1, a2, a3, a4, a5, a6, a7⟩
        · exact absurd ⟨cs, his.at⟩ h
        · obtain rfl : ds = cs := (a6.one his).2.2
          exact ⟨g, a1, by rw [a2, HGET.out], a3, a4, a5, a7⟩
      obtain ⟨a, bo, bn, bc, so, sn, sc, rfl, rfl, hpg⟩ : ∃ a bo bn bc so sn sc, po = some ⟨a, 0, none⟩ ∧ ec = 0 ∧ PgAt w5 a k P bo bn bc so sn sc cs := by
        rcases HOQ.out with ⟨_, _, h⟩ | ⟨a, bo, bn, bc, so, sn, sc, ds, a1, a2, _, a4, _, a6⟩
        · exact absurd ⟨cs, his.at⟩ h
        · obtain rfl : ds = cs := (a4.one his).2.2
          rw [HGET.out, HPL.out] at a6
          exact ⟨a, bo, bn, bc, so, sn, sc, a1, a2, a6⟩
      have HSD : Hid (SlC w5 (some ⟨g2, 0, none⟩) cs.length cs.length cs) := hidden ((dec_slc hrow hdat hwf his.fits his.few.1).on HB5.out)
      have HPG := hidden hpg
      rw [HLEN.out] at HSD ⊢
      obtain ⟨hsn, hbn⟩ := hpg.sn_eq
      have hse := szN_eq cs
      have hfw := his.few
      have hfit := his.fit
      rw [HLEN.out] at hsn
      subst hsn
      have HSM := hidden (sameCells_self (some ⟨g2, 0, none⟩) co sn sn cc cs w5 HSD.out (HS.out.on HW5.out))
      clear HDQ HOQ HO HSL hrow hdat hwf his hpg hg HB4 HB5
      go_wp2_with (first | (go_at_call 26; refine HSM.out.mono ?_; rintro e w6 ⟨rfl, HB6⟩; refine Hid.out ?_))
      apply hidden
      have HPG6 := hidden (HPG.out.on HB6.out)
      have HW6 : Hid (Below w.heap.size w w6) := hidden (bl_go HW5.out (Nat.le_refl _) HB6.out)
      have hbI : bn ≤ 65536 := by omega
      have hsI : sn ≤ 65536 := by have := HLEN.out; omega
      have hse2 : szN cs = 8 + 2 * sn + bn := by rw [hse, HLEN.out, hbn]
      clear HSM HB6 HPG hbn hse hfw
      obtain ⟨U, hU⟩ : ∃ U, 8 + 2 * sn + bn = U := ⟨_, rfl⟩
      have hUP : (U : Int) ≤ (P : Int) := by omega
      have hUb : (U : Int) ≤ 1099511627776 := by omega
      rw [hU] at hse2
      have HSE := hidden hse2
      have HLN := hidden (len_any w6 a k P bo bn bc so sn sc cs HPG6.out)
      have HUS : Hid (∀ u, Below w6.heap.size w6 u → Calls Tryd.prog 28 #[.pointer (some ⟨a, 0, none⟩)] u fun e w' => e = .returned (.int .i64 (U : Int)) ∧ Hid (Below u.heap.size u w')) := hidden fun u hu => by
        have := used_row u a k P bo bn bc so sn sc (HPG6.out.on hu).row hbI hsI
        rw [hU] at this
        refine this.mono ?_
        rintro e w' ⟨rfl, q, rfl⟩
        exact ⟨rfl, hidden (bl_dr (Below.refl _ _) _)⟩
      clear hU hse2
      go_wp2_with (first | (go_at_call 27; refine same_call HLN.out ?_) | (go_at_call 28; refine (HUS.out _ (Below.refl _ _)).mono ?_; rintro e w7 ⟨rfl, HB7⟩; refine Hid.out ?_))
      apply hidden
      have HW7 : Hid (Below w.heap.size w w7) := hidden (bl_go HW6.out (Nat.le_refl _) HB7.out)
      have HSZ7 := hidden (size_any k co sn cc cs w7 (HS.out.on HW7.out) (by rw [HSE.out]; omega))
      rw [HSE.out] at HSZ7
      go_wp2_with (first | (go_at_call 14; refine HSZ7.out.mono ?_; rintro e w8 ⟨rfl, hb8⟩; have HB8 := hidden hb8; clear hb8; refine Hid.out ?_))
      apply hidden
      go_wp2_with (first | (go_at_call 28; refine (HUS.out _ (bl_go HB7.out (Nat.le_refl _) HB8.out)).mono ?_; rintro e w9 ⟨rfl, HB9⟩))
      go_ret
      exact ⟨rfl, bl_go (bl_go HW7.out (Nat.le_refl _) HB8.out) (Nat.le_refl _) HB9.out⟩
    · obtain ⟨h1, rfl, rfl, rfl⟩ : ece ≠ 0 ∧ eo = none ∧ em = 0 ∧ ecp = 0 := by
        obtain ⟨e1, e2⟩ := HEQ.out
        rw [← e1] at hen
        rcases e2 with h | ⟨h, _⟩
        · exact h
        · exact absurd h hen
      have hb1 : (ece == 0) = false := by simpa using h1
      clear HEQ hen
      go_wp2
      go_ret
      exact ⟨rfl, HW3.out⟩
end Go.Proofs.YtddjepdgigeelaaDoor
