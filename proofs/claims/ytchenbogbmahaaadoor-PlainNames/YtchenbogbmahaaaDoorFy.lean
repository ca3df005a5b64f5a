/- plain.Encode. -/
import Derived.Test.YtchenbogbmahaaaDoorFx
namespace Go.Proofs.YtchenbogbmahaaaDoor
open Go.RowKit

/-- What Encode finds wrong; 0: nothing. -/
def encE (k n : Int) (cs : List Cl) : Int := if isKd k ∧ pw n then (if chk k n none cs = 0 then (if n < szN cs then 61 else 0) else chk k n none cs) else 1
/-- What Encode comes to. -/
def EncTo (k n : Int) (cs : List Cl) (w : World) (e : Ending) (w' : World) : Prop :=
  ∃ ao m cap c, e = .returned (.tuple #[.slice ao m cap, .int .i64 c]) ∧ Hid (Below w.heap.size w w') ∧ Hid (c = encE k n cs ∧ ((c ≠ 0 ∧ ao = none ∧ m = 0 ∧ cap = 0) ∨ (c = 0 ∧ ∃ g, ao = some ⟨g, 0, none⟩ ∧ m = n.toNat ∧ cap = n.toNat ∧ w.heap.size ≤ g ∧ Bk w' g (pgB k n.toNat cs))))
set_option maxRecDepth 100000 in
theorem EncTo.no {k n : Int} {cs : List Cl} {w w' : World} {c : Int} (hb : Below w.heap.size w w') (hc : c = encE k n cs) (h0 : c ≠ 0) : EncTo k n cs w (.returned (.tuple #[.slice none 0 0, .int .i64 c])) w' := ⟨none, 0, 0, c, rfl, hidden hb, hidden ⟨hc, .inl ⟨h0, rfl, rfl, rfl⟩⟩⟩
set_option maxRecDepth 100000 in
theorem chk_step (k n : Int) (cs : List Cl) (j : Nat) (c : Cl) (h : cs[j]? = some c) : chk k n (prv (cs.take j)) (cs.drop j) = if mayP k n c then (if ahead (prv (cs.take j)) c.key then chk k n (prv (cs.take (j + 1))) (cs.drop (j + 1)) else 63) else 62 := by
  obtain ⟨hj, e⟩ := List.getElem?_eq_some_iff.1 h
  rw [List.drop_eq_getElem_cons hj, e, chk]
  have : prv (cs.take (j + 1)) = some c.key := by
    rw [List.take_add_one, h]
    simp [prv]
  rw [this]

set_option maxRecDepth 100000 in
set_option maxHeartbeats 2000000 in
theorem encode_plain (k n : Int) (co : Option Addr) (cn cc : Nat) (cs : List Cl) (w : World) (hs : SlC w co cn cc cs) (hz : szN cs ≤ 1099511627776) (ht : Tab w) (h0 : 0 < w.heap.size) :
    Calls Tryd.prog 13 #[.int .i64 k, .slice co cn cc, .int .i64 n] w fun e w' => EncTo k n cs w e w' := by
  have HS := hidden hs
  have HZ := hidden hz
  have HT := hidden ht
  have HLEN := hidden hs.hlen
  have hcn : cn ≤ 1099511627776 := by have := hs.hlen; have := szN_eq cs; omega
  have HN := hidden (new_any k n w)
  clear hs hz ht
  go_enter Tryd.func13, Tryd.ntmps13
  go_wp2_with (first | (go_at_call 30; refine HN.out.mono ?_; rintro e w1 ⟨po, ec, rfl, HB1, HQ⟩; refine Hid.out ?_))
  apply hidden
  clear HN
  rcases HQ.out with ⟨rfl, rfl, hno⟩ | ⟨rfl, rfl, hk, hn, hrow⟩
  · have HE : Hid ((1 : Int) = encE k n cs) := hidden (by unfold encE; rw [if_neg hno])
    clear HQ hno
    go_wp2
    go_ret2
    exact EncTo.no HB1.out HE.out (by omega)
  · have hpn := pw_le hn
    obtain ⟨N, rfl⟩ := Int.eq_ofNat_of_zero_le (show 0 ≤ n by omega)
    obtain ⟨a, ha⟩ : ∃ a, w.heap.size = a := ⟨_, rfl⟩
    rw [ha] at hrow ⊢
    have HA := hidden ha
    have HROW : Hid (PR w1 a k N (.slice none 0 0) (.slice none 0 0)) := hidden hrow
    have HK := hidden hk
    have HPN := hidden hn
    have HE0 : Hid (encE k N cs = if chk k N none cs = 0 then (if (N : Int) < szN cs then 61 else 0) else chk k N none cs) := hidden (by unfold encE; rw [if_pos ⟨hk, hn⟩])
    have hN1 : (N : Int) ≤ 65536 := hpn.2
    have hN2 : 512 ≤ N := by omega
    clear HQ hk hn hrow ha hpn
    go_wp2_with fail
    go_loopw [23] (fun i wr => ∃ j : Nat, j ≤ cn ∧ i = .int .i64 j ∧ Hid (chk k N none cs = chk k N (prv (cs.take j)) (cs.drop j)) ∧ Hid (Below w1.heap.size w1 wr)) (fun i _ => cn - (intOf i).toNat)
    case atStart => exact ⟨0, by omega, rfl, hidden (by simp [prv]), hidden (Below.refl _ _)⟩
    case round =>
      obtain ⟨j, hj, rfl, HC, HB⟩ := hrel
      have bj : (j : Int) ≤ 1099511627776 := by omega
      have HBW : Hid (Below w.heap.size w wr) := hidden (bl_go HB1.out (Nat.le_refl _) HB.out)
      by_cases hlt : j < cn
      · have hltI : (j : Int) < (cn : Int) := by omega
        obtain ⟨b, off, c, ka, kc, va, vc, rfl, hb, hci, c0, c1, c2, c3, c4, hkS, hvS⟩ := (HS.out.on HBW.out).item j hlt
        have HCS := hidden (chk_step k N cs j c hci)
        have HCI := hidden hci
        have hkr := hkS.hroom
        have hvr := hvS.hroom
        have HKS := hidden hkS
        have HMB := hidden (fun u => mayBe_any k (N : Int) ka c.key.length kc c.kd va c.val.length vc c.pg c.ct u (by omega) hN1 hkr hvr)
        have HMI := hidden (mayP_iff k N c)
        clear hci hkS hvS
        cases hm : decide (mayN k N c.key.length c.kd c.val.length c.pg c.ct) with
        | false =>
          have HE : Hid ((62 : Int) = encE k N cs) := by
            have : ¬ mayP k N c := fun h => by have := HMI.out.2 h; simp at hm; exact hm this
            have e : chk k N none cs = 62 := by rw [HC.out, HCS.out, if_neg this]
            exact hidden (by rw [HE0.out, e]; simp)
          go_wp2_with (first | (go_at_call 39; refine (HMB.out _).mono ?_; rintro e w2 ⟨rfl, hb2⟩; have HB2 := hidden (bl_go (bl_al HBW.out (Nat.le_refl _) _) (Nat.le_refl _) hb2); clear hb2; rw [hm]))
          go_ret2
          exact EncTo.no HB2.out HE.out (by omega)
        | true =>
          have hmp : mayP k N c := HMI.out.1 (by simpa using hm)
          have HMP := hidden hmp
          clear hmp
          go_wp2_with (first | (go_at_call 39; refine (HMB.out _).mono ?_; rintro e w2 ⟨rfl, hb2⟩; have HBOX := hidden (box5 hb2); have HBR := hidden (al5 hb2); have HB2 := hidden (bl_go (bl_al HB.out (Nat.le_refl _) _) (Nat.le_refl _) hb2); clear hb2; rw [hm]; refine Hid.out ?_))
          apply hidden
          obtain ⟨g8, hg8⟩ : ∃ g8, wr.heap.size = g8 := ⟨_, rfl⟩
          rw [hg8] at HBOX ⊢
          obtain ⟨z0, z1, z2, z3, z4⟩ := HBOX.out
          have HBW2 : Hid (Below w.heap.size w w2) := hidden (bl_go HB1.out (Nat.le_refl _) HB2.out)
          clear hg8 HBOX c0 c1 c2 c3 c4 HMB HMI
          by_cases hj0 : j = 0
          · subst hj0
            have HNX : Hid (chk k N none cs = chk k N (prv (cs.take (0 + 1))) (cs.drop (0 + 1))) := hidden (by rw [HC.out, HCS.out, if_pos HMP.out, if_pos (by simp [prv, ahead])])
            go_wp2_with fail
            go_quiet (fail)
            go_wp2
            go_roundw
            case rel => exact ⟨1, by omega, by go_num, HNX, hidden (bl_dr HB2.out _)⟩
            case measure => simp [intOf]; omega
          · obtain ⟨i, rfl⟩ : ∃ i, j = i + 1 := ⟨j - 1, by omega⟩
            obtain ⟨b', off', c', ka', kc', va', vc', hbo, hb', hci', e0, e1, e2, e3, e4, hk', hv'⟩ := (HS.out.on HBW2.out).item i (by omega)
            injection hbo with hbo
            injection hbo with hb1 hb2
            subst hb1 hb2
            have hprv : prv (cs.take (i + 1)) = some c'.key := by rw [List.take_add_one, hci']; simp [prv]
            have HRI : Hid (∀ q, Calls Tryd.prog 40 #[.slice ka' c'.key.length kc', .slice ka c.key.length kc] (w2.drewN q) fun e w' => e = .returned (.bool (decide (kl c'.key c.key))) ∧ w' = w2.drewN q) :=
              hidden fun q => rise_any _ _ _ _ _ _ _ _ _ (hk'.drewN q) ((HKS.out.on (Nat.le_refl _) HBR.out).drewN q)
            have HPR := hidden hprv
            have i1 : (i : Int) < (cn : Int) := by omega
            have i2 : i < cn := by omega
            have i3 : (i : Int) ≤ 1099511627776 := by omega
            clear hk' hv' hprv hci' e1 e2 e3 e4 z1 z2 z3 z4 hj0
            cases hkl : decide (kl c'.key c.key) with
            | true =>
              have HNX : Hid (chk k N none cs = chk k N (prv (cs.take (i + 1 + 1))) (cs.drop (i + 1 + 1))) := hidden (by
                rw [HC.out, HCS.out, if_pos HMP.out, if_pos (by rw [HPR.out]; simpa [ahead] using hkl)])
              rw [hkl] at HRI
              go_wp2_with fail
              go_quiet (first | (go_at_call 40; exact Calls.quiet_of_same (HRI.out _)))
              go_wp2
              go_roundw
              case rel => exact ⟨i + 1 + 1, by omega, by go_num, HNX, hidden (bl_dr HB2.out _)⟩
              case measure => simp [intOf]; omega
            | false =>
              have HE : Hid ((63 : Int) = encE k N cs) := by
                have e : chk k N none cs = 63 := by rw [HC.out, HCS.out, if_pos HMP.out, if_neg (by rw [HPR.out]; simpa [ahead] using hkl)]
                exact hidden (by rw [HE0.out, e]; simp)
              rw [hkl] at HRI
              go_wp2_with fail
              go_quiet (first | (go_at_call 40; exact Calls.quiet_of_same (HRI.out _)))
              go_wp2
              go_ret2
              exact EncTo.no (bl_dr HBW2.out _) HE.out (by omega)
      · obtain rfl : j = cn := by omega
        have hlI : ¬ (j : Int) < (j : Int) := by omega
        have HOK : Hid (chk k N none cs = 0) := hidden (by rw [HC.out, List.drop_eq_nil_of_le (by rw [HLEN.out]; exact Nat.le_refl _)]; rfl)
        have HSC := hidden (HS.out.on HBW.out)
        have HSZ := hidden (size_any k co j cc cs wr HSC.out HZ.out)
        have hszb := HZ.out
        obtain ⟨Z, hZ⟩ : ∃ Z, szN cs = Z := ⟨_, rfl⟩
        have HZE := hidden hZ
        rw [hZ] at HSZ hszb
        have bZ : (Z : Int) ≤ 1099511627776 := by omega
        clear hZ
        go_wp2_with (first | (go_at_call 14; refine HSZ.out.mono ?_; rintro e w2 ⟨rfl, hb2⟩; have HB2 := hidden hb2; clear hb2; refine Hid.out ?_))
        apply hidden
        have HBW2 : Hid (Below w.heap.size w w2) := hidden (bl_go HBW.out (Nat.le_refl _) HB2.out)
        by_cases hfit : (N : Int) < (Z : Int)
        · have HE : Hid ((61 : Int) = encE k N cs) := hidden (by rw [HE0.out, if_pos HOK.out, HZE.out, if_pos hfit])
          go_wp2
          go_ret2
          exact EncTo.no HBW2.out HE.out (by omega)
        · have HE : Hid ((0 : Int) = encE k N cs) := hidden (by rw [HE0.out, if_pos HOK.out, HZE.out, if_neg hfit])
          have HR2 : Hid (PR w2 a k N (.slice none 0 0) (.slice none 0 0)) := hidden (box_on HROW.out (bl_go HB.out (Nat.le_refl _) HB2.out))
          have HRP := hidden (replace_nil w2 a k N co j cc cs HR2.out (HSC.out.on HB2.out) (fun c hc => (chk_may HOK.out c hc).fit hN1) (by rw [HZE.out]; omega))
          go_wp2_with (first | (go_at_call 41; refine HRP.out.mono ?_; rintro e w3 ⟨rfl, HC3, HP3⟩; refine Hid.out ?_))
          apply hidden
          have HBW3 : Hid (Below w.heap.size w w3) := hidden (HBW2.out.trans (HC3.out.below HBW2.out.size (by have := HA.out; intro i hi e; omega)))
          obtain ⟨bo, bn, bc, so, sn, sc, hpg⟩ := HP3.out
          have HBY := hidden (bytes_any w3 a k N bo bn bc so sn sc cs hpg HK.out HPN.out (by rw [HZE.out]; omega) (HT.out.on HBW3.out h0) (Nat.lt_of_lt_of_le h0 HBW3.out.size) HS.out.wf)
          clear hpg HP3
          go_wp2_with (first | (go_at_call 23; refine HBY.out.mono ?_; rintro e w4 ⟨g, rfl, hg, HBK, HB4⟩))
          go_ret2
          refine ⟨some ⟨g, 0, none⟩, N, N, 0, rfl, hidden (bl_go HBW3.out (Nat.le_refl _) HB4.out), hidden ⟨HE.out, .inr ⟨rfl, g, rfl, by simp, by simp, Nat.le_trans HBW3.out.size hg, ?_⟩⟩⟩
          rw [Int.toNat_natCast]
          exact HBK.out
end Go.Proofs.YtchenbogbmahaaaDoor
