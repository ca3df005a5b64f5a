/- plain.Encode. -/
import Derived.Test.YtfcbfombobelmaaGreatDoorJ22
namespace Go.Proofs.YtfcbfombobelmaaGreatDoor
open Go.RowKit

/-- What Encode finds wrong; 0: nothing. -/
def encE (k n : Int) (cs : List Cl) : Int := if isKd k ∧ pw n then (if chk k n none cs = 0 then (if n < szN cs then 61 else 0) else chk k n none cs) else 1
/-- What Encode comes to. -/
def EncTo (k n : Int) (cs : List Cl) (w : World) (e : Ending) (w' : World) : Prop :=
  ∃ ao m cap c, e = .returned (.tuple #[.slice ao m cap, .int .i64 c]) ∧ Hid (Below w.heap.size w w') ∧ Hid (c = encE k n cs ∧ ((c ≠ 0 ∧ ao = none ∧ m = 0 ∧ cap = 0) ∨ (c = 0 ∧ ∃ g, ao = some ⟨g, 0, none⟩ ∧ m = n.toNat ∧ cap = n.toNat ∧ w.heap.size ≤ g ∧ Bk w' g (pgB k n.toNat cs))))
set_option maxRecDepth 100000 in
theorem EncTo.no {k n : Int} {cs : List Cl} {w w' : World} {c : Int} (hb : Below w.heap.size w w') (hc : c = encE k n cs) (h0 : c ≠ 0) : EncTo k n cs w (.returned (.tuple #[.slice none 0 0, .int .i64 c])) w' := ⟨none, 0, 0, c, rfl, hidden hb, hidden ⟨hc, .inl ⟨h0, rfl, rfl, rfl⟩⟩⟩
set_option maxRecDepth 100000 in
theorem chk_step (k n : Int) (cs : List Cl) (j : Nat) (c : Cl) (h : cs[j]? = some c) : chk k n (prv (cs.take j)) (cs.drop j) = if mayP k n c then (if ahead (prv (cs.take j)) c.key then chk k n (prv (cs.take (j + 1))) (cs.drop (j + 1)) else 63) else 62 := by
  obtain ⟨hj, e⟩ := List.getElem?_eq_some_iff.1 h
  rw [List.drop_eq_getElem_cons hj, e, chk]
  have : prv (cs.take (j + 1)) = some c.key := by
    rw [List.take_add_one, h]
    simp [prv]
  rw [this]
set_option maxRecDepth 100000 in
set_option maxHeartbeats 2000000 in
theorem encode_plain (k n : Int) (co : Option Addr) (cn cc : Nat) (cs : List Cl) (w : World) (hs : SlC w co cn cc cs) (hz : szN cs ≤ 1099511627776) (ht : Tab w) (h0 : 1 < w.heap.size) :
    Calls Tryz.prog 76 #[.int .i64 k, .slice co cn cc, .int .i64 n] w fun e w' => EncTo k n cs w e w' := by
  have HS := hidden hs
  have HZ := hidden hz
  have HT := hidden ht
  have HLEN := hidden hs.hlen
  have hcn : cn ≤ 1099511627776 := by have := hs.hlen; have := szN_eq cs; omega
  have HN := hidden (new_any k n w)
  clear hs hz ht
  go_enter Tryz.func76, Tryz.ntmps76
  go_wp2_with (first | (go_at_call 80; refine HN.out.mono ?_; rintro e w1 ⟨po, ec, rfl, HB1, HQ⟩; refine Hid.out ?_))
  apply hidden
  clear HN
  rcases HQ.out with ⟨rfl, rfl, hno⟩ | ⟨rfl, rfl, hk, hn, hrow⟩
  · have HE : Hid ((1 : Int) = encE k n cs) := hidden (by unfold encE; rw [if_neg hno])
    clear HQ hno
    go_wp2
    go_ret2
    exact EncTo.no HB1.out HE.out (by omega)
  · have hpn := pw_le hn
    obtain ⟨N, rfl⟩ := Int.eq_ofNat_of_zero_le (show 0 ≤ n by omega)
    obtain ⟨a, ha⟩ : ∃ a, w.heap.size = a := ⟨_, rfl⟩
    rw [ha] at hrow ⊢
    have HA := hidden ha
    have HROW : Hid (PR w1 a k N (.slice none 0 0) (.slice none 0 0)) := hidden hrow
    have HK := hidden hk
    have HPN := hidden hn
    have HE0 : Hid (encE k N cs = if chk k N none cs = 0 then (if (N : Int) < szN cs then 61 else 0) else chk k N none cs) := hidden (by unfold encE; rw [if_pos ⟨hk, hn⟩])
    have hN1 : (N : Int) ≤ 65536 := hpn.2
    have hN2 : 512 ≤ N := by omega
    clear HQ hk hn hrow ha hpn
    go_wp2_with fail
    go_loopw [23] (fun i wr => ∃ j : Nat, j ≤ cn ∧ i = .int .i64 j ∧ Hid (chk k N none cs = chk k N (prv (cs.take j)) (cs.drop j)) ∧ Hid (Below w1.heap.size w1 wr)) (fun i _ => cn - (intOf i).toNat)
    case atStart => exact ⟨0, by omega, rfl, hidden (by simp [prv]), hidden (Below.refl _ _)⟩
    case round =>
      obtain ⟨j, hj, rfl, HC, HB⟩ := hrel
      have bj : (j : Int) ≤ 1099511627776 := by omega
      have HBW : Hid (Below w.heap.size w wr) := hidden (bl_go HB1.out (Nat.le_refl _) HB.out)
      by_cases hlt : j < cn
      · have hltI : (j : Int) < (cn : Int) := by omega
        obtain ⟨b, off, c, ka, kc, va, vc, rfl, hb, hci, c0, c1, c2, c3, c4, hkS, hvS⟩ := (HS.out.on HBW.out).item j hlt
        have HCS := hidden (chk_step k N cs j c hci)
        have HCI := hidden hci
        have hkr := hkS.hroom
        have hvr := hvS.hroom
        have HKS := hidden hkS
        have HMB := hidden (fun u => mayBe_any k (N : Int) ka c.key.length kc c.kd va c.val.length vc c.pg c.ct u (by omega) hN1 hkr hvr)
        have HMI := hidden (mayP_iff k N c)
        clear hci hkS hvS
        cases hm : decide (mayN k N c.key.length c.kd c.val.length c.pg c.ct) with
        | false =>
          have HE : Hid ((62 : Int) = encE k N cs) := by
            have : ¬ mayP k N c := fun h => by have := HMI.out.2 h; simp at hm; exact hm this
            have e : chk k N none cs = 62 := by rw [HC.out, HCS.out, if_neg this]
            exact hidden (by rw [HE0.out, e]; simp)
          go_wp2_with (first | (go_at_call 30; refine (HMB.out _).mono ?_; rintro e w2 ⟨rfl, hb2⟩; have HB2 := hidden (bl_go (bl_al HBW.out (Nat.le_refl _) _) (Nat.le_refl _) hb2); clear hb2; rw [hm]))
          go_ret2
          exact EncTo.no HB2.out HE.out (by omega)
        | true =>
          have hmp : mayP k N c := HMI.out.1 (by simpa using hm)
          have HMP := hidden hmp
          clear hmp
          go_wp2_with (first | (go_at_call 30; refine (HMB.out _).mono ?_; rintro e w2 ⟨rfl, hb2⟩; have HBOX := hidden (box5 hb2); have HBR := hidden (al5 hb2); have HB2 := hidden (bl_go (bl_al HB.out (Nat.le_refl _) _) (Nat.le_refl _) hb2); clear hb2; rw [hm]; refine Hid.out ?_))
          apply hidden
          obtain ⟨g8, hg8⟩ : ∃ g8, wr.heap.size = g8 := ⟨_, rfl⟩
          rw [hg8] at HBOX ⊢
          obtain ⟨z0, z1, z2, z3, z4⟩ := HBOX.out
          have HBW2 : Hid (Below w.heap.size w w2) := hidden (bl_go HB1.out (Nat.le_refl _) HB2.out)
          clear hg8 HBOX c0 c1 c2 c3 c4 HMB HMI
          by_cases hj0 : j = 0
          · subst hj0
            have HNX : Hid (chk k N none cs = chk k N (prv (cs.take (0 + 1))) (cs.drop (0 + 1))) := hidden (by rw [HC.out, HCS.out, if_pos HMP.out, if_pos (by simp [prv, ahead])])
            go_wp2_with fail
            go_quiet (fail)
            go_wp2
            go_roundw
            case rel => exact ⟨1, by omega, by go_num, HNX, hidden (bl_dr HB2.out _)⟩
            case measure => simp [intOf]; omega
          · obtain ⟨i, rfl⟩ : ∃ i, j = i + 1 := ⟨j - 1, by omega⟩
            obtain ⟨b', off', c', ka', kc', va', vc', hbo, hb', hci', e0, e1, e2, e3, e4, hk', hv'⟩ := (HS.out.on HBW2.out).item i (by omega)
            injection hbo with hbo
            injection hbo with hb1 hb2
            subst hb1 hb2
            have hprv : prv (cs.take (i + 1)) = some c'.key := by rw [List.take_add_one, hci']; simp [prv]
            have HRI : Hid (∀ q, Calls Tryz.prog 100 #[.slice ka' c'.key.length kc', .slice ka c.key.length kc] (w2.drewN q) fun e w' => e = .returned (.bool (decide (kl c'.key c.key))) ∧ w' = w2.drewN q) :=
              hidden fun q => rise_any _ _ _ _ _ _ _ _ _ (hk'.drewN q) ((HKS.out.on (Nat.le_refl _) HBR.out).drewN q)
            have HPR := hidden hprv
            have i1 : (i : Int) < (cn : Int) := by omega
            have i2 : i < cn := by omega
            have i3 : (i : Int) ≤ 1099511627776 := by omega
            clear hk' hv' hprv hci' e1 e2 e3 e4 z1 z2 z3 z4 hj0
            cases hkl : decide (kl c'.key c.key) with
            | true =>
              have HNX : Hid (chk k N none cs = chk k N (prv (cs.take (i + 1 + 1))) (cs.drop (i + 1 + 1))) := hidden (by
                rw [HC.out, HCS.out, if_pos HMP.out, if_pos (by rw [HPR.out]; simpa [ahead] using hkl)])
              rw [hkl] at HRI
              go_wp2_with fail
              go_quiet (first | (go_at_call 100; exact Calls.quiet_of_same (HRI.out _)))
              go_wp2
              go_roundw
              case rel => exact ⟨i + 1 + 1, by omega, by go_num, HNX, hidden (bl_dr HB2.out _)⟩
              case measure => simp [intOf]; omega
            | false =>
              have HE : Hid ((63 : Int) = encE k N cs) := by
                have e : chk k N none cs = 63 := by rw [HC.out, HCS.out, if_pos HMP.out, if_neg (by rw [HPR.out]; simpa [ahead] using hkl)]
                exact hidden (by rw [HE0.out, e]; simp)
              rw [hkl] at HRI
              go_wp2_with fail
              go_quiet (first | (go_at_call 100; exact Calls.quiet_of_same (HRI.out _)))
              go_wp2
              go_ret2
              exact EncTo.no (bl_dr HBW2.out _) HE.out (by omega)
      · obtain rfl : j = cn := by omega
        have hlI : ¬ (j : Int) < (j : Int) := by omega
        have HOK : Hid (chk k N none cs = 0) := hidden (by rw [HC.out, List.drop_eq_nil_of_le (by rw [HLEN.out]; exact Nat.le_refl _)]; rfl)
        have HSC := hidden (HS.out.on HBW.out)
        have HSZ := hidden (size_any k co j cc cs wr HSC.out HZ.out)
        have hszb := HZ.out
        obtain ⟨Z, hZ⟩ : ∃ Z, szN cs = Z := ⟨_, rfl⟩
        have HZE := hidden hZ
        rw [hZ] at HSZ hszb
        have bZ : (Z : Int) ≤ 1099511627776 := by omega
        clear hZ
        go_wp2_with (first | (go_at_call 75; refine HSZ.out.mono ?_; rintro e w2 ⟨rfl, hb2⟩; have HB2 := hidden hb2; clear hb2; refine Hid.out ?_))
        apply hidden
        have HBW2 : Hid (Below w.heap.size w w2) := hidden (bl_go HBW.out (Nat.le_refl _) HB2.out)
        by_cases hfit : (N : Int) < (Z : Int)
        · have HE : Hid ((61 : Int) = encE k N cs) := hidden (by rw [HE0.out, if_pos HOK.out, HZE.out, if_pos hfit])
          go_wp2
          go_ret2
          exact EncTo.no HBW2.out HE.out (by omega)
        · have HE : Hid ((0 : Int) = encE k N cs) := hidden (by rw [HE0.out, if_pos HOK.out, HZE.out, if_neg hfit])
          have HR2 : Hid (PR w2 a k N (.slice none 0 0) (.slice none 0 0)) := hidden (box_on HROW.out (bl_go HB.out (Nat.le_refl _) HB2.out))
          have HRP := hidden (replace_nil w2 a k N co j cc cs HR2.out (HSC.out.on HB2.out) (fun c hc => (chk_may HOK.out c hc).fit hN1) (by rw [HZE.out]; omega))
          go_wp2_with (first | (go_at_call 101; refine HRP.out.mono ?_; rintro e w3 ⟨rfl, HC3, HP3⟩; refine Hid.out ?_))
          apply hidden
          have HBW3 : Hid (Below w.heap.size w w3) := hidden (HBW2.out.trans (HC3.out.below HBW2.out.size (by have := HA.out; intro i hi e; omega)))
          obtain ⟨bo, bn, bc, so, sn, sc, hpg⟩ := HP3.out
          have HBY := hidden (bytes_any w3 a k N bo bn bc so sn sc cs hpg HK.out HPN.out (by rw [HZE.out]; omega) (HT.out.on HBW3.out h0) (Nat.lt_of_lt_of_le h0 HBW3.out.size) HS.out.wf)
          clear hpg HP3
          go_wp2_with (first | (go_at_call 102; refine HBY.out.mono ?_; rintro e w4 ⟨g, rfl, hg, HBK, HB4⟩))
          go_ret2
          refine ⟨some ⟨g, 0, none⟩, N, N, 0, rfl, hidden (bl_go HBW3.out (Nat.le_refl _) HB4.out), hidden ⟨HE.out, .inr ⟨rfl, g, rfl, by simp, by simp, Nat.le_trans HBW3.out.size hg, ?_⟩⟩⟩
          rw [Int.toNat_natCast]
          exact HBK.out
end Go.Proofs.YtfcbfombobelmaaGreatDoor

/- plain.Page.keyAt, and how a key stands to it. -/

namespace Go.Proofs.YtfcbfombobelmaaGreatDoor
open Go.RowKit

set_option maxRecDepth 100000 in
theorem kl_trans : ∀ (a b c : List Int), kl a b → kl b c → kl a c
  | [], [], _, h, _ => by simp [kl, ordL] at h
  | [], _ :: _, [], _, h => by simp [kl, ordL] at h
  | [], _ :: _, _ :: _, _, _ => by simp [kl, ordL]
  | _ :: _, [], _, h, _ => by simp [kl, ordL] at h
  | _ :: _, _ :: _, [], _, h => by simp [kl, ordL] at h
  | x :: a, y :: b, z :: c, h, g => by
    have ih := kl_trans a b c
    unfold kl at *
    simp only [ordL] at h g ⊢
    by_cases h1 : x < y
    · by_cases g1 : y < z
      · rw [if_pos (by omega)]
      · rw [if_neg g1] at g
        by_cases g2 : z < y
        · rw [if_pos g2] at g; simp at g
        · rw [if_pos (by omega)]
    · rw [if_neg h1] at h
      by_cases h2 : y < x
      · rw [if_pos h2] at h; simp at h
      · rw [if_neg h2] at h
        by_cases g1 : y < z
        · rw [if_pos (by omega)]
        · rw [if_neg g1] at g
          by_cases g2 : z < y
          · rw [if_pos g2] at g; simp at g
          · rw [if_neg g2] at g
            rw [if_neg (by omega), if_neg (by omega)]
            exact ih h g
set_option maxRecDepth 100000 in
/-- Rising keys stand in order. -/
theorem chk_first {k p : Int} : ∀ {q : List Int} {cs : List Cl}, chk k p (some q) cs = 0 → ∀ c ∈ cs, kl q c.key
  | _, [], _, c, hc => by cases hc
  | q, d :: r, h, c, hc => by
    unfold chk at h
    split at h
    · split at h
      · next h2 =>
        rcases List.mem_cons.1 hc with e | e
        · rw [e]; exact h2
        · exact kl_trans _ _ _ h2 (chk_first h c e)
      · simp at h
    · simp at h
set_option maxRecDepth 100000 in
theorem chk_rise {k p : Int} : ∀ {pr : Option (List Int)} {cs : List Cl}, chk k p pr cs = 0 → ∀ (i j : Nat) (c d : Cl), i < j → cs[i]? = some c → cs[j]? = some d → kl c.key d.key
  | _, [], _, i, j, c, d, _, hc, _ => by simp at hc
  | pr, e :: r, h, 0, j + 1, c, d, _, hc, hd => by
    unfold chk at h
    split at h
    · split at h
      · simp at hc
        subst hc
        exact chk_first h d (List.mem_of_getElem? (by simpa using hd))
      · simp at h
    · simp at h
  | pr, e :: r, h, i + 1, j + 1, c, d, hij, hc, hd => by
    unfold chk at h
    split at h
    · split at h
      · exact chk_rise h i j c d (by omega) (by simpa using hc) (by simpa using hd)
      · simp at h
    · simp at h
  | _, _ :: _, _, i, 0, _, _, hij, _, _ => by omega
set_option maxRecDepth 100000 in
theorem key_at (cs : List Cl) (i : Nat) (c : Cl) (h : cs[i]? = some c) (hf : c.fit) : ∃ r, pText ((bdy cs).drop ((bdy (cs.take i)).length + 1)) = some (c.key, r) := by
  obtain ⟨hi, e⟩ := List.getElem?_eq_some_iff.1 h
  have hd : (bdy cs).drop (bdy (cs.take i)).length = cB c ++ bdy (cs.drop (i + 1)) := by
    rw [bdy_drop, List.drop_eq_getElem_cons hi, e, bdy_cons]
  rw [← List.drop_drop, hd, cB]
  simp only [List.cons_append, List.nil_append, List.drop_succ_cons, List.drop_zero, List.append_assoc]
  exact ⟨_, pText_mid _ _ hf.key⟩
set_option maxRecDepth 100000 in
set_option maxHeartbeats 1000000 in
theorem keyAt_any (w : World) (a : Nat) (k : Int) (n : Nat) (bo : Option Addr) (bn bc : Nat) (so : Option Addr) (sn sc : Nat) (cs : List Cl) (h : PgAt w a k n bo bn bc so sn sc cs) (hfit : ∀ c ∈ cs, c.fit) (i : Nat) (c : Cl) (hci : cs[i]? = some c) (hsz : bn ≤ 65536) :
    Calls Tryz.prog 224 #[.pointer (some ⟨a, 0, none⟩), .int .i64 (((sts 0 cs).getD i 0 : Nat) : Int)] w fun e w' => ∃ ko kn kc, e = .returned (.slice ko kn kc) ∧ Hid (Sl w' ko kn kc c.key) ∧ Hid (Below w.heap.size w w') := by
  obtain ⟨hi, hce⟩ := List.getElem?_eq_some_iff.1 hci
  obtain ⟨hsn, hbn⟩ := h.sn_eq
  obtain ⟨c0, c1, c2, c3⟩ := h.cells
  rw [sts_get 0 i cs hi, Nat.zero_add]
  obtain ⟨r, hpt⟩ := key_at cs i c hci (hfit c (List.mem_of_getElem? hci))
  have hle : (bdy (cs.take i)).length + 1 ≤ bn := by
    have h1 := congrArg List.length (bdy_drop cs i)
    rw [List.drop_eq_getElem_cons hi, bdy_cons, List.length_drop, List.length_append] at h1
    have h2 := cB_length cs[i]
    have h3 : 2 < ctk cs[i] := by unfold ctk; split <;> omega
    omega
  obtain ⟨st, hst⟩ : ∃ st, (bdy (cs.take i)).length = st := ⟨_, rfl⟩
  rw [hst] at hpt hle ⊢
  obtain ⟨gb, off, rfl⟩ : ∃ gb off, bo = some ⟨gb, off, none⟩ := by
    rcases h.body.hat with h0 | ⟨b, off, e, _⟩
    · omega
    · exact ⟨b, off, e⟩
  have HSL := hidden h.body
  have HPT := hidden hpt
  have b1 : (st : Int) ≤ 65536 := by omega
  obtain ⟨st1, hst1⟩ : ∃ st1, st + 1 = st1 := ⟨_, rfl⟩
  have hstI : (st : Int) + 1 = (st1 : Int) := by omega
  rw [hst1] at HPT hle
  have HBN := hidden hbn
  clear h hci hi hce hfit hpt hst hsn hbn hst1
  go_enter Tryz.func224, Tryz.ntmps224
  have HTX : Hid (∀ x, x = w.alloc (.cells #[.slice (some ⟨gb, off, none⟩) bn bc, .int .i64 (st1 : Int), .bool false] 187) → Calls Tryz.prog 172 #[.pointer (some ⟨w.heap.size, 0, none⟩)] x fun e w' => ∃ ko kn kc, e = .returned (.slice ko kn kc) ∧ Hid (Sl w' ko kn kc c.key) ∧ Hid (Below w.heap.size w w')) := by
    refine hidden fun x hx => ?_
    have hbx : Below w.heap.size w x := by rw [hx]; exact bl_al (Below.refl _ _) (Nat.le_refl _) _
    have hrd : Rd x w.heap.size (some ⟨gb, off, none⟩) bn bc st1 false := by rw [hx]; exact heap_alloc_last w _
    refine (text_any (bdy cs) x w.heap.size gb off bn bc st1 false hrd (HSL.out.on (Nat.le_refl _) hbx) hle).mono ?_
    rintro e w' ⟨ko, kn, kc, p, en', t, rfl, _, HC, HQ⟩
    obtain ⟨hs, _, _, hcase⟩ := HQ.out
    rw [HPT.out] at hcase
    rcases hcase with ⟨h1, _⟩ | ⟨h1, _⟩
    · injection h1 with h1
      injection h1 with h2 _
      subst h2
      exact ⟨ko, kn, kc, rfl, hidden hs, hidden (hbx.trans (HC.out.below hbx.size (by intro i hi e; omega)))⟩
    · cases h1
  go_wp2_with (first | (go_at_call 172; refine (HTX.out _ rfl).mono ?_; rintro e w2 ⟨ko, kn, kc, rfl, HS2, HB2⟩))
  go_ret
  exact ⟨ko, kn, kc, rfl, HS2, HB2⟩
set_option maxRecDepth 100000 in
/-- The closure of Find. -/
theorem find1_any (w : World) (a bx : Nat) (k : Int) (n : Nat) (bo : Option Addr) (bn bc : Nat) (so : Option Addr) (sn sc : Nat) (cs : List Cl) (h : PgAt w a k n bo bn bc so sn sc cs) (hfit : ∀ c ∈ cs, c.fit) (i : Nat) (c : Cl) (hci : cs[i]? = some c) (hsz : bn ≤ 65536) (qo : Option Addr) (qn qc : Nat) (q : List Int) (hq : Sl w qo qn qc q) (hbx : w.cell? ⟨bx, 0, none⟩ = some (.pointer (some ⟨a, 0, none⟩))) :
    Calls Tryz.prog 223 #[.int .i64 (((sts 0 cs).getD i 0 : Nat) : Int), .slice qo qn qc, .pointer (some ⟨bx, 0, none⟩)] w fun e w' => e = .returned (.int .i64 (ordL c.key q)) ∧ Hid (Below w.heap.size w w') := by
  have HK := hidden (keyAt_any w a k n bo bn bc so sn sc cs h hfit i c hci hsz)
  have HQ := hidden hq
  generalize (((sts 0 cs).getD i 0 : Nat) : Int) = st at *
  clear h hq
  go_enter Tryz.func223, Tryz.ntmps223
  go_wp2_with (first | (go_at_call 224; refine HK.out.mono ?_; rintro e w2 ⟨ko, kn, kc, rfl, HS2, HB2⟩) | (go_at_call 131; refine same_call (compare_any _ _ _ _ _ _ c.key q _ HS2.out (HQ.out.on (Nat.le_refl _) HB2.out)) ?_))
  go_ret
  exact ⟨rfl, HB2⟩
end Go.Proofs.YtfcbfombobelmaaGreatDoor
