import Derived.Test.YtlhkinlgolcpaaaGreatDoorJ09
import Derived.Test.YtlhkinlgolcpaaaGreatDoorJ22
import Derived.Test.YtlhkinlgolcpaaaGreatDoorJ25
import Derived.Test.YtlhkinlgolcpaaaGreatDoorJ19
namespace Go.Proofs.YtlhkinlgolcpaaaGreatDoor
set_option maxRecDepth 100000
open Go.RowKit
def encQ (k n : Int) (cs : List Cl) : Int := if isKd k ∧ pw n then (if chk k n none cs = 0 then (if n < szQ k (shP k cs).length cs then 61 else 0) else chk k n none cs) else 1
def EncQ (k n : Int) (cs : List Cl) (w : World) (e : Ending) (w' : World) : Prop :=
 ∃ ao m cap c, e = .returned (.tuple #[.slice ao m cap, .int .i64 c]) ∧ Hid (Below w.heap.size w w') ∧ Hid (c = encQ k n cs ∧ ((c ≠ 0 ∧ ao = none ∧ m = 0 ∧ cap = 0) ∨ (c = 0 ∧ ∃ g, ao = some ⟨g, 0, none⟩ ∧ m = n.toNat ∧ cap = n.toNat ∧ w.heap.size ≤ g ∧ Bk w' g (pkB k n.toNat cs))))
theorem EncQ.no {k n : Int} {cs : List Cl} {w w' : World} {c : Int} (hb : Below w.heap.size w w') (hc : c = encQ k n cs) (h0 : c ≠ 0) : EncQ k n cs w (.returned (.tuple #[.slice none 0 0, .int .i64 c])) w' := ⟨none, 0, 0, c, rfl, hidden hb, hidden ⟨hc, .inl ⟨h0, rfl, rfl, rfl⟩⟩⟩
set_option maxHeartbeats 4000000 in
theorem encodeQ_any (k n : Int) (co : Option Addr) (cn cc : Nat) (cs : List Cl) (w : World) (hs : SlC w co cn cc cs) (hz : szQ k (shP k cs).length cs ≤ 1099511627776) (ht : Tab w) (h0 : 1 < w.heap.size) :
  Calls Tryz.prog 54 #[.int .i64 k, .slice co cn cc, .int .i64 n] w fun e w' => EncQ k n cs w e w' := by
 obtain ⟨ic, hic, hz0, hz1, hz2⟩ := info_parts infoE
 have HS := hidden hs
 have HZ := hidden hz
 have HT := hidden ht
 have HLEN := hidden hs.hlen
 have hcn : cn ≤ 1099511627776 := by have := hs.hlen; have := szQ_eq k (shP k cs).length cs; omega
 cases h1 : decide (isKd k) with
 | false =>
  have HE : Hid ((1 : Int) = encQ k n cs) := hidden (by unfold encQ; rw [if_neg (fun h => by simp [h.1] at h1)])
  clear hs hz ht
  go_enter Tryz.func54, Tryz.ntmps54
  go_wp2_with (first | (go_at_call 25; refine same_call (isKind_any _ _) ?_; rw [h1]))
  go_ret2
  exact EncQ.no (Below.refl _ _) HE.out (by omega)
 | true =>
  cases h2 : decide (pw n) with
  | false =>
   have HE : Hid ((1 : Int) = encQ k n cs) := hidden (by unfold encQ; rw [if_neg (fun h => by simp [h.2] at h2)])
   clear hs hz ht
   go_enter Tryz.func54, Tryz.ntmps54
   go_wp2_with (first | (go_at_call 25; refine same_call (isKind_any _ _) ?_; rw [h1]) | (go_at_call 24; refine same_call (isSize_any _ _) ?_; rw [h2]))
   go_ret2
   exact EncQ.no (Below.refl _ _) HE.out (by omega)
  | true =>
   have hk : isKd k := by simpa using h1
   have hn : pw n := by simpa using h2
   have hpn := pw_le hn
   obtain ⟨N, rfl⟩ := Int.eq_ofNat_of_zero_le (show 0 ≤ n by omega)
   have HK := hidden hk
   have HPN := hidden hn
   have HE0 : Hid (encQ k N cs = if chk k N none cs = 0 then (if (N : Int) < szQ k (shP k cs).length cs then 61 else 0) else chk k N none cs) := hidden (by unfold encQ; rw [if_pos ⟨hk, hn⟩])
   have hN1 : (N : Int) ≤ 65536 := hpn.2
   have hN2 : 512 ≤ N := by omega
   clear hs hz ht hk hn hpn
   go_enter Tryz.func54, Tryz.ntmps54
   go_wp2_with (first | (go_at_call 25; refine same_call (isKind_any _ _) ?_; rw [h1]) | (go_at_call 24; refine same_call (isSize_any _ _) ?_; rw [h2]))
   clear h1 h2
   go_loopw [23] (fun i wr => ∃ j : Nat, j ≤ cn ∧ i = .int .i64 j ∧ Hid (chk k N none cs = chk k N (prv (cs.take j)) (cs.drop j)) ∧ Hid (Below w.heap.size w wr)) (fun i _ => cn - (intOf i).toNat)
   case atStart => exact ⟨0, by omega, rfl, hidden (by simp [prv]), hidden (Below.refl _ _)⟩
   case round =>
    obtain ⟨j, hj, rfl, HC, HBW⟩ := hrel
    have bj : (j : Int) ≤ 1099511627776 := by omega
    by_cases hlt : j < cn
    ·have hltI : (j : Int) < (cn : Int) := by omega
     obtain ⟨b, off, c, ka, kc, va, vc, rfl, hb, hci, c0, c1, c2, c3, c4, hkS, hvS⟩ := (HS.out.on HBW.out).item j hlt
     have HCS := hidden (chk_step k N cs j c hci)
     have HCI := hidden hci
     have hkr := hkS.hroom
     have hvr := hvS.hroom
     have HKS := hidden hkS
     have HMB := hidden (fun u => mayBe_any k (N : Int) ka c.key.length kc c.kd va c.val.length vc c.pg c.ct u (by omega) hN1 hkr hvr)
     have HMI := hidden (mayP_iff k N c)
     clear hci hkS hvS
     cases hm : decide (mayN k N c.key.length c.kd c.val.length c.pg c.ct) with
     | false =>
      have HE : Hid ((62 : Int) = encQ k N cs) := by
       have : ¬ mayP k N c := fun h => by have := HMI.out.2 h; simp at hm; exact hm this
       have e : chk k N none cs = 62 := by rw [HC.out, HCS.out, if_neg this]
       exact hidden (by rw [HE0.out, e]; simp)
      go_wp2_with (first | (go_at_call 81; refine (HMB.out _).mono ?_; rintro e w2 ⟨rfl, hb2⟩; have HB2 := hidden (bl_go (bl_al HBW.out (Nat.le_refl _) _) (Nat.le_refl _) hb2); clear hb2; rw [hm]))
      go_ret2
      exact EncQ.no HB2.out HE.out (by omega)
     | true =>
      have hmp : mayP k N c := HMI.out.1 (by simpa using hm)
      have HMP := hidden hmp
      clear hmp
      go_wp2_with (first | (go_at_call 81; refine (HMB.out _).mono ?_; rintro e w2 ⟨rfl, hb2⟩; have HBOX := hidden (box5 hb2); have HBR := hidden (al5 hb2); have HBW2 := hidden (bl_go (bl_al HBW.out (Nat.le_refl _) _) (Nat.le_refl _) hb2); clear hb2; rw [hm]; refine Hid.out ?_))
      apply hidden
      obtain ⟨g8, hg8⟩ : ∃ g8, wr.heap.size = g8 := ⟨_, rfl⟩
      rw [hg8] at HBOX ⊢
      obtain ⟨z0, z1, z2, z3, z4⟩ := HBOX.out
      clear hg8 HBOX c0 c1 c2 c3 c4 HMB HMI
      by_cases hj0 : j = 0
      ·subst hj0
       have HNX : Hid (chk k N none cs = chk k N (prv (cs.take (0 + 1))) (cs.drop (0 + 1))) := hidden (by rw [HC.out, HCS.out, if_pos HMP.out, if_pos (by simp [prv, ahead])])
       go_wp2_with fail
       go_quiet (fail)
       go_wp2
       go_roundw
       case rel => exact ⟨1, by omega, by go_num, HNX, hidden (bl_dr HBW2.out _)⟩
       case measure => simp [intOf]; omega
      ·obtain ⟨i, rfl⟩ : ∃ i, j = i + 1 := ⟨j - 1, by omega⟩
       obtain ⟨b', off', c', ka', kc', va', vc', hbo, hb', hci', e0, e1, e2, e3, e4, hk', hv'⟩ := (HS.out.on HBW2.out).item i (by omega)
       injection hbo with hbo
       injection hbo with hb1 hb2
       subst hb1 hb2
       have hprv : prv (cs.take (i + 1)) = some c'.key := by rw [List.take_add_one, hci']; simp [prv]
       have HRI : Hid (∀ q, Calls Tryz.prog 94 #[.slice ka' c'.key.length kc', .slice ka c.key.length kc] (w2.drewN q) fun e w' => e = .returned (.bool (decide (kl c'.key c.key))) ∧ w' = w2.drewN q) :=
        hidden fun q => riseQ_any _ _ _ _ _ _ _ _ _ (hk'.drewN q) ((HKS.out.on (Nat.le_refl _) HBR.out).drewN q)
       have HPR := hidden hprv
       have i1 : (i : Int) < (cn : Int) := by omega
       have i2 : i < cn := by omega
       have i3 : (i : Int) ≤ 1099511627776 := by omega
       clear hk' hv' hprv hci' e1 e2 e3 e4 z1 z2 z3 z4 hj0
       cases hkl : decide (kl c'.key c.key) with
       | true =>
        have HNX : Hid (chk k N none cs = chk k N (prv (cs.take (i + 1 + 1))) (cs.drop (i + 1 + 1))) := hidden (by
         rw [HC.out, HCS.out, if_pos HMP.out, if_pos (by rw [HPR.out]; simpa [ahead] using hkl)])
        rw [hkl] at HRI
        go_wp2_with fail
        go_quiet (first | (go_at_call 94; exact Calls.quiet_of_same (HRI.out _)))
        go_wp2
        go_roundw
        case rel => exact ⟨i + 1 + 1, by omega, by go_num, HNX, hidden (bl_dr HBW2.out _)⟩
        case measure => simp [intOf]; omega
       | false =>
        have HE : Hid ((63 : Int) = encQ k N cs) := by
         have e : chk k N none cs = 63 := by rw [HC.out, HCS.out, if_pos HMP.out, if_neg (by rw [HPR.out]; simpa [ahead] using hkl)]
         exact hidden (by rw [HE0.out, e]; simp)
        rw [hkl] at HRI
        go_wp2_with fail
        go_quiet (first | (go_at_call 94; exact Calls.quiet_of_same (HRI.out _)))
        go_wp2
        go_ret2
        exact EncQ.no (bl_dr HBW2.out _) HE.out (by omega)
    ·obtain rfl : j = cn := by omega
     have hlI : ¬ (j : Int) < (j : Int) := by omega
     have HOK : Hid (chk k N none cs = 0) := hidden (by rw [HC.out, List.drop_eq_nil_of_le (by rw [HLEN.out]; exact Nat.le_refl _)]; rfl)
     have HSC := hidden (HS.out.on HBW.out)
     have HSZ := hidden (psize_any k co j cc cs wr HSC.out HZ.out)
     have hszb := HZ.out
     obtain ⟨Z, hZ⟩ : ∃ Z, szQ k (shP k cs).length cs = Z := ⟨_, rfl⟩
     have HZE := hidden hZ
     rw [hZ] at HSZ hszb
     have bZ : (Z : Int) ≤ 1099511627776 := by omega
     clear hZ
     go_wp2_with (first | (go_at_call 53; refine HSZ.out.mono ?_; rintro e w2 ⟨rfl, HB2⟩; refine Hid.out ?_))
     apply hidden
     have HBW2 : Hid (Below w.heap.size w w2) := hidden (bl_go HBW.out (Nat.le_refl _) HB2.out)
     clear HSZ
     by_cases hfit : (N : Int) < (Z : Int)
     ·have HE : Hid ((61 : Int) = encQ k N cs) := hidden (by rw [HE0.out, if_pos HOK.out, HZE.out, if_pos hfit])
      go_wp2
      go_ret2
      exact EncQ.no HBW2.out HE.out (by omega)
     ·have HE : Hid ((0 : Int) = encQ k N cs) := hidden (by rw [HE0.out, if_pos HOK.out, HZE.out, if_neg hfit])
      have hjb : j ≤ 65536 := by
       have h3 := szQ_eq k (shP k cs).length cs
       have h4 := HLEN.out
       have h5 := HZE.out
       omega
      have hjI : (j : Int) ≤ 65536 := by omega
      have HNF : Hid (szQ k (shP k cs).length cs ≤ N) := hidden (by rw [HZE.out]; omega)
      clear HC
      go_wp2_with (at_make; refine wpList_make_full _ rfl _ _ 98 rfl w2.heap.size 100 ic _ 6 Tryz.underlying98 hic hz0 hz1 .i64 .i64 j j j rfl rfl rfl rfl (by rw [hz2]; omega) (by unfold maxLen; omega) (Nat.le_refl _) ?_; refine Hid.out ?_)
      apply hidden
      intro w3 ho3 hg3
      have hb3 : Below w2.heap.size w2 w3 := (Below.refl _ _).grown hg3 (Nat.le_refl _) (fun k hk => by cases hk)
      obtain ⟨g, hg⟩ : ∃ g, w2.heap.size = g := ⟨_, rfl⟩
      have HRW : Hid (RowEq w3 g j) := by
       rcases ho3.2 with ⟨h, _⟩ | ⟨q, c, cur, h, _, hh, _, _, hss, _⟩
       ·cases h
       ·cases h
        rw [← hg]
        exact hidden ⟨cur, hh, by rw [hss]; omega⟩
      have hgs : Below g w2 w3 := by rw [← hg]; exact hb3
      have HGS := hidden hgs
      have HGW := hidden hg
      have HWG : Hid (w.heap.size ≤ g) := hidden (by rw [← hg]; exact HBW2.out.size)
      rw [hg]
      clear ho3 hg3 hb3 hgs hg HSC HB2
      go_wp2_with fail
      go_loopw [58] (fun i wr => ∃ t : Nat, t ≤ j ∧ i = .int .i64 t ∧ Hid (RowEq wr g j) ∧ Hid (Below g w2 wr) ∧ Hid (∀ i d, i < t → cs[i]? = some d → EAt wr g g (i * 6) d)) (fun i _ => j - (intOf i).toNat)
      case atStart => exact ⟨0, by omega, rfl, HRW, HGS, hidden fun i d hi => by omega⟩
      case round =>
       obtain ⟨t, ht, rfl, HR, HG, HD⟩ := hrel
       obtain ⟨wo, hwo⟩ : ∃ wo, wo = wr := ⟨_, rfl⟩
       subst hwo
       have HBE : Hid (Below w.heap.size w wo) := hidden (HBW2.out.trans (HG.out.mono HWG.out))
       have bt : (t : Int) ≤ 65536 := by omega
       clear HRW HGS
       by_cases hlt : t < j
       ·have hltI : (t : Int) < (j : Int) := by omega
        obtain ⟨b, off, c, ka, kc, va, vc, rfl, hb, hci, c0, c1, c2, c3, c4, hkS, hvS⟩ := HS.out.item t hlt
        have d0 := (HBE.out.cell (p := ⟨b, off + t * 5, none⟩) hb).trans c0
        have d1 := (HBE.out.cell (p := ⟨b, off + t * 5 + 1, none⟩) hb).trans c1
        have d2 := (HBE.out.cell (p := ⟨b, off + t * 5 + 2, none⟩) hb).trans c2
        have d3 := (HBE.out.cell (p := ⟨b, off + t * 5 + 3, none⟩) hb).trans c3
        have d4 := (HBE.out.cell (p := ⟨b, off + t * 5 + 4, none⟩) hb).trans c4
        have HKS := hidden hkS
        have HVS := hidden hvS
        have HCI := hidden hci
        clear c0 c1 c2 c3 c4 hkS hvS hci
        obtain ⟨x, hx⟩ : ∃ x, wo.alloc (.cells #[.slice ka c.key.length kc, .int .i64 c.kd, .slice va c.val.length vc, .int .i64 c.pg, .int .i64 c.ct] 41) = x := ⟨_, rfl⟩
        have hbx : Below wo.heap.size wo x := by rw [← hx]; exact bl_al (Below.refl _ _) (Nat.le_refl _) _
        have HBX := hidden hbx
        have HR2 : Hid (RowEq (wo.alloc (.cells #[.slice ka c.key.length kc, .int .i64 c.kd, .slice va c.val.length vc, .int .i64 c.pg, .int .i64 c.ct] 41)) g j) := hidden (by rw [hx]; exact HR.out.on hbx)
        have HX := hidden hx
        clear hbx hx
        go_wp2_with (refine put_entry (by rfl) _ _ (by rfl) g (t * 6) j none ka va 0 0 c.key.length kc c.val.length vc c.kd c.pg c.ct HR2.out (by rfl) (by rfl) (by omega) ?_; intro u3 HU3; refine Hid.out ?_)
        apply hidden
        rw [HX.out] at HU3 HR2
        have HR3 : Hid (RowEq u3 g j) := hidden (by rw [HU3.out]; exact RowEq.sets _ _ _ HR2.out)
        have hg2 : Below g w2 x := HG.out.trans (HBX.out.mono (Nat.le_of_lt HR.out.lt))
        have HG3 : Hid (Below g w2 u3) := hidden (by
         rw [HU3.out]
         simp only [World.setCells]
         refine (((((hg2.setCell ?_ _).setCell ?_ _).setCell ?_ _).setCell ?_ _).setCell ?_ _).setCell ?_ _ <;> simp)
        have HD3 : Hid (∀ i d, i < t + 1 → cs[i]? = some d → EAt u3 g g (i * 6) d) := by
         refine hidden fun i d' hi hd' => ?_
         rw [HU3.out]
         have hbw : Below w.heap.size w x := bl_go HBE.out (Nat.le_refl _) HBX.out
         by_cases e : i = t
         ·subst e
          rw [HCI.out] at hd'
          injection hd' with hd'
          subst hd'
          exact EAt.new (h := []) (key := c.key) HR2.out (by omega) (Nat.le_refl _) (Sl.nil_any _ _ _ fun _ => rfl) (HKS.out.on (Nat.le_refl _) hbw) (HVS.out.on (Nat.le_refl _) hbw) (by simp) (.inl rfl) (HKS.out.lo.mono HWG.out) (HVS.out.lo.mono HWG.out)
         ·exact ((HD.out i d' (by omega) hd').on HR.out.lt HBX.out).put (Nat.le_refl _) (by omega)
        clear HU3 HR2 HR HG HD hg2 HX d0 d1 d2 d3 d4
        go_wp2
        go_roundw
        case rel => exact ⟨t + 1, by omega, by go_num, HR3, HG3, HD3⟩
        case measure => simp [intOf]; omega
       ·obtain rfl : t = j := by omega
        have hlI : ¬ (t : Int) < (t : Int) := by omega
        have hsE : SlE wo g (some ⟨g, 0, none⟩) t t cs := ⟨HLEN.out, Nat.le_refl _, by omega, (by intro h; cases h), .inr ⟨g, 0, rfl, HR.out.lt, fun i d hd => by
         rw [Nat.zero_add]
         have := (List.getElem?_eq_some_iff.1 hd).1
         exact HD.out i d (by rw [← HLEN.out]; exact this) hd⟩⟩
        have hfit := chk_fit HOK.out HPN.out
        have hzz := szQ_eq k (shP k cs).length cs
        have hnf := HNF.out
        have hrs := chk_rs HOK.out
        have HLD := hidden (laid_any k N g _ t t cs wo hsE (Nat.le_of_lt HR.out.lt) hrs hfit hjb (by omega))
        have HWF := hidden hsE.wf
        have HFT := hidden hfit
        have HZZ : Hid ((qbd (shP k cs).length (whl k) cs).length ≤ 1099511627776 ∧ cs.length ≤ 65536) := hidden (by rw [HLEN.out]; omega)
        clear hsE hfit hzz hnf hrs HR HG HD
        go_wp2_with (first | (go_at_call 95; refine HLD.out.mono ?_; intro e w4 hq; obtain ⟨b4, rfl, HL4, HB4, _⟩ := hq.ld HWF.out HFT.out HZZ.out.2 HZZ.out.1; refine Hid.out ?_))
        apply hidden
        have HBW4 : Hid (Below w.heap.size w w4) := hidden (bl_go HBE.out (Nat.le_refl _) HB4.out)
        have HWR := hidden (written_ld HL4.out HK.out HPN.out HNF.out (HT.out.on HBW4.out h0) (Nat.lt_of_lt_of_le h0 HBW4.out.size))
        clear HLD
        go_wp2_with (first | (go_at_call 96; refine HWR.out.mono ?_; rintro e w5 ⟨g5, rfl, hg5, HBK, HB5⟩))
        go_ret2
        refine ⟨some ⟨g5, 0, none⟩, N, N, 0, rfl, hidden (bl_go HBW4.out (Nat.le_refl _) HB5.out), hidden ⟨HE.out, .inr ⟨rfl, g5, rfl, by simp, by simp, Nat.le_trans HBW4.out.size hg5, ?_⟩⟩⟩
        rw [Int.toNat_natCast]
        exact HBK.out
end Go.Proofs.YtlhkinlgolcpaaaGreatDoor

namespace Go.Proofs.YtlhkinlgolcpaaaGreatDoor
set_option maxRecDepth 100000
open Go.RowKit
def lyE (e : Int) : Array Value := if e = 1 then ly1 else ly2
def fitB (e k : Int) (n : Nat) (cs : List Cl) : Bool := decide (isKd k ∧ pw n ∧ chk k n none cs = 0 ∧ szE e k cs ≤ n)
theorem encE_zero (k : Int) (n : Nat) (cs : List Cl) : (encE k n cs = 0) ↔ (fitB 1 k n cs = true) := by
 unfold encE fitB szE
 by_cases h1 : isKd k ∧ pw n
 ·rw [if_pos h1]
  by_cases h2 : chk k n none cs = 0
  ·rw [if_pos h2]
   by_cases h3 : (n : Int) < (szN cs : Int)
   ·have : ¬ szN cs ≤ n := by omega
    simp [h1, h2, h3, this]
   ·have : szN cs ≤ n := by omega
    simp [h1, h2, h3, this]
  ·rw [if_neg h2]
   simp [h2]
 ·rw [if_neg h1]
  have : ¬ (isKd k ∧ pw (n : Int) ∧ chk k n none cs = 0 ∧ (if (1 : Int) = 1 then szN cs else szQ k (shP k cs).length cs) ≤ n) := fun h => h1 ⟨h.1, h.2.1⟩
  simp only [decide_eq_true_eq]
  exact ⟨fun h => (by cases h), fun h => absurd h this⟩
theorem encQ_zero (k : Int) (n : Nat) (cs : List Cl) : (encQ k n cs = 0) ↔ (fitB 2 k n cs = true) := by
 unfold encQ fitB szE
 by_cases h1 : isKd k ∧ pw n
 ·rw [if_pos h1]
  by_cases h2 : chk k n none cs = 0
  ·rw [if_pos h2]
   by_cases h3 : (n : Int) < (szQ k (shP k cs).length cs : Int)
   ·have : ¬ szQ k (shP k cs).length cs ≤ n := by omega
    simp [h1, h2, h3, this]
   ·have : szQ k (shP k cs).length cs ≤ n := by omega
    simp [h1, h2, h3, this]
  ·rw [if_neg h2]
   simp [h2]
 ·rw [if_neg h1]
  have : ¬ (isKd k ∧ pw (n : Int) ∧ chk k n none cs = 0 ∧ (if (2 : Int) = 1 then szN cs else szQ k (shP k cs).length cs) ≤ n) := fun h => h1 ⟨h.1, h.2.1⟩
  simp only [decide_eq_true_eq]
  exact ⟨fun h => (by cases h), fun h => absurd h this⟩
theorem fits_1 (w : World) (k : Int) (n : Nat) (ao : Option Addr) (m cap : Nat) (cs : List Cl) (hs : SlC w ao m cap cs) (hz : szE 1 k cs ≤ 1099511627776) (ht : Tab w) (h0 : 1 < w.heap.size) :
  Calls Tryz.prog 23 #[.agg ly1, .int .i64 k, .slice ao m cap, .int .i64 (n : Int)] w fun e w' => e = .returned (.bool (fitB 1 k n cs)) ∧ Hid (Below w.heap.size w w') := by
 have hz' : szN cs ≤ 1099511627776 := by unfold szE at hz; simpa using hz
 have HE : Hid (∀ u, Below w.heap.size w u → Calls Tryz.prog 46 #[.int .i64 k, .slice ao m cap, .int .i64 (n : Int)] u fun e w' => ∃ bo bm bc c, e = .returned (.tuple #[.slice bo bm bc, .int .i64 c]) ∧ Hid (Below w.heap.size w w') ∧ Hid (decide (c = 0) = fitB 1 k n cs)) := hidden fun u hu => by
  refine (encode_plain k n ao m cap cs u (hs.on hu) hz' (ht.on hu h0) (Nat.lt_of_lt_of_le h0 hu.size)).mono ?_
  rintro e w' ⟨bo, bm, bc, c, rfl, HB, HQ⟩
  refine ⟨bo, bm, bc, c, rfl, hidden (bl_go hu (Nat.le_refl _) HB.out), hidden ?_⟩
  have := encE_zero k n cs
  rw [← HQ.out.1] at this
  cases hf : fitB 1 k n cs with
  | true => exact decide_eq_true (this.2 hf)
  | false => exact decide_eq_false (fun h => by rw [this.1 h] at hf; cases hf)
 generalize fitB 1 k n cs = B at *
 clear hs hz ht h0 hz'
 go_enter Tryz.func23, Tryz.ntmps23
 go_wp2_with (first | (go_at_call 46; refine (HE.out _ (bl_al (Below.refl _ _) (Nat.le_refl _) _)).mono ?_; rintro e w2 ⟨bo, bm, bc, c, rfl, HB, HQ⟩; refine Hid.out ?_))
 apply hidden
 clear HE
 cases B with
 | true =>
  have h1 : c = 0 := by simpa using HQ.out
  subst h1
  clear HQ
  go_wp2
  go_ret
  exact ⟨rfl, HB⟩
 | false =>
  have h1 : ¬ c = 0 := by simpa using HQ.out
  have h2 : (c == 0) = false := by simpa using h1
  clear HQ
  go_wp2
  go_ret
  exact ⟨rfl, HB⟩
theorem fits_2 (w : World) (k : Int) (n : Nat) (ao : Option Addr) (m cap : Nat) (cs : List Cl) (hs : SlC w ao m cap cs) (hz : szE 2 k cs ≤ 1099511627776) (ht : Tab w) (h0 : 1 < w.heap.size) :
  Calls Tryz.prog 23 #[.agg ly2, .int .i64 k, .slice ao m cap, .int .i64 (n : Int)] w fun e w' => e = .returned (.bool (fitB 2 k n cs)) ∧ Hid (Below w.heap.size w w') := by
 have hz' : szQ k (shP k cs).length cs ≤ 1099511627776 := by unfold szE at hz; simpa using hz
 have HE : Hid (∀ u, Below w.heap.size w u → Calls Tryz.prog 54 #[.int .i64 k, .slice ao m cap, .int .i64 (n : Int)] u fun e w' => ∃ bo bm bc c, e = .returned (.tuple #[.slice bo bm bc, .int .i64 c]) ∧ Hid (Below w.heap.size w w') ∧ Hid (decide (c = 0) = fitB 2 k n cs)) := hidden fun u hu => by
  refine (encodeQ_any k n ao m cap cs u (hs.on hu) hz' (ht.on hu h0) (Nat.lt_of_lt_of_le h0 hu.size)).mono ?_
  rintro e w' ⟨bo, bm, bc, c, rfl, HB, HQ⟩
  refine ⟨bo, bm, bc, c, rfl, hidden (bl_go hu (Nat.le_refl _) HB.out), hidden ?_⟩
  have := encQ_zero k n cs
  rw [← HQ.out.1] at this
  cases hf : fitB 2 k n cs with
  | true => exact decide_eq_true (this.2 hf)
  | false => exact decide_eq_false (fun h => by rw [this.1 h] at hf; cases hf)
 generalize fitB 2 k n cs = B at *
 clear hs hz ht h0 hz'
 go_enter Tryz.func23, Tryz.ntmps23
 go_wp2_with (first | (go_at_call 54; refine (HE.out _ (bl_al (Below.refl _ _) (Nat.le_refl _) _)).mono ?_; rintro e w2 ⟨bo, bm, bc, c, rfl, HB, HQ⟩; refine Hid.out ?_))
 apply hidden
 clear HE
 cases B with
 | true =>
  have h1 : c = 0 := by simpa using HQ.out
  subst h1
  clear HQ
  go_wp2
  go_ret
  exact ⟨rfl, HB⟩
 | false =>
  have h1 : ¬ c = 0 := by simpa using HQ.out
  have h2 : (c == 0) = false := by simpa using h1
  clear HQ
  go_wp2
  go_ret
  exact ⟨rfl, HB⟩
end Go.Proofs.YtlhkinlgolcpaaaGreatDoor
