import Derived.Test.YtofafbmpbkjhnaaGreatDoorJ30
import Derived.Test.YtofafbmpbkjhnaaGreatDoorJ44
namespace Go.Proofs.YtofafbmpbkjhnaaGreatDoor
set_option maxRecDepth 100000
set_option maxHeartbeats 4000000
open Go.RowKit
def encQ (k n : Int) (cs : List Cl) : Int := if isKd k ∧ pw n then (if chk k n none cs = 0 then (if n < szQ k (shP k cs).length cs then 61 else 0) else chk k n none cs) else 1
def EncQ (k n : Int) (cs : List Cl) (w : World) (e : Ending) (w' : World) : Prop :=
 ∃ ao m cap c, e = .returned (.tuple #[.slice ao m cap, .int .i64 c]) ∧ Hid (Below w.heap.size w w') ∧ Hid (c = encQ k n cs ∧ ((c ≠ 0 ∧ ao = none ∧ m = 0 ∧ cap = 0) ∨ (c = 0 ∧ ∃ g, ao = some ⟨g, 0, none⟩ ∧ m = n.toNat ∧ cap = n.toNat ∧ w.heap.size ≤ g ∧ Bk w' g (pkB k n.toNat cs))))
theorem EncQ.no {k n : Int} {cs : List Cl} {w w' : World} {c : Int} (hb : Below w.heap.size w w') (hc : c = encQ k n cs) (h0 : c ≠ 0) : EncQ k n cs w (.returned (.tuple #[.slice none 0 0, .int .i64 c])) w' := ⟨none, 0, 0, c, rfl, zaa hb, zaa ⟨hc, .inl ⟨h0, rfl, rfl, rfl⟩⟩⟩
theorem encodeQ_any (k n : Int) (co : Option Addr) (cn cc : Nat) (cs : List Cl) (w : World) (hs : SlC w co cn cc cs) (hz : szQ k (shP k cs).length cs ≤ 1099511627776) (ht : Tab w) (h0 : 1 < w.heap.size) :
  Calls Tryz.prog 89 #[.int .i64 k, .slice co cn cc, .int .i64 n] w fun e w' => EncQ k n cs w e w' := by
 obtain ⟨ic, hic, hz0, hz1, hz2⟩ := info_parts infoE
 have HS := zaa hs
 have HZ := zaa hz
 have HT := zaa ht
 have HLEN := zaa hs.hlen
 have hcn : cn ≤ 1099511627776 := by have := hs.hlen; have := szQ_eq k (shP k cs).length cs; omega
 cases h1 : decide (isKd k) with
 | false =>
  have HE : Hid ((1 : Int) = encQ k n cs) := zaa (by unfold encQ; rw [if_neg (fun h => by simp [h.1] at h1)])
  clear hs hz ht
  go_enter Tryz.func89, Tryz.ntmps89
  go_wp2_with (go_at_call 63; refine zae (zbj _ _) ?_; rw [h1])
  go_ret2
  exact EncQ.no Br HE.out (by omega)
 | true =>
  cases h2 : decide (pw n) with
  | false =>
   have HE : Hid ((1 : Int) = encQ k n cs) := zaa (by unfold encQ; rw [if_neg (fun h => by simp [h.2] at h2)])
   clear hs hz ht
   go_enter Tryz.func89, Tryz.ntmps89
   go_wp2_with (first | (go_at_call 63; refine zae (zbj _ _) ?_; rw [h1]) | (go_at_call 62; refine zae (zbg _ _) ?_; rw [h2]))
   go_ret2
   exact EncQ.no Br HE.out (by omega)
  | true =>
   have hk : isKd k := by simpa using h1
   have hn : pw n := by simpa using h2
   have hpn := pw_le hn
   obtain ⟨N, rfl⟩ := Int.eq_ofNat_of_zero_le (show 0 ≤ n by omega)
   have HK := zaa hk
   have HPN := zaa hn
   have HE0 : Hid (encQ k N cs = if chk k N none cs = 0 then (if (N : Int) < szQ k (shP k cs).length cs then 61 else 0) else chk k N none cs) := zaa (by unfold encQ; rw [if_pos ⟨hk, hn⟩])
   have hN1 : (N : Int) ≤ 65536 := hpn.2
   have hN2 : 512 ≤ N := by omega
   clear hs hz ht hk hn hpn
   go_enter Tryz.func89, Tryz.ntmps89
   go_wp2_with (first | (go_at_call 63; refine zae (zbj _ _) ?_; rw [h1]) | (go_at_call 62; refine zae (zbg _ _) ?_; rw [h2]))
   clear h1 h2
   go_loopw [23] (fun i wr => ∃ j : Nat, j ≤ cn ∧ i = .int .i64 j ∧ Hid (chk k N none cs = chk k N (prv (cs.take j)) (cs.drop j)) ∧ Hid (Below w.heap.size w wr)) (fun i _ => cn - (intOf i).toNat)
   case atStart => exact ⟨0, by omega, rfl, zaa (by simp [prv]), zaa Br⟩
   case round =>
    obtain ⟨j, hj, rfl, HC, HBW⟩ := hrel
    have bj : (j : Int) ≤ 1099511627776 := by omega
    by_cases hlt : j < cn
    ·have hltI : (j : Int) < (cn : Int) := by omega
     obtain ⟨b, off, c, ka, kc, va, vc, rfl, hb, hci, c0, c1, c2, c3, c4, hkS, hvS⟩ := (HS.out.on HBW.out).item j hlt
     have HCS := zaa (chk_step k N cs j c hci)
     have HCI := zaa hci
     have hkr := hkS.hroom
     have hvr := hvS.hroom
     have HKS := zaa hkS
     have HMB := zaa (fun u => zcu k (N : Int) ka c.key.length kc c.kd va c.val.length vc c.pg c.ct u (by omega) hN1 hkr hvr)
     have HMI := zaa (zch k N c)
     clear hci hkS hvS
     cases hm : decide (mayN k N c.key.length c.kd c.val.length c.pg c.ct) with
     | false =>
      have HE : Hid ((62 : Int) = encQ k N cs) := by
       have : ¬ mayP k N c := fun h => by have := HMI.out.2 h; simp at hm; exact hm this
       have e : chk k N none cs = 62 := by rw [HC.out, HCS.out, if_neg this]
       exact zaa (by rw [HE0.out, e]; simp)
      go_wp2_with (go_at_call 143; refine (HMB.out _).mono ?_; rintro e w2 ⟨rfl, hb2⟩; have HB2 := zaa (zab (zac HBW.out Lr _) Lr hb2); clear hb2; rw [hm])
      go_ret2
      exact EncQ.no HB2.out HE.out (by omega)
     | true =>
      have hmp : mayP k N c := HMI.out.1 (by simpa using hm)
      have HMP := zaa hmp
      clear hmp
      go_wp2_with (go_at_call 143; refine (HMB.out _).mono ?_; rintro e w2 ⟨rfl, hb2⟩; have HBOX := zaa (box5 hb2); have HBR := zaa (al5 hb2); have HBW2 := zaa (zab (zac HBW.out Lr _) Lr hb2); clear hb2; rw [hm]; refine Hid.out ?_)
      apply zaa
      obtain ⟨g8, hg8⟩ : ∃ g8, wr.heap.size = g8 := ⟨_, rfl⟩
      rw [hg8] at HBOX ⊢
      obtain ⟨z0, z1, z2, z3, z4⟩ := HBOX.out
      clear hg8 HBOX c0 c1 c2 c3 c4 HMB HMI
      by_cases hj0 : j = 0
      ·subst hj0
       have HNX : Hid (chk k N none cs = chk k N (prv (cs.take (0 + 1))) (cs.drop (0 + 1))) := zaa (by rw [HC.out, HCS.out, if_pos HMP.out, if_pos (by simp [prv, zat])])
       go_wp2_with fail
       go_quiet (fail)
       go_wp2
       go_roundw
       case rel => exact ⟨1, by omega, by go_num, HNX, zaa (zad HBW2.out _)⟩
       case measure => simp [intOf]; omega
      ·obtain ⟨i, rfl⟩ : ∃ i, j = i + 1 := ⟨j - 1, by omega⟩
       obtain ⟨b', off', c', ka', kc', va', vc', hbo, hb', hci', e0, e1, e2, e3, e4, hk', hv'⟩ := (HS.out.on HBW2.out).item i (by omega)
       injection hbo with hbo
       injection hbo with hb1 hb2
       subst hb1 hb2
       have hprv : prv (cs.take (i + 1)) = some c'.key := by rw [List.take_add_one, hci']; simp [prv]
       have HRI : Hid (∀ q, Calls Tryz.prog 156 #[.slice ka' c'.key.length kc', .slice ka c.key.length kc] (w2.drewN q) fun e w' => e = .returned (.bool (decide (kl c'.key c.key))) ∧ w' = w2.drewN q) :=
        zaa fun q => riseQ_any _ _ _ _ _ _ _ _ _ (hk'.drewN q) ((HKS.out.on Lr HBR.out).drewN q)
       have HPR := zaa hprv
       have i1 : (i : Int) < (cn : Int) := by omega
       have i2 : i < cn := by omega
       have i3 : (i : Int) ≤ 1099511627776 := by omega
       clear hk' hv' hprv hci' e1 e2 e3 e4 z1 z2 z3 z4 hj0
       cases hkl : decide (kl c'.key c.key) with
       | true =>
        have HNX : Hid (chk k N none cs = chk k N (prv (cs.take (i + 1 + 1))) (cs.drop (i + 1 + 1))) := zaa (by
         rw [HC.out, HCS.out, if_pos HMP.out, if_pos (by rw [HPR.out]; simpa [zat] using hkl)])
        rw [hkl] at HRI
        go_wp2_with fail
        go_quiet (first | (go_at_call 156; exact Calls.quiet_of_same (HRI.out _)))
        go_wp2
        go_roundw
        case rel => exact ⟨i + 1 + 1, by omega, by go_num, HNX, zaa (zad HBW2.out _)⟩
        case measure => simp [intOf]; omega
       | false =>
        have HE : Hid ((63 : Int) = encQ k N cs) := by
         have e : chk k N none cs = 63 := by rw [HC.out, HCS.out, if_pos HMP.out, if_neg (by rw [HPR.out]; simpa [zat] using hkl)]
         exact zaa (by rw [HE0.out, e]; simp)
        rw [hkl] at HRI
        go_wp2_with fail
        go_quiet (first | (go_at_call 156; exact Calls.quiet_of_same (HRI.out _)))
        go_wp2
        go_ret2
        exact EncQ.no (zad HBW2.out _) HE.out (by omega)
    ·obtain rfl : j = cn := by omega
     have hlI : ¬ (j : Int) < (j : Int) := by omega
     have HOK : Hid (chk k N none cs = 0) := zaa (by rw [HC.out, List.drop_eq_nil_of_le (by rw [HLEN.out]; exact Lr)]; rfl)
     have HSC := zaa (HS.out.on HBW.out)
     have HSZ := zaa (psize_any k co j cc cs wr HSC.out HZ.out)
     have hszb := HZ.out
     obtain ⟨Z, hZ⟩ : ∃ Z, szQ k (shP k cs).length cs = Z := ⟨_, rfl⟩
     have HZE := zaa hZ
     rw [hZ] at HSZ hszb
     have bZ : (Z : Int) ≤ 1099511627776 := by omega
     clear hZ
     go_wp2_with (go_at_call 88; refine HSZ.out.mono ?_; rintro e w2 ⟨rfl, HB2⟩; refine Hid.out ?_)
     apply zaa
     have HBW2 : Hid (Below w.heap.size w w2) := zaa (zab HBW.out Lr HB2.out)
     clear HSZ
     by_cases hfit : (N : Int) < (Z : Int)
     ·have HE : Hid ((61 : Int) = encQ k N cs) := zaa (by rw [HE0.out, if_pos HOK.out, HZE.out, if_pos hfit])
      go_wp2
      go_ret2
      exact EncQ.no HBW2.out HE.out (by omega)
     ·have HE : Hid ((0 : Int) = encQ k N cs) := zaa (by rw [HE0.out, if_pos HOK.out, HZE.out, if_neg hfit])
      have hjb : j ≤ 65536 := by
       have h3 := szQ_eq k (shP k cs).length cs
       have h4 := HLEN.out
       have h5 := HZE.out
       omega
      have hjI : (j : Int) ≤ 65536 := by omega
      have HNF : Hid (szQ k (shP k cs).length cs ≤ N) := zaa (by rw [HZE.out]; omega)
      clear HC
      go_wp2_with (at_make; refine wpList_make_full _ rfl _ _ 157 rfl w2.heap.size 159 ic _ 6 Tryz.underlying157 hic hz0 hz1 .i64 .i64 j j j rfl rfl rfl rfl (by rw [hz2]; omega) (by unfold maxLen; omega) Lr ?_; refine Hid.out ?_)
      apply zaa
      intro w3 ho3 hg3
      have hb3 : Below w2.heap.size w2 w3 := Br.grown hg3 Lr (fun k hk => by cases hk)
      obtain ⟨g, hg⟩ : ∃ g, w2.heap.size = g := ⟨_, rfl⟩
      have HRW : Hid (zag w3 g j) := by
       rcases ho3.2 with ⟨h, _⟩ | ⟨q, c, cur, h, _, hh, _, _, hss, _⟩
       ·cases h
       ·cases h
        rw [← hg]
        exact zaa ⟨cur, hh, by rw [hss]; omega⟩
      have hgs : Below g w2 w3 := by rw [← hg]; exact hb3
      have HGS := zaa hgs
      have HGW := zaa hg
      have HWG : Hid (w.heap.size ≤ g) := zaa (by rw [← hg]; exact HBW2.out.size)
      rw [hg]
      clear ho3 hg3 hb3 hgs hg HSC HB2
      go_wp2_with fail
      go_loopw [58] (fun i wr => ∃ t : Nat, t ≤ j ∧ i = .int .i64 t ∧ Hid (zag wr g j) ∧ Hid (Below g w2 wr) ∧ Hid (∀ i d, i < t → cs[i]? = some d → EAt wr g g (i * 6) d)) (fun i _ => j - (intOf i).toNat)
      case atStart => exact ⟨0, by omega, rfl, HRW, HGS, zaa fun i d hi => by omega⟩
      case round =>
       obtain ⟨t, ht, rfl, HR, HG, HD⟩ := hrel
       obtain ⟨wo, hwo⟩ : ∃ wo, wo = wr := ⟨_, rfl⟩
       subst hwo
       have HBE : Hid (Below w.heap.size w wo) := zaa (HBW2.out.trans (HG.out.mono HWG.out))
       have bt : (t : Int) ≤ 65536 := by omega
       clear HRW HGS
       by_cases hlt : t < j
       ·have hltI : (t : Int) < (j : Int) := by omega
        obtain ⟨b, off, c, ka, kc, va, vc, rfl, hb, hci, c0, c1, c2, c3, c4, hkS, hvS⟩ := HS.out.item t hlt
        have d0 := (HBE.out.cell (p := ⟨b, off + t * 5, none⟩) hb).trans c0
        have d1 := (HBE.out.cell (p := ⟨b, off + t * 5 + 1, none⟩) hb).trans c1
        have d2 := (HBE.out.cell (p := ⟨b, off + t * 5 + 2, none⟩) hb).trans c2
        have d3 := (HBE.out.cell (p := ⟨b, off + t * 5 + 3, none⟩) hb).trans c3
        have d4 := (HBE.out.cell (p := ⟨b, off + t * 5 + 4, none⟩) hb).trans c4
        have HKS := zaa hkS
        have HVS := zaa hvS
        have HCI := zaa hci
        clear c0 c1 c2 c3 c4 hkS hvS hci
        obtain ⟨x, hx⟩ : ∃ x, wo.alloc (.cells #[.slice ka c.key.length kc, .int .i64 c.kd, .slice va c.val.length vc, .int .i64 c.pg, .int .i64 c.ct] 43) = x := ⟨_, rfl⟩
        have hbx : Below wo.heap.size wo x := by rw [← hx]; exact zac Br Lr _
        have HBX := zaa hbx
        have HR2 : Hid (zag (wo.alloc (.cells #[.slice ka c.key.length kc, .int .i64 c.kd, .slice va c.val.length vc, .int .i64 c.pg, .int .i64 c.ct] 43)) g j) := zaa (by rw [hx]; exact HR.out.on hbx)
        have HX := zaa hx
        clear hbx hx
        go_wp2_with (refine put_entry (by rfl) _ _ (by rfl) g (t * 6) j none ka va 0 0 c.key.length kc c.val.length vc c.kd c.pg c.ct HR2.out (by rfl) (by rfl) (by omega) ?_; intro u3 HU3; refine Hid.out ?_)
        apply zaa
        rw [HX.out] at HU3 HR2
        have HR3 : Hid (zag u3 g j) := zaa (by rw [HU3.out]; exact zag.sets _ _ _ HR2.out)
        have hg2 : Below g w2 x := HG.out.trans (HBX.out.mono (Nat.le_of_lt HR.out.lt))
        have HG3 : Hid (Below g w2 u3) := zaa (by
         rw [HU3.out]
         simp only [World.setCells]
         refine (((((hg2.setCell ?_ _).setCell ?_ _).setCell ?_ _).setCell ?_ _).setCell ?_ _).setCell ?_ _ <;> simp)
        have HD3 : Hid (∀ i d, i < t + 1 → cs[i]? = some d → EAt u3 g g (i * 6) d) := by
         refine zaa fun i d' hi hd' => ?_
         rw [HU3.out]
         have hbw : Below w.heap.size w x := zab HBE.out Lr HBX.out
         by_cases e : i = t
         ·subst e
          rw [HCI.out] at hd'
          injection hd' with hd'
          subst hd'
          exact EAt.new (h := []) (key := c.key) HR2.out (by omega) Lr (Sl.nil_any _ _ _ fun _ => rfl) (HKS.out.on Lr hbw) (HVS.out.on Lr hbw) (by simp) (.inl rfl) (HKS.out.lo.mono HWG.out) (HVS.out.lo.mono HWG.out)
         ·exact ((HD.out i d' (by omega) hd').on HR.out.lt HBX.out).put Lr (by omega)
        clear HU3 HR2 HR HG HD hg2 HX d0 d1 d2 d3 d4
        go_wp2
        go_roundw
        case rel => exact ⟨t + 1, by omega, by go_num, HR3, HG3, HD3⟩
        case measure => simp [intOf]; omega
       ·obtain rfl : t = j := by omega
        have hlI : ¬ (t : Int) < (t : Int) := by omega
        have hsE : SlE wo g (some ⟨g, 0, none⟩) t t cs := ⟨HLEN.out, Lr, by omega, (by intro h; cases h), .inr ⟨g, 0, rfl, HR.out.lt, fun i d hd => by
         rw [Nat.zero_add]
         have := (zH.1 hd).1
         exact HD.out i d (by rw [← HLEN.out]; exact this) hd⟩⟩
        have hfit := chk_fit HOK.out HPN.out
        have hzz := szQ_eq k (shP k cs).length cs
        have hnf := HNF.out
        have hrs := chk_rs HOK.out
        have HLD := zaa (laid_any k N g _ t t cs wo hsE (Nat.le_of_lt HR.out.lt) hrs hfit hjb (by omega))
        have HWF := zaa hsE.wf
        have HFT := zaa hfit
        have HZZ : Hid ((qbd (shP k cs).length (whl k) cs).length ≤ 1099511627776 ∧ cs.length ≤ 65536) := zaa (by rw [HLEN.out]; omega)
        clear hsE hfit hzz hnf hrs HR HG HD
        go_wp2_with (go_at_call 157; refine HLD.out.mono ?_; intro e w4 hq; obtain ⟨b4, rfl, HL4, HB4, _⟩ := hq.ld HWF.out HFT.out HZZ.out.2 HZZ.out.1; refine Hid.out ?_)
        apply zaa
        have HBW4 : Hid (Below w.heap.size w w4) := zaa (zab HBE.out Lr HB4.out)
        have HWR := zaa (written_ld HL4.out HK.out HPN.out HNF.out (HT.out.on HBW4.out h0) (zO h0 HBW4.out.size))
        clear HLD
        go_wp2_with (go_at_call 158; refine HWR.out.mono ?_; rintro e w5 ⟨g5, rfl, hg5, HBK, HB5⟩)
        go_ret2
        refine ⟨some ⟨g5, 0, none⟩, N, N, 0, rfl, zaa (zab HBW4.out Lr HB5.out), zaa ⟨HE.out, .inr ⟨rfl, g5, rfl, by simp, by simp, zN HBW4.out.size hg5, ?_⟩⟩⟩
        rw [Int.toNat_natCast]
        exact HBK.out
def fitB (e k : Int) (n : Nat) (cs : List Cl) : Bool := decide (isKd k ∧ pw n ∧ chk k n none cs = 0 ∧ szE e k cs ≤ n)
theorem zdh {e k : Int} {n : Nat} {cs : List Cl} (hk : isKd k) (hn : pw n) (hg : Gd k n cs) : fitB e k n cs = decide (szE e k cs ≤ n) := by
 unfold fitB
 have := hg.chk
 simp [hk, hn, this]
theorem encE_zero (k : Int) (n : Nat) (cs : List Cl) : (encE k n cs = 0) ↔ (fitB 1 k n cs = true) := by
 unfold encE fitB szE
 by_cases h1 : isKd k ∧ pw n
 ·rw [if_pos h1]
  by_cases h2 : chk k n none cs = 0
  ·rw [if_pos h2]
   by_cases h3 : (n : Int) < (szN cs : Int)
   ·have : ¬ szN cs ≤ n := by omega
    simp [h1, h2, h3, this]
   ·have : szN cs ≤ n := by omega
    simp [h1, h2, h3, this]
  ·rw [if_neg h2]
   simp [h2]
 ·rw [if_neg h1]
  have : ¬ (isKd k ∧ pw (n : Int) ∧ chk k n none cs = 0 ∧ (if (1 : Int) = 1 then szN cs else szQ k (shP k cs).length cs) ≤ n) := fun h => h1 ⟨h.1, h.2.1⟩
  simp only [decide_eq_true_eq]
  exact ⟨fun h => (by cases h), fun h => absurd h this⟩
theorem encQ_zero (k : Int) (n : Nat) (cs : List Cl) : (encQ k n cs = 0) ↔ (fitB 2 k n cs = true) := by
 unfold encQ fitB szE
 by_cases h1 : isKd k ∧ pw n
 ·rw [if_pos h1]
  by_cases h2 : chk k n none cs = 0
  ·rw [if_pos h2]
   by_cases h3 : (n : Int) < (szQ k (shP k cs).length cs : Int)
   ·have : ¬ szQ k (shP k cs).length cs ≤ n := by omega
    simp [h1, h2, h3, this]
   ·have : szQ k (shP k cs).length cs ≤ n := by omega
    simp [h1, h2, h3, this]
  ·rw [if_neg h2]
   simp [h2]
 ·rw [if_neg h1]
  have : ¬ (isKd k ∧ pw (n : Int) ∧ chk k n none cs = 0 ∧ (if (2 : Int) = 1 then szN cs else szQ k (shP k cs).length cs) ≤ n) := fun h => h1 ⟨h.1, h.2.1⟩
  simp only [decide_eq_true_eq]
  exact ⟨fun h => (by cases h), fun h => absurd h this⟩
theorem fits_1 (w : World) (k : Int) (n : Nat) (ao : Option Addr) (m cap : Nat) (cs : List Cl) (hs : SlC w ao m cap cs) (hz : szE 1 k cs ≤ 1099511627776) (ht : Tab w) (h0 : 1 < w.heap.size) :
  Calls Tryz.prog 61 #[.agg ly1, .int .i64 k, .slice ao m cap, .int .i64 (n : Int)] w fun e w' => e = .returned (.bool (fitB 1 k n cs)) ∧ Hid (Below w.heap.size w w') := by
 have hz' : szN cs ≤ 1099511627776 := by unfold szE at hz; simpa using hz
 have HE : Hid (∀ u, Below w.heap.size w u → Calls Tryz.prog 81 #[.int .i64 k, .slice ao m cap, .int .i64 (n : Int)] u fun e w' => ∃ bo bm bc c, e = .returned (.tuple #[.slice bo bm bc, .int .i64 c]) ∧ Hid (Below w.heap.size w w') ∧ Hid (decide (c = 0) = fitB 1 k n cs)) := zaa fun u hu => by
  refine (encode_plain k n ao m cap cs u (hs.on hu) hz' (ht.on hu h0) (zO h0 hu.size)).mono ?_
  rintro e w' ⟨bo, bm, bc, c, rfl, HB, HQ⟩
  refine ⟨bo, bm, bc, c, rfl, zaa (zab hu Lr HB.out), zaa ?_⟩
  have := encE_zero k n cs
  rw [← HQ.out.1] at this
  cases hf : fitB 1 k n cs with
  | true => exact decide_eq_true (this.2 hf)
  | false => exact decide_eq_false (fun h => by rw [this.1 h] at hf; cases hf)
 generalize fitB 1 k n cs = B at *
 clear hs hz ht h0 hz'
 go_enter Tryz.func61, Tryz.ntmps61
 go_wp2_with (go_at_call 81; refine (HE.out _ (zac Br Lr _)).mono ?_; rintro e w2 ⟨bo, bm, bc, c, rfl, HB, HQ⟩; refine Hid.out ?_)
 apply zaa
 clear HE
 cases B with
 | true =>
  have h1 : c = 0 := by simpa using HQ.out
  subst h1
  clear HQ
  go_wp2
  go_ret
  exact ⟨rfl, HB⟩
 | false =>
  have h1 : ¬ c = 0 := by simpa using HQ.out
  have h2 : (c == 0) = false := by simpa using h1
  clear HQ
  go_wp2
  go_ret
  exact ⟨rfl, HB⟩
theorem fits_2 (w : World) (k : Int) (n : Nat) (ao : Option Addr) (m cap : Nat) (cs : List Cl) (hs : SlC w ao m cap cs) (hz : szE 2 k cs ≤ 1099511627776) (ht : Tab w) (h0 : 1 < w.heap.size) :
  Calls Tryz.prog 61 #[.agg ly2, .int .i64 k, .slice ao m cap, .int .i64 (n : Int)] w fun e w' => e = .returned (.bool (fitB 2 k n cs)) ∧ Hid (Below w.heap.size w w') := by
 have hz' : szQ k (shP k cs).length cs ≤ 1099511627776 := by unfold szE at hz; simpa using hz
 have HE : Hid (∀ u, Below w.heap.size w u → Calls Tryz.prog 89 #[.int .i64 k, .slice ao m cap, .int .i64 (n : Int)] u fun e w' => ∃ bo bm bc c, e = .returned (.tuple #[.slice bo bm bc, .int .i64 c]) ∧ Hid (Below w.heap.size w w') ∧ Hid (decide (c = 0) = fitB 2 k n cs)) := zaa fun u hu => by
  refine (encodeQ_any k n ao m cap cs u (hs.on hu) hz' (ht.on hu h0) (zO h0 hu.size)).mono ?_
  rintro e w' ⟨bo, bm, bc, c, rfl, HB, HQ⟩
  refine ⟨bo, bm, bc, c, rfl, zaa (zab hu Lr HB.out), zaa ?_⟩
  have := encQ_zero k n cs
  rw [← HQ.out.1] at this
  cases hf : fitB 2 k n cs with
  | true => exact decide_eq_true (this.2 hf)
  | false => exact decide_eq_false (fun h => by rw [this.1 h] at hf; cases hf)
 generalize fitB 2 k n cs = B at *
 clear hs hz ht h0 hz'
 go_enter Tryz.func61, Tryz.ntmps61
 go_wp2_with (go_at_call 89; refine (HE.out _ (zac Br Lr _)).mono ?_; rintro e w2 ⟨bo, bm, bc, c, rfl, HB, HQ⟩; refine Hid.out ?_)
 apply zaa
 clear HE
 cases B with
 | true =>
  have h1 : c = 0 := by simpa using HQ.out
  subst h1
  clear HQ
  go_wp2
  go_ret
  exact ⟨rfl, HB⟩
 | false =>
  have h1 : ¬ c = 0 := by simpa using HQ.out
  have h2 : (c == 0) = false := by simpa using h1
  clear HQ
  go_wp2
  go_ret
  exact ⟨rfl, HB⟩
theorem nfits_1 (w : World) (k : Int) (n : Nat) (ao : Option Addr) (m cap : Nat) (cs : List Cl) (hs : SlC w ao m cap cs) (hz : szE 1 k cs ≤ 1099511627776) (ht : Tab w) (h0 : 1 < w.heap.size) :
  Calls Tryz.prog 23 #[.int .i64 1, .int .i64 k, .slice ao m cap, .int .i64 (n : Int)] w fun e w' => e = .returned (.bool (fitB 1 k n cs)) ∧ Hid (Below w.heap.size w w') := by
 have HL := zaa (layout_1 w)
 have HM : Hid (∀ u, Below w.heap.size w u → Calls Tryz.prog 61 #[.agg ly1, .int .i64 k, .slice ao m cap, .int .i64 (n : Int)] u fun e w' => e = .returned (.bool (fitB 1 k n cs)) ∧ Hid (Below w.heap.size w w')) := zaa fun u hu => (fits_1 u k n ao m cap cs (hs.on hu) hz (ht.on hu h0) (zO h0 hu.size)).mono fun e w' h => ⟨h.1, zaa (zab hu Lr h.2.out)⟩
 clear hs hz ht h0
 generalize fitB 1 k n cs = B at *
 go_enter Tryz.func23, Tryz.ntmps23
 go_wp2_with (first | (go_at_call 38; refine HL.out.mono ?_; rintro e w1 ⟨rfl, HB1⟩) | (go_at_call 61; refine (HM.out _ (zac HB1.out Lr _)).mono ?_; rintro e w2 ⟨rfl, HB2⟩))
 go_ret
 exact ⟨rfl, HB2⟩
theorem nfits_2 (w : World) (k : Int) (n : Nat) (ao : Option Addr) (m cap : Nat) (cs : List Cl) (hs : SlC w ao m cap cs) (hz : szE 2 k cs ≤ 1099511627776) (ht : Tab w) (h0 : 1 < w.heap.size) :
  Calls Tryz.prog 23 #[.int .i64 2, .int .i64 k, .slice ao m cap, .int .i64 (n : Int)] w fun e w' => e = .returned (.bool (fitB 2 k n cs)) ∧ Hid (Below w.heap.size w w') := by
 have HL := zaa (layout_2 w)
 have HM : Hid (∀ u, Below w.heap.size w u → Calls Tryz.prog 61 #[.agg ly2, .int .i64 k, .slice ao m cap, .int .i64 (n : Int)] u fun e w' => e = .returned (.bool (fitB 2 k n cs)) ∧ Hid (Below w.heap.size w w')) := zaa fun u hu => (fits_2 u k n ao m cap cs (hs.on hu) hz (ht.on hu h0) (zO h0 hu.size)).mono fun e w' h => ⟨h.1, zaa (zab hu Lr h.2.out)⟩
 clear hs hz ht h0
 generalize fitB 2 k n cs = B at *
 go_enter Tryz.func23, Tryz.ntmps23
 go_wp2_with (first | (go_at_call 38; refine HL.out.mono ?_; rintro e w1 ⟨rfl, HB1⟩) | (go_at_call 61; refine (HM.out _ (zac HB1.out Lr _)).mono ?_; rintro e w2 ⟨rfl, HB2⟩))
 go_ret
 exact ⟨rfl, HB2⟩
theorem SlC.take9 {w : World} {ao : Option Addr} {m cap : Nat} {cs : List Cl} (h : SlC w ao m cap cs) {i : Nat} (hi : i ≤ m) : SlC w ao i cap (cs.take i) := by
 have h1 := h.hlen
 have h2 := h.hcap
 have h3 := h.hroom
 refine ⟨by rw [zJ]; omega, by omega, by omega, h.hnil, ?_⟩
 rcases h.hat with h0 | ⟨b, off, e, hb, hc⟩
 ·exact .inl (by omega)
 ·refine .inr ⟨b, off, e, hb, fun j c hj => ?_⟩
  have hjl := (zH.1 hj).1
  rw [zJ] at hjl
  exact hc j c (by rwa [List.getElem?_take_of_lt (by omega)] at hj)
theorem SlC.drop9 {w : World} {b off m cap : Nat} {cs : List Cl} (h : SlC w (some ⟨b, off, none⟩) m cap cs) {i : Nat} (hi : i ≤ m) : SlC w (some ⟨b, off + i * 5, none⟩) (m - i) (cap - i) (cs.drop i) := by
 have h1 := h.hlen
 have h2 := h.hcap
 have h3 := h.hroom
 refine ⟨by rw [zK]; omega, by omega, by omega, (fun e => by cases e), ?_⟩
 rcases h.hat with h0 | ⟨b', off', e, hb, hc⟩
 ·exact .inl (by omega)
 ·injection e with e
  injection e with e1 e2
  subst e1 e2
  refine .inr ⟨b, off + i * 5, rfl, hb, fun j c hj => ?_⟩
  rw [List.getElem?_drop] at hj
  have := hc _ c hj
  rwa [show off + (i + j) * 5 = off + i * 5 + j * 5 by omega] at this
theorem qbd_big9 (m : Nat) : ∀ (f : Bool) (cs : List Cl), (∀ c ∈ cs, c.fit) → (qbd m f cs).length ≤ 131103 * cs.length
 | _, [], _ => by simp [qbd]
 | f, c :: r, h => by
  have ih := qbd_big9 m false r fun d hd => h d (by simp [hd])
  simp only [qbd, zG, List.length_cons]
  generalize (if f = true then 0 else m) = q
  have h1 := qB_length q c
  have h2 := (h c (by simp)).key
  have h3 := (h c (by simp)).val
  have h4 := (zas ((c.key.length - q : Nat) : Int)).1
  have h5 := (zas ((c.val.length : Nat) : Int)).1
  have h6 := (zas (c.pg % 18446744073709551616)).1
  have h7 := (zas (c.ct % 18446744073709551616)).1
  unfold qtk tL at h1
  split at h1 <;> omega
theorem szQ_big9 (k : Int) (cs : List Cl) (hf : ∀ c ∈ cs, c.fit) (hl : cs.length ≤ 65536) : szQ k (shP k cs).length cs ≤ 1099511627776 := by
 have h1 := szQ_eq k (shP k cs).length cs
 have h2 := qbd_big9 (shP k cs).length (whl k) cs hf
 have h3 : (shP k cs).length ≤ 65536 := by
  cases hk : ktl k cs with
  | nil => rw [shP_nil hk]; simp
  | cons c r =>
   have hm : c ∈ ktl k cs := by rw [hk]; simp
   have h4 := beg_len (zbz k cs c hm)
   have h5 := (hf c (ktl_mem hm)).key
   omega
 omega
theorem zbq {e k : Int} {cs : List Cl} (hf : ∀ c ∈ cs, c.fit) (hl : cs.length ≤ 65536) : szE e k cs ≤ 1099511627776 := by
 unfold szE
 split
 ·have : (cs.map ctk).sum ≤ cs.length * 200000 := by
   clear hl
   induction cs with
   | nil => simp
   | cons c r ih =>
    have h1 := (hf c (by simp)).key
    have h2 := (hf c (by simp)).val
    have h3 := ih fun d hd => hf d (by simp [hd])
    have : ctk c ≤ 200000 := by unfold ctk; split <;> omega
    simp only [List.map_cons, List.sum_cons, List.length_cons]
    omega
  unfold szN
  omega
 ·exact szQ_big9 k cs hf hl
structure Bx (w : World) (k : Int) (n : Nat) (b off m cap : Nat) (cs : List Cl) (bk bc bp : Nat) : Prop where
 ck : w.cell? ⟨bk, 0, none⟩ = some (.int .i64 k)
 cc : w.cell? ⟨bc, 0, none⟩ = some (.slice (some ⟨b, off, none⟩) m cap)
 cp : w.cell? ⟨bp, 0, none⟩ = some (.int .i64 (n : Int))
 hk : bk < w.heap.size
 hc : bc < w.heap.size
 hp : bp < w.heap.size
 sl : SlC w (some ⟨b, off, none⟩) m cap cs
 lm : m ≤ 65536
 tb : Tab w
 h0 : 1 < w.heap.size
theorem Bx.go {w v : World} {k : Int} {n b off m cap : Nat} {cs : List Cl} {bk bc bp : Nat} (h : Bx w k n b off m cap cs bk bc bp) (hb : Below w.heap.size w v) : Bx v k n b off m cap cs bk bc bp :=
 ⟨(hb.cell (p := ⟨bk, 0, none⟩) h.hk).trans h.ck, (hb.cell (p := ⟨bc, 0, none⟩) h.hc).trans h.cc, (hb.cell (p := ⟨bp, 0, none⟩) h.hp).trans h.cp, zO h.hk hb.size, zO h.hc hb.size, zO h.hp hb.size, h.sl.on hb, h.lm, h.tb.on hb h.h0, zO h.h0 hb.size⟩
structure Ly (w : World) (f0 f1 f2 f3 f4 : Value) (bk bc bl bf br : Nat) : Prop where
 c0 : w.cell? ⟨bl, 0, none⟩ = some f0
 c1 : w.cell? ⟨bl, 1, none⟩ = some f1
 c2 : w.cell? ⟨bl, 2, none⟩ = some f2
 c3 : w.cell? ⟨bl, 3, none⟩ = some f3
 c4 : w.cell? ⟨bl, 4, none⟩ = some f4
 cf : w.cell? ⟨bf, 0, none⟩ = some (.func (.func 64) #[] #[.pointer (some ⟨bc, 0, none⟩)])
 cr : w.cell? ⟨br, 0, none⟩ = some (.func (.func 65) #[] #[.pointer (some ⟨bk, 0, none⟩), .pointer (some ⟨bc, 0, none⟩)])
 hl : bl < w.heap.size
 hf : bf < w.heap.size
 hr : br < w.heap.size
theorem Ly.go {w v : World} {f0 f1 f2 f3 f4 : Value} {bk bc bl bf br : Nat} (h : Ly w f0 f1 f2 f3 f4 bk bc bl bf br) (hb : Below w.heap.size w v) : Ly v f0 f1 f2 f3 f4 bk bc bl bf br :=
 ⟨(hb.cell (p := ⟨bl, 0, none⟩) h.hl).trans h.c0, (hb.cell (p := ⟨bl, 1, none⟩) h.hl).trans h.c1, (hb.cell (p := ⟨bl, 2, none⟩) h.hl).trans h.c2, (hb.cell (p := ⟨bl, 3, none⟩) h.hl).trans h.c3, (hb.cell (p := ⟨bl, 4, none⟩) h.hl).trans h.c4, (hb.cell (p := ⟨bf, 0, none⟩) h.hf).trans h.cf, (hb.cell (p := ⟨br, 0, none⟩) h.hr).trans h.cr, zO h.hl hb.size, zO h.hf hb.size, zO h.hr hb.size⟩
def S8h (bl b1 b2 b3 : Nat) (f0 f1 f2 f3 f4 v1 v2 v3 : Value) (u : World) : Prop :=
 u.cell? ⟨bl, 0, none⟩ = some f0 ∧ u.cell? ⟨bl, 1, none⟩ = some f1 ∧ u.cell? ⟨bl, 2, none⟩ = some f2 ∧ u.cell? ⟨bl, 3, none⟩ = some f3 ∧ u.cell? ⟨bl, 4, none⟩ = some f4 ∧ u.cell? ⟨b1, 0, none⟩ = some v1 ∧ u.cell? ⟨b2, 0, none⟩ = some v2 ∧ u.cell? ⟨b3, 0, none⟩ = some v3
def S4h (b0 b1 b2 b3 : Nat) (v0 v1 v2 v3 : Value) (u : World) : Prop :=
 u.cell? ⟨b0, 0, none⟩ = some v0 ∧ u.cell? ⟨b1, 0, none⟩ = some v1 ∧ u.cell? ⟨b2, 0, none⟩ = some v2 ∧ u.cell? ⟨b3, 0, none⟩ = some v3
def S1h (b0 : Nat) (v0 : Value) (u : World) : Prop := u.cell? ⟨b0, 0, none⟩ = some v0 ∧ True
theorem half1_any (w : World) (k : Int) (n b off m cap : Nat) (cs : List Cl) (bk bc bp : Nat) (h : Bx w k n b off m cap cs bk bc bp) (i : Nat) (hi : i ≤ m) :
  Calls Tryz.prog 64 #[.int .i64 (i : Int), .pointer (some ⟨bc, 0, none⟩)] w fun e w' => e = .returned (.slice (some ⟨b, off, none⟩) i cap) ∧ w' = w := by
 have c1 := h.cc
 have h1 := h.sl.hcap
 have h2 := h.lm
 have h3 : (i : Int) ≤ 65536 := by omega
 have h4 : i ≤ cap := by omega
 have h5 : (i : Int) ≤ (cap : Int) := by omega
 clear h
 go_enter Tryz.func64, Tryz.ntmps64
 go_wp2
 go_ret
 exact ⟨rfl, rfl⟩
theorem half2_any (w : World) (k : Int) (n b off m cap : Nat) (cs : List Cl) (bk bc bp : Nat) (h : Bx w k n b off m cap cs bk bc bp) (i : Nat) (hi : i < m) :
  Calls Tryz.prog 65 #[.int .i64 (i : Int), .pointer (some ⟨bk, 0, none⟩), .pointer (some ⟨bc, 0, none⟩)] w fun e w' => ∃ g o c, e = .returned (.slice (some ⟨g, o, none⟩) (m - i) c) ∧ Hid (SlC w' (some ⟨g, o, none⟩) (m - i) c (rtL k cs i)) ∧ Hid (Below w.heap.size w w') := by
 have c0 := h.ck
 have c1 := h.cc
 have h1 := h.sl.hcap
 have h2 := h.lm
 have h3 : (i : Int) ≤ 65536 := by omega
 have h4 : i ≤ m := by omega
 have h5 : (i : Int) ≤ (m : Int) := by omega
 have h6 : m ≤ cap := h1
 have h7 : ¬ cap = i := by omega
 have h8 : i < cap := by omega
 have h9 : (m : Int) ≤ 65536 := by omega
 have HC : Hid (∀ u, Below w.heap.size w u → Calls Tryz.prog 66 #[.int .i64 k, .slice (some ⟨b, off + i * 5, none⟩) (m - i) (cap - i)] u fun e w' => ∃ g o c, e = .returned (.slice (some ⟨g, o, none⟩) (m - i) c) ∧ Hid (SlC w' (some ⟨g, o, none⟩) (m - i) c (rsd k (cs.drop i))) ∧ Hid (Below w.heap.size w w')) := zaa fun u hu => (rside_any u k b (off + i * 5) (m - i) (cap - i) (cs.drop i) ((h.sl.drop9 h4).on hu) (by omega) (by omega)).mono fun e w' hq => by
  obtain ⟨g, o, c, rfl, HS, HB⟩ := hq
  exact ⟨g, o, c, rfl, HS, zaa (zab hu Lr HB.out)⟩
 obtain ⟨M, hM⟩ : ∃ M, m - i = M := ⟨_, rfl⟩
 rw [hM] at HC
 obtain ⟨C, hC⟩ : ∃ C, cap - i = C := ⟨_, rfl⟩
 rw [hC] at HC
 rw [hM]
 clear h h1
 go_enter Tryz.func65, Tryz.ntmps65
 go_wp2_with fail
 go_region_with (first | (go_at_call 66; refine (HC.out _ (by first | exact Br | exact Br.drew | exact zad Br _)).mono ?_; rintro e w2 ⟨g, o, c, rfl, HS, HB⟩))
 all_goals
  try go_wp2_with fail
  go_ret
  exact ⟨g, o, c, rfl, by first | exact HS | exact zaa (HS.out.on (zad Br _)) | exact zaa (HS.out.on Br.drew), by first | exact HB | exact zaa (zad HB.out _) | exact zaa HB.out.drew⟩
/-! The third question. -/
theorem half6_any (w : World) (bg : Nat) (G : Nat → Nat) (p1 p2 p3 p4 i j : Nat) (hij : i + 1 = j) (hi : j ≤ 65536) (hg : ∀ t, t ≤ 65536 → G t ≤ 1099511627776)
  (hcl : w.cell? ⟨bg, 0, none⟩ = some (.func (.func 70) #[] #[.pointer (some ⟨p1, 0, none⟩), .pointer (some ⟨p2, 0, none⟩), .pointer (some ⟨p3, 0, none⟩), .pointer (some ⟨p4, 0, none⟩)])) (hlt : bg < w.heap.size)
  (hF : ∀ u (t : Nat), Below w.heap.size w u → (t = i ∨ t = j) → Calls Tryz.prog 70 #[.int .i64 (t : Int), .pointer (some ⟨p1, 0, none⟩), .pointer (some ⟨p2, 0, none⟩), .pointer (some ⟨p3, 0, none⟩), .pointer (some ⟨p4, 0, none⟩)] u fun e w' => e = .returned (.int .i64 (G t : Int)) ∧ Hid (Below u.heap.size u w')) :
  Calls Tryz.prog 71 #[.int .i64 (i : Int), .pointer (some ⟨bg, 0, none⟩)] w fun e w' => e = .returned (.bool (decide (G i ≤ G j))) ∧ Hid (Below w.heap.size w w') := by
 have HI : Hid (∀ u, Below w.heap.size w u → Calls Tryz.prog 70 #[.int .i64 (i : Int), .pointer (some ⟨p1, 0, none⟩), .pointer (some ⟨p2, 0, none⟩), .pointer (some ⟨p3, 0, none⟩), .pointer (some ⟨p4, 0, none⟩)] u fun e w' => e = .returned (.int .i64 (G i : Int)) ∧ w'.cell? ⟨bg, 0, none⟩ = some (.func (.func 70) #[] #[.pointer (some ⟨p1, 0, none⟩), .pointer (some ⟨p2, 0, none⟩), .pointer (some ⟨p3, 0, none⟩), .pointer (some ⟨p4, 0, none⟩)]) ∧ Hid (Below w.heap.size w w')) := zaa fun u hu => by
  refine (hF u i hu (.inl rfl)).mono ?_
  rintro e w' ⟨rfl, HB⟩
  have hb := zab hu Lr HB.out
  exact ⟨rfl, (hb.cell (p := ⟨bg, 0, none⟩) hlt).trans hcl, zaa hb⟩
 have HJ : Hid (∀ u, Below w.heap.size w u → Calls Tryz.prog 70 #[.int .i64 (j : Int), .pointer (some ⟨p1, 0, none⟩), .pointer (some ⟨p2, 0, none⟩), .pointer (some ⟨p3, 0, none⟩), .pointer (some ⟨p4, 0, none⟩)] u fun e w' => e = .returned (.int .i64 (G j : Int)) ∧ Hid (Below w.heap.size w w')) := zaa fun u hu => (hF u j hu (.inr rfl)).mono fun e w' h => ⟨h.1, zaa (zab hu Lr h.2.out)⟩
 have hjI : (i : Int) + 1 = (j : Int) := by omega
 have hjb : (j : Int) ≤ 65536 := by omega
 have hib : (i : Int) ≤ 65536 := by omega
 have g1 := hg i (by omega)
 have g2 := hg j (by omega)
 generalize G i = A at *
 generalize G j = B at *
 have a1 : (A : Int) ≤ 1099511627776 := by omega
 have a2 : (B : Int) ≤ 1099511627776 := by omega
 have hwr : IntKind.i64.wrap ((i : Int) + 1) = (i : Int) + 1 := by rw [IntKind.wrap_i64]; omega
 have HSF : Hid (∀ u, Below w.heap.size w u → S1h bg (.func (.func 70) #[] #[.pointer (some ⟨p1, 0, none⟩), .pointer (some ⟨p2, 0, none⟩), .pointer (some ⟨p3, 0, none⟩), .pointer (some ⟨p4, 0, none⟩)]) u) := zaa fun u hu => ⟨(hu.cell (p := ⟨bg, 0, none⟩) hlt).trans hcl, trivial⟩
 rw [← hjI] at HJ
 clear hF hij hg hjI hcl hlt
 go_enter Tryz.func71, Tryz.ntmps71
 go_upto_region 1 with fail
 refine wp_region_held_drew (S := S1h bg (.func (.func 70) #[] #[.pointer (some ⟨p1, 0, none⟩), .pointer (some ⟨p2, 0, none⟩), .pointer (some ⟨p3, 0, none⟩), .pointer (some ⟨p4, 0, none⟩)])) (by kernel_rfl) (HSF.out _ Br.drew) (fun hHeld => ?_)
 refine zT (i := 0) (v := ?_) rfl ?_ (fun _ _ _ h => h) ?_
 rotate_left
 ·(rintro w ⟨q0, _⟩; go_simp; try with_reducible rfl)
 try simp only [Act.put, zA, zC, zD, zE, zF]
 refine zT (i := 1) (v := ?_) rfl ?_ (fun _ _ _ h => h) ?_
 rotate_left
 ·(rintro w ⟨q0, _⟩; go_simp; try with_reducible rfl)
 try simp only [Act.put, zA, zB, zC, zD, zE, zF]
 refine zT (i := 3) (v := ?_) rfl ?_ (fun _ _ _ h => h) ?_
 rotate_left
 ·(rintro w ⟨q0, _⟩; go_simp; try with_reducible rfl)
 try simp only [Act.put, zA, zB, zC, zD, zE, zF]
 refine zT (i := 4) (v := ?_) rfl ?_ (fun _ _ _ h => h) ?_
 rotate_left
 ·(rintro w ⟨q0, _⟩; go_simp; try with_reducible rfl)
 try simp only [Act.put, zA, zB, zC, zD, zE, zF]
 refine zT (i := 5) (v := ?_) rfl ?_ (fun _ _ _ h => h) ?_
 rotate_left
 ·(rintro w ⟨q0, _⟩; go_simp; try with_reducible rfl)
 try simp only [Act.put, zA, zB, zC, zD, zE, zF]
 refine zY (i := 2) rfl fun K hK => ?_
 go_simp
 go_at_call 70
 refine (HI.out _ Br.drew).mono ?_
 rintro e w1 ⟨rfl, _, HB1⟩
 dsimp only
 refine hK.out _ _ (HSF.out _ HB1.out) (fun hHeld => ?_)
 clear hK K
 try simp only [Act.put, zA, zB, zC, zD, zE, zF]
 refine zY (i := 6) rfl fun K hK => ?_
 go_simp
 go_at_call 70
 refine (HJ.out _ HB1.out).mono ?_
 rintro e w2 ⟨rfl, HB2⟩
 dsimp only
 refine hK.out _ _ (HSF.out _ HB2.out) (fun hHeld => ?_)
 clear hK K
 try simp only [Act.put, zA, zB, zC, zD, zE, zF]
 refine zT (i := 7) (v := ?_) rfl ?_ (fun _ _ _ h => h) ?_
 rotate_left
 ·(rintro w ⟨q0, _⟩; go_simp; try with_reducible rfl)
 try simp only [Act.put, zA, zB, zC, zD, zE, zF]
 refine zT (i := 8) (v := ?_) rfl ?_ (fun _ _ _ h => h) ?_
 rotate_left
 ·(rintro w ⟨q0, _⟩; go_simp; try with_reducible rfl)
 try simp only [Act.put, zA, zB, zC, zD, zE, zF]
 refine wpAnyH_done (by kernel_rfl) ?_ _
 clear hHeld
 go_wp2
 go_ret
 exact ⟨rfl, HB2⟩
/-! Engine 1. -/
theorem half3_1 (w : World) (k : Int) (n b off m cap : Nat) (cs : List Cl) (hft : ∀ c ∈ cs, c.fit) (bk bc bp bl bf br : Nat) (h : Bx w k n b off m cap cs bk bc bp) (hl : Ly w (fV 80) (fV 81) (fV 82) (fV 83) (fV 86) bk bc bl bf br) (i : Nat) (hi : i < m) :
  Calls Tryz.prog 68 #[.int .i64 (i : Int), .pointer (some ⟨bl, 0, none⟩), .pointer (some ⟨bk, 0, none⟩), .pointer (some ⟨br, 0, none⟩), .pointer (some ⟨bp, 0, none⟩)] w fun e w' => e = .returned (.bool (fitB 1 k n (rtL k cs i))) ∧ Hid (Below w.heap.size w w') := by
 have HBX := zaa h
 have HLY := zaa hl
 have HR : Hid (∀ u, Below w.heap.size w u → Calls Tryz.prog 65 #[.int .i64 (i : Int), .pointer (some ⟨bk, 0, none⟩), .pointer (some ⟨bc, 0, none⟩)] u fun e w' => ∃ g o c, e = .returned (.slice (some ⟨g, o, none⟩) (m - i) c) ∧ (w'.cell? ⟨bl, 0, none⟩ = some (fV 80) ∧ w'.cell? ⟨bl, 1, none⟩ = some (fV 81) ∧ w'.cell? ⟨bl, 2, none⟩ = some (fV 82) ∧ w'.cell? ⟨bl, 3, none⟩ = some (fV 83) ∧ w'.cell? ⟨bl, 4, none⟩ = some (fV 86) ∧ w'.cell? ⟨bk, 0, none⟩ = some (.int .i64 k) ∧ w'.cell? ⟨bp, 0, none⟩ = some (.int .i64 (n : Int))) ∧ Hid (SlC w' (some ⟨g, o, none⟩) (m - i) c (rtL k cs i)) ∧ Hid (Below w.heap.size w w')) := zaa fun u hu => by
  refine (half2_any u k n b off m cap cs bk bc bp (HBX.out.go hu) i hi).mono ?_
  rintro e w' ⟨g, o, c, rfl, HS, HB⟩
  have hb := zab hu Lr HB.out
  have h1 := HBX.out.go hb
  have h2 := HLY.out.go hb
  exact ⟨g, o, c, rfl, ⟨h2.c0, h2.c1, h2.c2, h2.c3, h2.c4, h1.ck, h1.cp⟩, HS, zaa hb⟩
 have HF : Hid (∀ u g o c, SlC u (some ⟨g, o, none⟩) (m - i) c (rtL k cs i) → Below w.heap.size w u → Calls Tryz.prog 61 #[.agg ly1, .int .i64 k, .slice (some ⟨g, o, none⟩) (m - i) c, .int .i64 (n : Int)] u fun e w' => e = .returned (.bool (fitB 1 k n (rtL k cs i))) ∧ Hid (Below w.heap.size w w')) := zaa fun u g o c hs hu =>
  (fits_1 u k n _ _ _ _ hs (zN (zbn 1 k cs i) (zbq hft (by rw [h.sl.hlen]; exact h.lm))) (h.go hu).tb (h.go hu).h0).mono fun e w' h => ⟨h.1, zaa (zab hu Lr h.2.out)⟩
 have hmb : (i : Int) ≤ 65536 := by have := h.lm; omega
 have HSF : Hid (∀ u, Below w.heap.size w u → S8h bl bk br bp (fV 80) (fV 81) (fV 82) (fV 83) (fV 86) (.int .i64 k) (.func (.func 65) #[] #[.pointer (some ⟨bk, 0, none⟩), .pointer (some ⟨bc, 0, none⟩)]) (.int .i64 (n : Int)) u) := zaa fun u hu => ⟨(HLY.out.go hu).c0, (HLY.out.go hu).c1, (HLY.out.go hu).c2, (HLY.out.go hu).c3, (HLY.out.go hu).c4, (HBX.out.go hu).ck, (HLY.out.go hu).cr, (HBX.out.go hu).cp⟩
 generalize fitB 1 k n (rtL k cs i) = B at *
 obtain ⟨M, hM⟩ : ∃ M, m - i = M := ⟨_, rfl⟩
 rw [hM] at HR HF
 clear h hl hi hM hft
 go_enter Tryz.func68, Tryz.ntmps68
 go_upto_region 1 with fail
 refine wp_region_held_drew (S := S8h bl bk br bp (fV 80) (fV 81) (fV 82) (fV 83) (fV 86) (.int .i64 k) (.func (.func 65) #[] #[.pointer (some ⟨bk, 0, none⟩), .pointer (some ⟨bc, 0, none⟩)]) (.int .i64 (n : Int))) (by kernel_rfl) (HSF.out _ Br.drew) (fun hHeld => ?_)
 refine zT (i := 0) (v := ?_) rfl ?_ (fun _ _ _ h => h) ?_
 rotate_left
 ·(rintro w ⟨q0, q1, q2, q3, q4, q5, q6, q7⟩; go_simp; try with_reducible rfl)
 try simp only [Act.put, zA, zC, zD, zE, zF]
 refine zT (i := 1) (v := ?_) rfl ?_ (fun _ _ _ h => h) ?_
 rotate_left
 ·(rintro w ⟨q0, q1, q2, q3, q4, q5, q6, q7⟩; go_simp; try with_reducible rfl)
 try simp only [Act.put, zA, zB, zC, zD, zE, zF]
 refine zT (i := 2) (v := ?_) rfl ?_ (fun _ _ _ h => h) ?_
 rotate_left
 ·(rintro w ⟨q0, q1, q2, q3, q4, q5, q6, q7⟩; go_simp; try with_reducible rfl)
 try simp only [Act.put, zA, zB, zC, zD, zE, zF]
 refine zT (i := 3) (v := ?_) rfl ?_ (fun _ _ _ h => h) ?_
 rotate_left
 ·(rintro w ⟨q0, q1, q2, q3, q4, q5, q6, q7⟩; go_simp; try with_reducible rfl)
 try simp only [Act.put, zA, zB, zC, zD, zE, zF]
 refine zT (i := 5) (v := ?_) rfl ?_ (fun _ _ _ h => h) ?_
 rotate_left
 ·(rintro w ⟨q0, q1, q2, q3, q4, q5, q6, q7⟩; go_simp; try with_reducible rfl)
 try simp only [Act.put, zA, zB, zC, zD, zE, zF]
 refine zY (i := 4) rfl fun K hK => ?_
 go_simp
 go_at_call 65
 refine (HR.out _ Br.drew).mono ?_
 rintro e w2 ⟨g, o, c, rfl, _, HS2, HB2⟩
 dsimp only
 refine hK.out _ _ (HSF.out _ HB2.out) (fun hHeld => ?_)
 clear hK K
 try simp only [Act.put, zA, zB, zC, zD, zE, zF]
 refine zY (i := 6) rfl fun K hK => ?_
 go_simp
 go_at_call 61
 refine (HF.out _ _ _ _ HS2.out HB2.out).mono ?_
 rintro e w3 ⟨rfl, HB3⟩
 dsimp only
 refine hK.out _ _ (HSF.out _ HB3.out) (fun hHeld => ?_)
 clear hK K
 try simp only [Act.put, zA, zB, zC, zD, zE, zF]
 refine zT (i := 7) (v := ?_) rfl ?_ (fun _ _ _ h => h) ?_
 rotate_left
 ·(rintro w ⟨q0, q1, q2, q3, q4, q5, q6, q7⟩; go_simp; try with_reducible rfl)
 try simp only [Act.put, zA, zB, zC, zD, zE, zF]
 refine wpAnyH_done (by kernel_rfl) ?_ _
 clear hHeld
 go_wp2
 go_ret
 exact ⟨rfl, HB3⟩
theorem half4_1 (w : World) (k : Int) (n b off m cap : Nat) (cs : List Cl) (hft : ∀ c ∈ cs, c.fit) (bk bc bp bl bf br : Nat) (h : Bx w k n b off m cap cs bk bc bp) (hl : Ly w (fV 80) (fV 81) (fV 82) (fV 83) (fV 86) bk bc bl bf br) (i : Nat) (hi : i ≤ m) :
  Calls Tryz.prog 69 #[.int .i64 (i : Int), .pointer (some ⟨bl, 0, none⟩), .pointer (some ⟨bk, 0, none⟩), .pointer (some ⟨bf, 0, none⟩), .pointer (some ⟨bp, 0, none⟩)] w fun e w' => e = .returned (.bool (!fitB 1 k n (cs.take i))) ∧ Hid (Below w.heap.size w w') := by
 have HBX := zaa h
 have HLY := zaa hl
 have HR : Hid (∀ u, Below w.heap.size w u → Calls Tryz.prog 64 #[.int .i64 (i : Int), .pointer (some ⟨bc, 0, none⟩)] u fun e w' => e = .returned (.slice (some ⟨b, off, none⟩) i cap) ∧ w' = u) := zaa fun u hu => half1_any u k n b off m cap cs bk bc bp (HBX.out.go hu) i hi
 have HF : Hid (∀ u, Below w.heap.size w u → Calls Tryz.prog 61 #[.agg ly1, .int .i64 k, .slice (some ⟨b, off, none⟩) i cap, .int .i64 (n : Int)] u fun e w' => e = .returned (.bool (fitB 1 k n (cs.take i))) ∧ Hid (Below w.heap.size w w')) := zaa fun u hu =>
  (fits_1 u k n _ _ _ _ ((h.sl.take9 hi).on hu) (zN (zbm 1 k cs i) (zbq hft (by rw [h.sl.hlen]; exact h.lm))) (h.go hu).tb (h.go hu).h0).mono fun e w' h => ⟨h.1, zaa (zab hu Lr h.2.out)⟩
 have hmb : (i : Int) ≤ 65536 := by have := h.lm; omega
 have HSF : Hid (∀ u, Below w.heap.size w u → S8h bl bk bf bp (fV 80) (fV 81) (fV 82) (fV 83) (fV 86) (.int .i64 k) (.func (.func 64) #[] #[.pointer (some ⟨bc, 0, none⟩)]) (.int .i64 (n : Int)) u) := zaa fun u hu => ⟨(HLY.out.go hu).c0, (HLY.out.go hu).c1, (HLY.out.go hu).c2, (HLY.out.go hu).c3, (HLY.out.go hu).c4, (HBX.out.go hu).ck, (HLY.out.go hu).cf, (HBX.out.go hu).cp⟩
 generalize fitB 1 k n (cs.take i) = B at *
 clear h hl hi hft
 go_enter Tryz.func69, Tryz.ntmps69
 go_upto_region 1 with fail
 refine wp_region_held_drew (S := S8h bl bk bf bp (fV 80) (fV 81) (fV 82) (fV 83) (fV 86) (.int .i64 k) (.func (.func 64) #[] #[.pointer (some ⟨bc, 0, none⟩)]) (.int .i64 (n : Int))) (by kernel_rfl) (HSF.out _ Br.drew) (fun hHeld => ?_)
 refine zT (i := 0) (v := ?_) rfl ?_ (fun _ _ _ h => h) ?_
 rotate_left
 ·(rintro w ⟨q0, q1, q2, q3, q4, q5, q6, q7⟩; go_simp; try with_reducible rfl)
 try simp only [Act.put, zA, zC, zD, zE, zF]
 refine zT (i := 1) (v := ?_) rfl ?_ (fun _ _ _ h => h) ?_
 rotate_left
 ·(rintro w ⟨q0, q1, q2, q3, q4, q5, q6, q7⟩; go_simp; try with_reducible rfl)
 try simp only [Act.put, zA, zB, zC, zD, zE, zF]
 refine zT (i := 2) (v := ?_) rfl ?_ (fun _ _ _ h => h) ?_
 rotate_left
 ·(rintro w ⟨q0, q1, q2, q3, q4, q5, q6, q7⟩; go_simp; try with_reducible rfl)
 try simp only [Act.put, zA, zB, zC, zD, zE, zF]
 refine zT (i := 3) (v := ?_) rfl ?_ (fun _ _ _ h => h) ?_
 rotate_left
 ·(rintro w ⟨q0, q1, q2, q3, q4, q5, q6, q7⟩; go_simp; try with_reducible rfl)
 try simp only [Act.put, zA, zB, zC, zD, zE, zF]
 refine zT (i := 5) (v := ?_) rfl ?_ (fun _ _ _ h => h) ?_
 rotate_left
 ·(rintro w ⟨q0, q1, q2, q3, q4, q5, q6, q7⟩; go_simp; try with_reducible rfl)
 try simp only [Act.put, zA, zB, zC, zD, zE, zF]
 refine zY (i := 4) rfl fun K hK => ?_
 go_simp
 go_at_call 64
 refine (HR.out _ Br.drew).mono ?_
 rintro e w2 ⟨rfl, hw2⟩
 subst hw2
 dsimp only
 refine hK.out _ _ (HSF.out _ Br.drew) (fun hHeld => ?_)
 clear hK K
 try simp only [Act.put, zA, zB, zC, zD, zE, zF]
 refine zY (i := 6) rfl fun K hK => ?_
 go_simp
 go_at_call 61
 refine (HF.out _ Br.drew).mono ?_
 rintro e w3 ⟨rfl, HB3⟩
 dsimp only
 refine hK.out _ _ (HSF.out _ HB3.out) (fun hHeld => ?_)
 clear hK K
 try simp only [Act.put, zA, zB, zC, zD, zE, zF]
 refine zT (i := 7) (v := ?_) rfl ?_ (fun _ _ _ h => h) ?_
 rotate_left
 ·(rintro w ⟨q0, q1, q2, q3, q4, q5, q6, q7⟩; go_simp; try with_reducible rfl)
 try simp only [Act.put, zA, zB, zC, zD, zE, zF]
 refine zT (i := 8) (v := ?_) rfl ?_ (fun _ _ _ h => h) ?_
 rotate_left
 ·(rintro w ⟨q0, q1, q2, q3, q4, q5, q6, q7⟩; go_simp; try with_reducible rfl)
 try simp only [Act.put, zA, zB, zC, zD, zE, zF]
 refine wpAnyH_done (by kernel_rfl) ?_ _
 clear hHeld
 go_wp2
 go_ret
 exact ⟨rfl, HB3⟩
/-! What both sides take at most, by engine 1. -/
theorem half5_1 (w : World) (k : Int) (n b off m cap : Nat) (cs : List Cl) (hft : ∀ c ∈ cs, c.fit) (bk bc bp bl bf br : Nat) (h : Bx w k n b off m cap cs bk bc bp) (hl : Ly w (fV 80) (fV 81) (fV 82) (fV 83) (fV 86) bk bc bl bf br) (i : Nat) (hi : i < m) :
  Calls Tryz.prog 70 #[.int .i64 (i : Int), .pointer (some ⟨bl, 0, none⟩), .pointer (some ⟨bk, 0, none⟩), .pointer (some ⟨bf, 0, none⟩), .pointer (some ⟨br, 0, none⟩)] w fun e w' => e = .returned (.int .i64 ((max (szE 1 k (cs.take i)) (szE 1 k (rtL k cs i)) : Nat) : Int)) ∧ Hid (Below w.heap.size w w') := by
 have HBX := zaa h
 have HLY := zaa hl
 have hbig := zbq (e := 1) (k := k) hft (by rw [h.sl.hlen]; exact h.lm)
 have HL : Hid (∀ u, Below w.heap.size w u → Calls Tryz.prog 64 #[.int .i64 (i : Int), .pointer (some ⟨bc, 0, none⟩)] u fun e w' => e = .returned (.slice (some ⟨b, off, none⟩) i cap) ∧ w' = u) := zaa fun u hu => half1_any u k n b off m cap cs bk bc bp (HBX.out.go hu) i (Nat.le_of_lt hi)
 have HKP : Hid (∀ u, Below w.heap.size w u → u.cell? ⟨bl, 0, none⟩ = some (fV 80) ∧ u.cell? ⟨bk, 0, none⟩ = some (.int .i64 k) ∧ u.cell? ⟨bf, 0, none⟩ = some (.func (.func 64) #[] #[.pointer (some ⟨bc, 0, none⟩)]) ∧ u.cell? ⟨br, 0, none⟩ = some (.func (.func 65) #[] #[.pointer (some ⟨bk, 0, none⟩), .pointer (some ⟨bc, 0, none⟩)])) := zaa fun u hu => ⟨(HLY.out.go hu).c0, (HBX.out.go hu).ck, (HLY.out.go hu).cf, (HLY.out.go hu).cr⟩
 obtain ⟨A, hA⟩ : ∃ A, szE 1 k (cs.take i) = A := ⟨_, rfl⟩
 obtain ⟨B, hB⟩ : ∃ B, szE 1 k (rtL k cs i) = B := ⟨_, rfl⟩
 have hAb : A ≤ 1099511627776 := by rw [← hA]; exact zN (zbm 1 k cs i) hbig
 have hBb : B ≤ 1099511627776 := by rw [← hB]; exact zN (zbn 1 k cs i) hbig
 have HR : Hid (∀ u, Below w.heap.size w u → Calls Tryz.prog 65 #[.int .i64 (i : Int), .pointer (some ⟨bk, 0, none⟩), .pointer (some ⟨bc, 0, none⟩)] u fun e w' => ∃ g o c, e = .returned (.slice (some ⟨g, o, none⟩) (m - i) c) ∧ (w'.cell? ⟨bl, 0, none⟩ = some (fV 80) ∧ w'.cell? ⟨bk, 0, none⟩ = some (.int .i64 k) ∧ w'.cell? ⟨bf, 0, none⟩ = some (.func (.func 64) #[] #[.pointer (some ⟨bc, 0, none⟩)]) ∧ w'.cell? ⟨br, 0, none⟩ = some (.func (.func 65) #[] #[.pointer (some ⟨bk, 0, none⟩), .pointer (some ⟨bc, 0, none⟩)])) ∧ Hid (SlC w' (some ⟨g, o, none⟩) (m - i) c (rtL k cs i)) ∧ Hid (Below w.heap.size w w')) := zaa fun u hu => by
  refine (half2_any u k n b off m cap cs bk bc bp (HBX.out.go hu) i hi).mono ?_
  rintro e w' ⟨g, o, c, rfl, HS, HB⟩
  have hb := zab hu Lr HB.out
  exact ⟨g, o, c, rfl, HKP.out _ hb, HS, zaa hb⟩
 have HSL : Hid (∀ u, Below w.heap.size w u → Calls Tryz.prog 80 #[.int .i64 k, .slice (some ⟨b, off, none⟩) i cap] u fun e w' => e = .returned (.int .i64 (A : Int)) ∧ (w'.cell? ⟨bl, 0, none⟩ = some (fV 80) ∧ w'.cell? ⟨bk, 0, none⟩ = some (.int .i64 k) ∧ w'.cell? ⟨bf, 0, none⟩ = some (.func (.func 64) #[] #[.pointer (some ⟨bc, 0, none⟩)]) ∧ w'.cell? ⟨br, 0, none⟩ = some (.func (.func 65) #[] #[.pointer (some ⟨bk, 0, none⟩), .pointer (some ⟨bc, 0, none⟩)])) ∧ Hid (Below w.heap.size w w')) := zaa fun u hu => by
  have hz : szE 1 k (cs.take i) ≤ 1099511627776 := by rw [hA]; exact hAb
  refine (size_any k _ _ _ _ u ((h.sl.take9 (Nat.le_of_lt hi)).on hu) (by unfold szE at hz; simpa using hz)).mono ?_
  rintro e w' ⟨rfl, HB⟩
  have hb := zab hu Lr (HB)
  exact ⟨by rw [← hA]; unfold szE; simp, HKP.out _ hb, zaa hb⟩
 have HSR : Hid (∀ u g o c, SlC u (some ⟨g, o, none⟩) (m - i) c (rtL k cs i) → Below w.heap.size w u → Calls Tryz.prog 80 #[.int .i64 k, .slice (some ⟨g, o, none⟩) (m - i) c] u fun e w' => e = .returned (.int .i64 (B : Int)) ∧ (w'.cell? ⟨bl, 0, none⟩ = some (fV 80) ∧ w'.cell? ⟨bk, 0, none⟩ = some (.int .i64 k) ∧ w'.cell? ⟨bf, 0, none⟩ = some (.func (.func 64) #[] #[.pointer (some ⟨bc, 0, none⟩)]) ∧ w'.cell? ⟨br, 0, none⟩ = some (.func (.func 65) #[] #[.pointer (some ⟨bk, 0, none⟩), .pointer (some ⟨bc, 0, none⟩)])) ∧ Hid (Below w.heap.size w w')) := zaa fun u g o c hs hu => by
  have hz : szE 1 k (rtL k cs i) ≤ 1099511627776 := by rw [hB]; exact hBb
  refine (size_any k _ _ _ _ u hs (by unfold szE at hz; simpa using hz)).mono ?_
  rintro e w' ⟨rfl, HB⟩
  have hb := zab hu Lr (HB)
  exact ⟨by rw [← hB]; unfold szE; simp, HKP.out _ hb, zaa hb⟩
 have hmb : (i : Int) ≤ 65536 := by have := h.lm; omega
 have hAI : (A : Int) ≤ 1099511627776 := by omega
 have hBI : (B : Int) ≤ 1099511627776 := by omega
 rw [hA, hB]
 have hmx : ((max A B : Nat) : Int) = max (A : Int) (B : Int) := by omega
 rw [hmx]
 clear hmx
 have HSF : Hid (∀ u, Below w.heap.size w u → S4h bl bk bf br (fV 80) (.int .i64 k) (.func (.func 64) #[] #[.pointer (some ⟨bc, 0, none⟩)]) (.func (.func 65) #[] #[.pointer (some ⟨bk, 0, none⟩), .pointer (some ⟨bc, 0, none⟩)]) u) := HKP
 obtain ⟨M, hM⟩ : ∃ M, m - i = M := ⟨_, rfl⟩
 rw [hM] at HR HSR
 clear h hl hi hM hft hA hB hbig HKP
 go_enter Tryz.func70, Tryz.ntmps70
 go_upto_region 1 with fail
 refine wp_region_held_drew (S := S4h bl bk bf br (fV 80) (.int .i64 k) (.func (.func 64) #[] #[.pointer (some ⟨bc, 0, none⟩)]) (.func (.func 65) #[] #[.pointer (some ⟨bk, 0, none⟩), .pointer (some ⟨bc, 0, none⟩)])) (by kernel_rfl) (HSF.out _ Br.drew) (fun hHeld => ?_)
 refine zT (i := 0) (v := ?_) rfl ?_ (fun _ _ _ h => h) ?_
 rotate_left
 ·(rintro w ⟨q0, q1, q2, q3⟩; go_simp; try with_reducible rfl)
 try simp only [Act.put, zA, zC, zD, zE, zF]
 refine zT (i := 1) (v := ?_) rfl ?_ (fun _ _ _ h => h) ?_
 rotate_left
 ·(rintro w ⟨q0, q1, q2, q3⟩; go_simp; try with_reducible rfl)
 try simp only [Act.put, zA, zB, zC, zD, zE, zF]
 refine zT (i := 2) (v := ?_) rfl ?_ (fun _ _ _ h => h) ?_
 rotate_left
 ·(rintro w ⟨q0, q1, q2, q3⟩; go_simp; try with_reducible rfl)
 try simp only [Act.put, zA, zB, zC, zD, zE, zF]
 refine zT (i := 3) (v := ?_) rfl ?_ (fun _ _ _ h => h) ?_
 rotate_left
 ·(rintro w ⟨q0, q1, q2, q3⟩; go_simp; try with_reducible rfl)
 try simp only [Act.put, zA, zB, zC, zD, zE, zF]
 refine zT (i := 4) (v := ?_) rfl ?_ (fun _ _ _ h => h) ?_
 rotate_left
 ·(rintro w ⟨q0, q1, q2, q3⟩; go_simp; try with_reducible rfl)
 try simp only [Act.put, zA, zB, zC, zD, zE, zF]
 refine zT (i := 7) (v := ?_) rfl ?_ (fun _ _ _ h => h) ?_
 rotate_left
 ·(rintro w ⟨q0, q1, q2, q3⟩; go_simp; try with_reducible rfl)
 try simp only [Act.put, zA, zB, zC, zD, zE, zF]
 refine zT (i := 8) (v := ?_) rfl ?_ (fun _ _ _ h => h) ?_
 rotate_left
 ·(rintro w ⟨q0, q1, q2, q3⟩; go_simp; try with_reducible rfl)
 try simp only [Act.put, zA, zB, zC, zD, zE, zF]
 refine zT (i := 9) (v := ?_) rfl ?_ (fun _ _ _ h => h) ?_
 rotate_left
 ·(rintro w ⟨q0, q1, q2, q3⟩; go_simp; try with_reducible rfl)
 try simp only [Act.put, zA, zB, zC, zD, zE, zF]
 refine zT (i := 10) (v := ?_) rfl ?_ (fun _ _ _ h => h) ?_
 rotate_left
 ·(rintro w ⟨q0, q1, q2, q3⟩; go_simp; try with_reducible rfl)
 try simp only [Act.put, zA, zB, zC, zD, zE, zF]
 refine zT (i := 11) (v := ?_) rfl ?_ (fun _ _ _ h => h) ?_
 rotate_left
 ·(rintro w ⟨q0, q1, q2, q3⟩; go_simp; try with_reducible rfl)
 try simp only [Act.put, zA, zB, zC, zD, zE, zF]
 refine zY (i := 5) rfl fun K hK => ?_
 go_simp
 go_at_call 64
 refine (HL.out _ Br.drew).mono ?_
 rintro e w1 ⟨rfl, hw1⟩
 subst hw1
 dsimp only
 refine hK.out _ _ (HSF.out _ Br.drew) (fun hHeld => ?_)
 clear hK K
 try simp only [Act.put, zA, zB, zC, zD, zE, zF]
 refine zY (i := 6) rfl fun K hK => ?_
 go_simp
 go_at_call 80
 refine (HSL.out _ Br.drew).mono ?_
 rintro e w1 ⟨rfl, _, HB1⟩
 dsimp only
 refine hK.out _ _ (HSF.out _ HB1.out) (fun hHeld => ?_)
 clear hK K
 try simp only [Act.put, zA, zB, zC, zD, zE, zF]
 refine zY (i := 12) rfl fun K hK => ?_
 go_simp
 go_at_call 65
 refine (HR.out _ HB1.out).mono ?_
 rintro e w2 ⟨g, o, c, rfl, _, HS2, HB2⟩
 dsimp only
 refine hK.out _ _ (HSF.out _ HB2.out) (fun hHeld => ?_)
 clear hK K
 try simp only [Act.put, zA, zB, zC, zD, zE, zF]
 refine zY (i := 13) rfl fun K hK => ?_
 go_simp
 go_at_call 80
 refine (HSR.out _ _ _ _ HS2.out HB2.out).mono ?_
 rintro e w3 ⟨rfl, _, HB3⟩
 dsimp only
 refine hK.out _ _ (HSF.out _ HB3.out) (fun hHeld => ?_)
 clear hK K
 try simp only [Act.put, zA, zB, zC, zD, zE, zF]
 refine zY (i := 14) rfl fun K hK => ?_
 go_simp
 refine hK.out _ _ (HSF.out _ HB3.out) (fun hHeld => ?_)
 clear hK K
 try simp only [Act.put, zA, zB, zC, zD, zE, zF]
 refine zT (i := 15) (v := ?_) rfl ?_ (fun _ _ _ h => h) ?_
 rotate_left
 ·(rintro w ⟨q0, q1, q2, q3⟩; go_simp; try with_reducible rfl)
 try simp only [Act.put, zA, zB, zC, zD, zE, zF]
 refine wpAnyH_done (by kernel_rfl) ?_ _
 clear hHeld
 go_wp2
 go_ret
 exact ⟨rfl, HB3⟩
theorem rtL_get (k : Int) (cs : List Cl) (K t : Nat) : (rtL k cs K)[t]? = (cs[K + t]?).map (fun e => if t = 0 ∧ k = 3 then noKey e else e) := by
 unfold rtL
 rw [← List.getElem?_drop]
 cases h : cs.drop K with
 | nil => rw [rsd_nil]; simp
 | cons c r =>
  rw [zcz]
  cases t with
  | zero => by_cases hk : k = 3 <;> simp [hk]
  | succ t => simp
theorem right9_any (w : World) (k : Int) (b off m cap K : Nat) (cs : List Cl) (hs : SlC w (some ⟨b, off, none⟩) m cap cs) (hm : m ≤ 65536) (hK : K ≤ m) :
  Calls Tryz.prog 76 #[.int .i64 k, .slice (some ⟨b, off, none⟩) m cap, .int .i64 (K : Int)] w fun e w' => ∃ v, e = .returned v ∧ Hid (OwK w w.heap.size w' v (rtL k cs K)) ∧ Hid (Below w.heap.size w w') := by
 have HS := zaa hs.srk
 have HLN := zaa hs.hlen
 have HRL : Hid ((rtL k cs K).length = m - K) := zaa (by rw [zdg, hs.hlen])
 have KI : (K : Int) ≤ 65536 := by omega
 have mI : (m : Int) ≤ 65536 := by omega
 have HKM := zaa hK
 clear hs
 go_enter Tryz.func76, Tryz.ntmps76
 go_wp2_with fail
 go_loopw [7, 8, 9] (fun o kv s9 wr => ∃ (t q : Nat) (ov : Value), ov = o ∧ q = K + t ∧ q ≤ m ∧ kv = .int .i64 (q : Int) ∧ Hid (OwK w w.heap.size wr ov ((rtL k cs K).take t)) ∧ Hid (Below w.heap.size w wr)) (fun _ kv _ _ => m - (intOf kv).toNat)
 case atStart => exact ⟨0, K, _, rfl, rfl, hK, rfl, zaa (OwK.nil _ _ _), zaa Br⟩
 case round =>
  obtain ⟨t, q, ov, rfl, hqt, hq, rfl, HO, HB⟩ := hrel
  have qI : (q : Int) ≤ 65536 := by omega
  have HSR : Hid (SrK w wr (some ⟨b, off, none⟩) m cap cs) := zaa (HS.out.on HB.out)
  have HQT := zaa hqt
  clear hqt
  by_cases hlt : q < m
  ·have hltI : (q : Int) < (m : Int) := by omega
   obtain ⟨b', off', e, ka', kc', va', vc', hbo, hb', hci, d0, d1, d2, d3, d4, hk', hv'⟩ := HSR.out.item q (by omega)
   injection hbo with hbo
   injection hbo with hbo1 hbo2
   subst hbo1 hbo2
   have HCI := zaa hci
   obtain ⟨kn, hkn⟩ : ∃ kn, e.key.length = kn := ⟨_, rfl⟩
   obtain ⟨vn, hvn⟩ : ∃ vn, e.val.length = vn := ⟨_, rfl⟩
   obtain ⟨kd', hkd⟩ : ∃ kd', e.kd = kd' := ⟨_, rfl⟩
   obtain ⟨pg, hpg⟩ : ∃ pg, e.pg = pg := ⟨_, rfl⟩
   obtain ⟨ct, hct⟩ : ∃ ct, e.ct = ct := ⟨_, rfl⟩
   have HKN := zaa (And.intro hkn (And.intro hvn (And.intro hkd (And.intro hpg hct))))
   have HKV := zaa (And.intro hk' hv')
   rw [hkn] at d0
   rw [hkd] at d1
   rw [hvn] at d2
   rw [hpg] at d3
   rw [hct] at d4
   obtain ⟨y, hy⟩ : ∃ y, wr.alloc (.cells #[.slice ka' kn kc', .int .i64 kd', .slice va' vn vc', .int .i64 pg, .int .i64 ct] 43) = y := ⟨_, rfl⟩
   have hby : Below wr.heap.size wr y := by rw [← hy]; exact zac Br Lr _
   obtain ⟨s, hsz⟩ : ∃ s, wr.heap.size = s := ⟨_, rfl⟩
   have h5 : C5 y s (.slice ka' kn kc') (.int .i64 kd') (.slice va' vn vc') (.int .i64 pg) (.int .i64 ct) := by rw [← hy, ← hsz]; exact C5.box _ _ _ _ _ _
   have H5 := zaa h5
   have HBY := zaa hby
   have HSZ := zaa hsz
   obtain ⟨z0, z1, z2, z3, z4⟩ := h5.cells
   obtain ⟨f0, f1, f2, f3, f4⟩ := h5.free
   clear hk' hv' hci hkn hvn hkd hpg hct h5 hby
   by_cases hcase : t = 0 ∧ k = 3
   ·obtain ⟨rfl, rfl⟩ := hcase
    obtain rfl : q = K := by have := HQT.out; omega
    obtain ⟨x, hx⟩ : ∃ x, y.setCell ⟨s, 0, none⟩ (.slice none 0 0) = x := ⟨_, rfl⟩
    have HX5 : Hid (C5 x s (.slice none 0 0) (.int .i64 kd') (.slice va' vn vc') (.int .i64 pg) (.int .i64 ct)) := zaa (by rw [← hx]; exact (H5.out.set _).1)
    have HBX : Hid (Below wr.heap.size wr x) := zaa (by rw [← hx]; exact HBY.out.setCell (p := ⟨s, 0, none⟩) (by rw [HSZ.out]; exact Lr) _)
    have HRO : Hid (Row5 w [.slice none 0 0, .int .i64 kd', .slice va' vn vc', .int .i64 pg, .int .i64 ct] [noKey e]) := zaa (by
     obtain ⟨k1, k2, k3, k4, k5⟩ := HKN.out
     rw [← k2, ← k3, ← k4, ← k5]
     exact ⟨none, 0, va', vc', [], rfl, Sl.nil_any _ _ _ (fun _ => rfl), HKV.out.2, rfl⟩)
    have HEL : Hid ((rtL 3 cs q).take (0 + 1) = (rtL 3 cs q).take 0 ++ [noKey e]) := zaa (take_snocC _ _ _ (by rw [rtL_get, Nat.add_zero, HCI.out]; simp))
    obtain ⟨y2, hy2⟩ : ∃ y2, x.alloc (.cells #[.slice none 0 0, .int .i64 kd', .slice va' vn vc', .int .i64 pg, .int .i64 ct] 43) = y2 := ⟨_, rfl⟩
    have hby2 : Below x.heap.size x y2 := by rw [← hy2]; exact zac Br Lr _
    have HBE2 : Hid (Below wr.heap.size wr y2) := zaa (zab HBX.out Lr hby2)
    have HOY : Hid (OwK w w.heap.size y2 ov ((rtL 3 cs q).take 0)) := zaa (HO.out.go HBE2.out)
    have HBY2 : Hid (Below w.heap.size w y2) := zaa (zab HB.out Lr HBE2.out)
    have HXY := zaa (five_at hy2)
    obtain ⟨a0, a1, a2, a3, a4⟩ := HX5.out.cells
    have HLT : Hid (((rtL 3 cs q).take 0).length ≤ 65536) := zaa (by rw [zJ, HRL.out]; omega)
    clear hby2 HO HB HBX HX5 HSR HBE2
    go_wp2_with (at_builtin; refine app_k w _ w.heap.size rfl _ _ rfl ((rtL 3 cs q).take 0) (noKey e) ov x.heap.size _ rfl rfl HOY.out HRO.out HXY.out (by have := HLT.out; omega) HBY2.out.size ?_; intro v2 u2 HO2 HBU2; refine Hid.out ?_)
    apply zaa
    have HBU : Hid (Below w.heap.size w u2) := zaa (HBY2.out.trans HBU2.out)
    rw [← HEL.out] at HO2
    clear HOY HBY2 HXY HRO hy2 hy d0 d1 d2 d3 d4 a0 a1 a2 a3 a4 z0 z1 z2 z3 z4 f0 f1 f2 f3 f4 HBU2 H5 HBY
    go_wp2
    go_roundw
    case rel => exact ⟨0 + 1, q + 1, _, rfl, by have := HQT.out; omega, by omega, by go_num, HO2, HBU⟩
    case measure => simp [intOf]; omega
   ·have hnb : (decide ((q : Int) = (K : Int)) && decide (k = 3)) = false := by
     simp only [Bool.and_eq_false_iff, zP]
     by_cases h1 : (q : Int) = (K : Int)
     ·exact .inr fun h2 => hcase ⟨by have := HQT.out; omega, h2⟩
     ·exact .inl h1
    have HX5 : Hid (C5 y s (.slice ka' kn kc') (.int .i64 kd') (.slice va' vn vc') (.int .i64 pg) (.int .i64 ct)) := zaa H5.out
    have HBX : Hid (Below wr.heap.size wr y) := zaa HBY.out
    have HRO : Hid (Row5 w [.slice ka' kn kc', .int .i64 kd', .slice va' vn vc', .int .i64 pg, .int .i64 ct] [e]) := zaa (by
     obtain ⟨k1, k2, k3, k4, k5⟩ := HKN.out
     rw [← k1, ← k2, ← k3, ← k4, ← k5]
     exact ⟨ka', kc', va', vc', [], rfl, HKV.out.1, HKV.out.2, rfl⟩)
    have HEL : Hid ((rtL k cs K).take (t + 1) = (rtL k cs K).take t ++ [e]) := zaa (take_snocC _ _ _ (by rw [rtL_get, ← HQT.out, HCI.out]; simp [hcase]))
    by_cases hqk : q = K
    ·have hk3 : ¬ k = 3 := fun h => hcase ⟨by have := HQT.out; omega, h⟩
     subst hqk
     clear hcase hnb
     obtain ⟨y2, hy2⟩ : ∃ y2, y.alloc (.cells #[.slice ka' kn kc', .int .i64 kd', .slice va' vn vc', .int .i64 pg, .int .i64 ct] 43) = y2 := ⟨_, rfl⟩
     have hby2 : Below y.heap.size y y2 := by rw [← hy2]; exact zac Br Lr _
     have HBE2 : Hid (Below wr.heap.size wr y2) := zaa (zab HBX.out Lr hby2)
     have HOY : Hid (OwK w w.heap.size y2 ov ((rtL k cs q).take t)) := zaa (HO.out.go HBE2.out)
     have HBY2 : Hid (Below w.heap.size w y2) := zaa (zab HB.out Lr HBE2.out)
     have HXY := zaa (five_at hy2)
     obtain ⟨a0, a1, a2, a3, a4⟩ := HX5.out.cells
     have HLT : Hid (((rtL k cs q).take t).length ≤ 65536) := zaa (by rw [zJ, HRL.out]; omega)
     clear hby2 HO HB HBX HX5 HSR HBE2
     go_wp2_with (at_builtin; refine app_k w _ w.heap.size rfl _ _ rfl ((rtL k cs q).take t) e ov y.heap.size _ rfl rfl HOY.out HRO.out HXY.out (by have := HLT.out; omega) HBY2.out.size ?_; intro v2 u2 HO2 HBU2; refine Hid.out ?_)
     apply zaa
     have HBU : Hid (Below w.heap.size w u2) := zaa (HBY2.out.trans HBU2.out)
     rw [← HEL.out] at HO2
     clear HOY HBY2 HXY HRO hy2 hy d0 d1 d2 d3 d4 a0 a1 a2 a3 a4 z0 z1 z2 z3 z4 f0 f1 f2 f3 f4 HBU2 H5 HBY
     go_wp2
     go_roundw
     case rel => exact ⟨t + 1, q + 1, _, rfl, by have := HQT.out; omega, by omega, by go_num, HO2, HBU⟩
     case measure => simp [intOf]; omega
    ·have hqK : ¬ (q : Int) = (K : Int) := by omega
     clear hcase hnb
     obtain ⟨y2, hy2⟩ : ∃ y2, y.alloc (.cells #[.slice ka' kn kc', .int .i64 kd', .slice va' vn vc', .int .i64 pg, .int .i64 ct] 43) = y2 := ⟨_, rfl⟩
     have hby2 : Below y.heap.size y y2 := by rw [← hy2]; exact zac Br Lr _
     have HBE2 : Hid (Below wr.heap.size wr y2) := zaa (zab HBX.out Lr hby2)
     have HOY : Hid (OwK w w.heap.size y2 ov ((rtL k cs K).take t)) := zaa (HO.out.go HBE2.out)
     have HBY2 : Hid (Below w.heap.size w y2) := zaa (zab HB.out Lr HBE2.out)
     have HXY := zaa (five_at hy2)
     obtain ⟨a0, a1, a2, a3, a4⟩ := HX5.out.cells
     have HLT : Hid (((rtL k cs K).take t).length ≤ 65536) := zaa (by rw [zJ, HRL.out]; omega)
     clear hby2 HO HB HBX HX5 HSR HBE2
     go_wp2_with (at_builtin; refine app_k w _ w.heap.size rfl _ _ rfl ((rtL k cs K).take t) e ov y.heap.size _ rfl rfl HOY.out HRO.out HXY.out (by have := HLT.out; omega) HBY2.out.size ?_; intro v2 u2 HO2 HBU2; refine Hid.out ?_)
     apply zaa
     have HBU : Hid (Below w.heap.size w u2) := zaa (HBY2.out.trans HBU2.out)
     rw [← HEL.out] at HO2
     clear HOY HBY2 HXY HRO hy2 hy d0 d1 d2 d3 d4 a0 a1 a2 a3 a4 z0 z1 z2 z3 z4 f0 f1 f2 f3 f4 HBU2 H5 HBY
     go_wp2
     go_roundw
     case rel => exact ⟨t + 1, q + 1, _, rfl, by have := HQT.out; omega, by omega, by go_num, HO2, HBU⟩
     case measure => simp [intOf]; omega
  ·obtain rfl : q = m := by omega
   have hltI : ¬ (q : Int) < (q : Int) := by omega
   go_wp2
   go_ret
   refine ⟨ov, rfl, ?_, HB⟩
   have h1 := HRL.out
   have h2 := HQT.out
   rwa [List.take_of_length_le (by omega)] at HO
end Go.Proofs.YtofafbmpbkjhnaaGreatDoor
