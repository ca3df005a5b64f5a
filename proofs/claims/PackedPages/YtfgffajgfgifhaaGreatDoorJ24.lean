import Derived.Test.YtfgffajgfgifhaaGreatDoorJ23
namespace Go.Proofs.YtfgffajgfgifhaaGreatDoor
set_option maxRecDepth 100000
set_option maxHeartbeats 4000000
open Go.RowKit
def encQ (k n : Int) (cs : List Cl) : Int := if isKd k ∧ pw n then (if chk k n none cs = 0 then (if n < szQ k (shP k cs).length cs then 61 else 0) else chk k n none cs) else 1
def EncQ (k n : Int) (cs : List Cl) (w : World) (e : Ending) (w' : World) : Prop :=
 ∃ ao m cap c, e = .returned (.tuple #[.slice ao m cap, .int .i64 c]) ∧ Hid (Below w.heap.size w w') ∧ Hid (c = encQ k n cs ∧ ((c ≠ 0 ∧ ao = none ∧ m = 0 ∧ cap = 0) ∨ (c = 0 ∧ ∃ g, ao = some ⟨g, 0, none⟩ ∧ m = n.toNat ∧ cap = n.toNat ∧ w.heap.size ≤ g ∧ Bk w' g (pkB k n.toNat cs))))
theorem EncQ.no {k n : Int} {cs : List Cl} {w w' : World} {c : Int} (hb : Below w.heap.size w w') (hc : c = encQ k n cs) (h0 : c ≠ 0) : EncQ k n cs w (.returned (.tuple #[.slice none 0 0, .int .i64 c])) w' := ⟨none, 0, 0, c, rfl, zaa hb, zaa ⟨hc, .inl ⟨h0, rfl, rfl, rfl⟩⟩⟩
theorem chk_step (k n : Int) (cs : List Cl) (j : Nat) (c : Cl) (h : cs[j]? = some c) : chk k n (prv (cs.take j)) (cs.drop j) = if mayP k n c then (if zaq (prv (cs.take j)) c.key then chk k n (prv (cs.take (j + 1))) (cs.drop (j + 1)) else 63) else 62 := by
 obtain ⟨hj, e⟩ := zH.1 h
 rw [List.drop_eq_getElem_cons hj, e, chk]
 have : prv (cs.take (j + 1)) = some c.key := by
  rw [List.take_add_one, h]
  simp [prv]
 rw [this]
theorem encodeQ_any (k n : Int) (co : Option Addr) (cn cc : Nat) (cs : List Cl) (w : World) (hs : SlC w co cn cc cs) (hz : szQ k (shP k cs).length cs ≤ 1099511627776) (ht : Tab w) (h0 : 0 < w.heap.size) :
  Calls Tryz.prog 24 #[.int .i64 k, .slice co cn cc, .int .i64 n] w fun e w' => EncQ k n cs w e w' := by
 obtain ⟨ic, hic, hz0, hz1, hz2⟩ := info_parts infoE
 have HS := zaa hs
 have HZ := zaa hz
 have HT := zaa ht
 have HLEN := zaa hs.hlen
 have hcn : cn ≤ 1099511627776 := by have := hs.hlen; have := zal k (shP k cs).length cs; omega
 cases h1 : decide (isKd k) with
 | false =>
  have HE : Hid ((1 : Int) = encQ k n cs) := zaa (by unfold encQ; rw [if_neg (fun h => by simp [h.1] at h1)])
  clear hs hz ht
  go_enter Tryz.func24, Tryz.ntmps24
  go_wp2_with (go_at_call 27; refine zae (zcd _ _) ?_; rw [h1])
  go_ret2
  exact EncQ.no Br HE.out (by omega)
 | true =>
  cases h2 : decide (pw n) with
  | false =>
   have HE : Hid ((1 : Int) = encQ k n cs) := zaa (by unfold encQ; rw [if_neg (fun h => by simp [h.2] at h2)])
   clear hs hz ht
   go_enter Tryz.func24, Tryz.ntmps24
   go_wp2_with (first | (go_at_call 27; refine zae (zcd _ _) ?_; rw [h1]) | (go_at_call 28; refine zae (zcq _ _) ?_; rw [h2]))
   go_ret2
   exact EncQ.no Br HE.out (by omega)
  | true =>
   have hk : isKd k := by simpa using h1
   have hn : pw n := by simpa using h2
   have hpn := pw_le hn
   obtain ⟨N, rfl⟩ := Int.eq_ofNat_of_zero_le (show 0 ≤ n by omega)
   have HK := zaa hk
   have HPN := zaa hn
   have HE0 : Hid (encQ k N cs = if chk k N none cs = 0 then (if (N : Int) < szQ k (shP k cs).length cs then 61 else 0) else chk k N none cs) := zaa (by unfold encQ; rw [if_pos ⟨hk, hn⟩])
   have hN1 : (N : Int) ≤ 65536 := hpn.2
   have hN2 : 512 ≤ N := by omega
   clear hs hz ht hk hn hpn
   go_enter Tryz.func24, Tryz.ntmps24
   go_wp2_with (first | (go_at_call 27; refine zae (zcd _ _) ?_; rw [h1]) | (go_at_call 28; refine zae (zcq _ _) ?_; rw [h2]))
   clear h1 h2
   go_loopw [23] (fun i wr => ∃ j : Nat, j ≤ cn ∧ i = .int .i64 j ∧ Hid (chk k N none cs = chk k N (prv (cs.take j)) (cs.drop j)) ∧ Hid (Below w.heap.size w wr)) (fun i _ => cn - (intOf i).toNat)
   case atStart => exact ⟨0, by omega, rfl, zaa (by simp [prv]), zaa Br⟩
   case round =>
    obtain ⟨j, hj, rfl, HC, HBW⟩ := hrel
    have bj : (j : Int) ≤ 1099511627776 := by omega
    by_cases hlt : j < cn
    ·have hltI : (j : Int) < (cn : Int) := by omega
     obtain ⟨b, off, c, ka, kc, va, vc, rfl, hb, hci, c0, c1, c2, c3, c4, hkS, hvS⟩ := (HS.out.on HBW.out).item j hlt
     have HCS := zaa (chk_step k N cs j c hci)
     have HCI := zaa hci
     have hkr := hkS.hroom
     have hvr := hvS.hroom
     have HKS := zaa hkS
     have HMB := zaa (fun u => zdg k (N : Int) ka c.key.length kc c.kd va c.val.length vc c.pg c.ct u (by omega) hN1 hkr hvr)
     have HMI := zaa (mayP_iff k N c)
     clear hci hkS hvS
     cases hm : decide (mayN k N c.key.length c.kd c.val.length c.pg c.ct) with
     | false =>
      have HE : Hid ((62 : Int) = encQ k N cs) := by
       have : ¬ mayP k N c := fun h => by have := HMI.out.2 h; simp at hm; exact hm this
       have e : chk k N none cs = 62 := by rw [HC.out, HCS.out, if_neg this]
       exact zaa (by rw [HE0.out, e]; simp)
      go_wp2_with (go_at_call 63; refine (HMB.out _).mono ?_; rintro e w2 ⟨rfl, hb2⟩; have HB2 := zaa (zab (zac HBW.out Lr _) Lr hb2); clear hb2; rw [hm])
      go_ret2
      exact EncQ.no HB2.out HE.out (by omega)
     | true =>
      have hmp : mayP k N c := HMI.out.1 (by simpa using hm)
      have HMP := zaa hmp
      clear hmp
      go_wp2_with (go_at_call 63; refine (HMB.out _).mono ?_; rintro e w2 ⟨rfl, hb2⟩; have HBOX := zaa (box5 hb2); have HBR := zaa (al5 hb2); have HBW2 := zaa (zab (zac HBW.out Lr _) Lr hb2); clear hb2; rw [hm]; refine Hid.out ?_)
      apply zaa
      obtain ⟨g8, hg8⟩ : ∃ g8, wr.heap.size = g8 := ⟨_, rfl⟩
      rw [hg8] at HBOX ⊢
      obtain ⟨z0, z1, z2, z3, z4⟩ := HBOX.out
      clear hg8 HBOX c0 c1 c2 c3 c4 HMB HMI
      by_cases hj0 : j = 0
      ·subst hj0
       have HNX : Hid (chk k N none cs = chk k N (prv (cs.take (0 + 1))) (cs.drop (0 + 1))) := zaa (by rw [HC.out, HCS.out, if_pos HMP.out, if_pos (by simp [prv, zaq])])
       go_wp2_with fail
       go_quiet (fail)
       go_wp2
       go_roundw
       case rel => exact ⟨1, by omega, by go_num, HNX, zaa (zad HBW2.out _)⟩
       case measure => simp [intOf]; omega
      ·obtain ⟨i, rfl⟩ : ∃ i, j = i + 1 := ⟨j - 1, by omega⟩
       obtain ⟨b', off', c', ka', kc', va', vc', hbo, hb', hci', e0, e1, e2, e3, e4, hk', hv'⟩ := (HS.out.on HBW2.out).item i (by omega)
       injection hbo with hbo
       injection hbo with hb1 hb2
       subst hb1 hb2
       have hprv : prv (cs.take (i + 1)) = some c'.key := by rw [List.take_add_one, hci']; simp [prv]
       have HRI : Hid (∀ q, Calls Tryz.prog 64 #[.slice ka' c'.key.length kc', .slice ka c.key.length kc] (w2.drewN q) fun e w' => e = .returned (.bool (decide (kl c'.key c.key))) ∧ w' = w2.drewN q) :=
        zaa fun q => riseQ_any _ _ _ _ _ _ _ _ _ (hk'.drewN q) ((HKS.out.on Lr HBR.out).drewN q)
       have HPR := zaa hprv
       have i1 : (i : Int) < (cn : Int) := by omega
       have i2 : i < cn := by omega
       have i3 : (i : Int) ≤ 1099511627776 := by omega
       clear hk' hv' hprv hci' e1 e2 e3 e4 z1 z2 z3 z4 hj0
       cases hkl : decide (kl c'.key c.key) with
       | true =>
        have HNX : Hid (chk k N none cs = chk k N (prv (cs.take (i + 1 + 1))) (cs.drop (i + 1 + 1))) := zaa (by
         rw [HC.out, HCS.out, if_pos HMP.out, if_pos (by rw [HPR.out]; simpa [zaq] using hkl)])
        rw [hkl] at HRI
        go_wp2_with fail
        go_quiet (first | (go_at_call 64; exact Calls.quiet_of_same (HRI.out _)))
        go_wp2
        go_roundw
        case rel => exact ⟨i + 1 + 1, by omega, by go_num, HNX, zaa (zad HBW2.out _)⟩
        case measure => simp [intOf]; omega
       | false =>
        have HE : Hid ((63 : Int) = encQ k N cs) := by
         have e : chk k N none cs = 63 := by rw [HC.out, HCS.out, if_pos HMP.out, if_neg (by rw [HPR.out]; simpa [zaq] using hkl)]
         exact zaa (by rw [HE0.out, e]; simp)
        rw [hkl] at HRI
        go_wp2_with fail
        go_quiet (first | (go_at_call 64; exact Calls.quiet_of_same (HRI.out _)))
        go_wp2
        go_ret2
        exact EncQ.no (zad HBW2.out _) HE.out (by omega)
    ·obtain rfl : j = cn := by omega
     have hlI : ¬ (j : Int) < (j : Int) := by omega
     have HOK : Hid (chk k N none cs = 0) := zaa (by rw [HC.out, List.drop_eq_nil_of_le (by rw [HLEN.out]; exact Lr)]; rfl)
     have HSC := zaa (HS.out.on HBW.out)
     have HSZ := zaa (psize_any k co j cc cs wr HSC.out HZ.out)
     have hszb := HZ.out
     obtain ⟨Z, hZ⟩ : ∃ Z, szQ k (shP k cs).length cs = Z := ⟨_, rfl⟩
     have HZE := zaa hZ
     rw [hZ] at HSZ hszb
     have bZ : (Z : Int) ≤ 1099511627776 := by omega
     clear hZ
     go_wp2_with (go_at_call 14; refine HSZ.out.mono ?_; rintro e w2 ⟨rfl, HB2⟩; refine Hid.out ?_)
     apply zaa
     have HBW2 : Hid (Below w.heap.size w w2) := zaa (zab HBW.out Lr HB2.out)
     clear HSZ
     by_cases hfit : (N : Int) < (Z : Int)
     ·have HE : Hid ((61 : Int) = encQ k N cs) := zaa (by rw [HE0.out, if_pos HOK.out, HZE.out, if_pos hfit])
      go_wp2
      go_ret2
      exact EncQ.no HBW2.out HE.out (by omega)
     ·have HE : Hid ((0 : Int) = encQ k N cs) := zaa (by rw [HE0.out, if_pos HOK.out, HZE.out, if_neg hfit])
      have hjb : j ≤ 65536 := by
       have h3 := zal k (shP k cs).length cs
       have h4 := HLEN.out
       have h5 := HZE.out
       omega
      have hjI : (j : Int) ≤ 65536 := by omega
      have HNF : Hid (szQ k (shP k cs).length cs ≤ N) := zaa (by rw [HZE.out]; omega)
      clear HC
      go_wp2_with (at_make; refine wpList_make_full _ rfl _ _ 75 rfl w2.heap.size 78 ic _ 6 Tryz.underlying75 hic hz0 hz1 .i64 .i64 j j j rfl rfl rfl rfl (by rw [hz2]; omega) (by unfold maxLen; omega) Lr ?_; refine Hid.out ?_)
      apply zaa
      intro w3 ho3 hg3
      have hb3 : Below w2.heap.size w2 w3 := Br.grown hg3 Lr (fun k hk => by cases hk)
      obtain ⟨g, hg⟩ : ∃ g, w2.heap.size = g := ⟨_, rfl⟩
      have HRW : Hid (zah w3 g j) := by
       rcases ho3.2 with ⟨h, _⟩ | ⟨q, c, cur, h, _, hh, _, _, hss, _⟩
       ·cases h
       ·cases h
        rw [← hg]
        exact zaa ⟨cur, hh, by rw [hss]; omega⟩
      have hgs : Below g w2 w3 := by rw [← hg]; exact hb3
      have HGS := zaa hgs
      have HGW := zaa hg
      have HWG : Hid (w.heap.size ≤ g) := zaa (by rw [← hg]; exact HBW2.out.size)
      rw [hg]
      clear ho3 hg3 hb3 hgs hg HSC HB2
      go_wp2_with fail
      go_loopw [58] (fun i wr => ∃ t : Nat, t ≤ j ∧ i = .int .i64 t ∧ Hid (zah wr g j) ∧ Hid (Below g w2 wr) ∧ Hid (∀ i d, i < t → cs[i]? = some d → EAt wr g g (i * 6) d)) (fun i _ => j - (intOf i).toNat)
      case atStart => exact ⟨0, by omega, rfl, HRW, HGS, zaa fun i d hi => by omega⟩
      case round =>
       obtain ⟨t, ht, rfl, HR, HG, HD⟩ := hrel
       obtain ⟨wo, hwo⟩ : ∃ wo, wo = wr := ⟨_, rfl⟩
       subst hwo
       have HBE : Hid (Below w.heap.size w wo) := zaa (HBW2.out.trans (HG.out.mono HWG.out))
       have bt : (t : Int) ≤ 65536 := by omega
       clear HRW HGS
       by_cases hlt : t < j
       ·have hltI : (t : Int) < (j : Int) := by omega
        obtain ⟨b, off, c, ka, kc, va, vc, rfl, hb, hci, c0, c1, c2, c3, c4, hkS, hvS⟩ := HS.out.item t hlt
        have d0 := (HBE.out.cell (p := ⟨b, off + t * 5, none⟩) hb).trans c0
        have d1 := (HBE.out.cell (p := ⟨b, off + t * 5 + 1, none⟩) hb).trans c1
        have d2 := (HBE.out.cell (p := ⟨b, off + t * 5 + 2, none⟩) hb).trans c2
        have d3 := (HBE.out.cell (p := ⟨b, off + t * 5 + 3, none⟩) hb).trans c3
        have d4 := (HBE.out.cell (p := ⟨b, off + t * 5 + 4, none⟩) hb).trans c4
        have HKS := zaa hkS
        have HVS := zaa hvS
        have HCI := zaa hci
        clear c0 c1 c2 c3 c4 hkS hvS hci
        obtain ⟨x, hx⟩ : ∃ x, wo.alloc (.cells #[.slice ka c.key.length kc, .int .i64 c.kd, .slice va c.val.length vc, .int .i64 c.pg, .int .i64 c.ct] 39) = x := ⟨_, rfl⟩
        have hbx : Below wo.heap.size wo x := by rw [← hx]; exact zac Br Lr _
        have HBX := zaa hbx
        have HR2 : Hid (zah (wo.alloc (.cells #[.slice ka c.key.length kc, .int .i64 c.kd, .slice va c.val.length vc, .int .i64 c.pg, .int .i64 c.ct] 39)) g j) := zaa (by rw [hx]; exact HR.out.on hbx)
        have HX := zaa hx
        clear hbx hx
        go_wp2_with (refine put_entry (by rfl) _ _ (by rfl) g (t * 6) j none ka va 0 0 c.key.length kc c.val.length vc c.kd c.pg c.ct HR2.out (by rfl) (by rfl) (by omega) ?_; intro u3 HU3; refine Hid.out ?_)
        apply zaa
        rw [HX.out] at HU3 HR2
        have HR3 : Hid (zah u3 g j) := zaa (by rw [HU3.out]; exact zah.sets _ _ _ HR2.out)
        have hg2 : Below g w2 x := HG.out.trans (HBX.out.mono (Nat.le_of_lt HR.out.lt))
        have HG3 : Hid (Below g w2 u3) := zaa (by
         rw [HU3.out]
         simp only [World.setCells]
         refine (((((hg2.setCell ?_ _).setCell ?_ _).setCell ?_ _).setCell ?_ _).setCell ?_ _).setCell ?_ _ <;> simp)
        have HD3 : Hid (∀ i d, i < t + 1 → cs[i]? = some d → EAt u3 g g (i * 6) d) := by
         refine zaa fun i d' hi hd' => ?_
         rw [HU3.out]
         have hbw : Below w.heap.size w x := zab HBE.out Lr HBX.out
         by_cases e : i = t
         ·subst e
          rw [HCI.out] at hd'
          injection hd' with hd'
          subst hd'
          exact EAt.new (h := []) (key := c.key) HR2.out (by omega) Lr (Sl.nil_any _ _ _ fun _ => rfl) (HKS.out.on Lr hbw) (HVS.out.on Lr hbw) (by simp) (.inl rfl) (HKS.out.lo.mono HWG.out) (HVS.out.lo.mono HWG.out)
         ·exact ((HD.out i d' (by omega) hd').on HR.out.lt HBX.out).put Lr (by omega)
        clear HU3 HR2 HR HG HD hg2 HX d0 d1 d2 d3 d4
        go_wp2
        go_roundw
        case rel => exact ⟨t + 1, by omega, by go_num, HR3, HG3, HD3⟩
        case measure => simp [intOf]; omega
       ·obtain rfl : t = j := by omega
        have hlI : ¬ (t : Int) < (t : Int) := by omega
        have hsE : SlE wo g (some ⟨g, 0, none⟩) t t cs := ⟨HLEN.out, Lr, by omega, (by intro h; cases h), .inr ⟨g, 0, rfl, HR.out.lt, fun i d hd => by
         rw [Nat.zero_add]
         have := (zH.1 hd).1
         exact HD.out i d (by rw [← HLEN.out]; exact this) hd⟩⟩
        have hfit := chk_fit HOK.out HPN.out
        have hzz := zal k (shP k cs).length cs
        have hnf := HNF.out
        have hrs := chk_rs HOK.out
        have HLD := zaa (laid_any k N g _ t t cs wo hsE (Nat.le_of_lt HR.out.lt) hrs hfit hjb (by omega))
        have HWF := zaa hsE.wf
        have HFT := zaa hfit
        have HZZ : Hid ((qbd (shP k cs).length (whl k) cs).length ≤ 1099511627776 ∧ cs.length ≤ 65536) := zaa (by rw [HLEN.out]; omega)
        clear hsE hfit hzz hnf hrs HR HG HD
        go_wp2_with (go_at_call 54; refine HLD.out.mono ?_; intro e w4 hq; obtain ⟨b4, rfl, HL4, HB4, _⟩ := hq.ld HWF.out HFT.out HZZ.out.2 HZZ.out.1; refine Hid.out ?_)
        apply zaa
        have HBW4 : Hid (Below w.heap.size w w4) := zaa (zab HBE.out Lr HB4.out)
        have HWR := zaa (written_ld HL4.out HK.out HPN.out HNF.out (HT.out.on HBW4.out h0) (zO h0 HBW4.out.size))
        clear HLD
        go_wp2_with (go_at_call 55; refine HWR.out.mono ?_; rintro e w5 ⟨g5, rfl, hg5, HBK, HB5⟩)
        go_ret2
        refine ⟨some ⟨g5, 0, none⟩, N, N, 0, rfl, zaa (zab HBW4.out Lr HB5.out), zaa ⟨HE.out, .inr ⟨rfl, g5, rfl, by simp, by simp, zN HBW4.out.size hg5, ?_⟩⟩⟩
        rw [Int.toNat_natCast]
        exact HBK.out
theorem Sn_step (k y : Nat) (h : k < 8) : Sn (8 - k) y = Sn (8 - (k + 1)) (S y) := by
 rw [show 8 - k = (8 - (k + 1)) + 1 by omega]
 rfl
theorem step_any (r x : Nat) (w : World) (hr : r < 4294967296) (hx : x < 256) :
  Calls Tryz.prog 143 #[.int .u32 r, .int .u8 x] w fun e w' => e = .returned (.int .u32 (Sn 8 (r ^^^ x))) ∧ w' = w := by
 have hxr := u32_xor_nat r x hr (by omega)
 have hlt := zak hr (show x < 4294967296 by omega)
 generalize (r ^^^ x : Nat) = R at *
 generalize hF : Sn 8 R = F
 have HF := zaa hF
 clear hF
 go_enter Tryz.func143, Tryz.ntmps143
 go_wp2_with fail
 go_loop [5, 6] (fun v i => ∃ k y : Nat, k ≤ 8 ∧ y < 4294967296 ∧ i = .int .i64 k ∧ v = .int .u32 y ∧ Hid (Sn (8 - k) y = F)) (fun _ i => 8 - (intOf i).toNat)
 case atStart => exact ⟨0, R, by omega, hlt, rfl, rfl, HF⟩
 case round =>
  clear hxr hlt HF
  obtain ⟨k, y, hk, hy, rfl, rfl, HK⟩ := hrel
  by_cases hk8 : k < 8
  ·have e := HK.out
   rw [Sn_step k y hk8] at e
   have hSl := S_lt hy
   clear HK
   obtain ⟨D, hD⟩ : ∃ D : Nat, y / 2 = D := ⟨_, rfl⟩
   have hD2 : (y : Int) / 2 = (D : Int) := by omega
   have hDl : D < 4294967296 := by omega
   by_cases hodd : y % 2 = 1
   ·have hS : S y = D ^^^ 2197175160 := by unfold S; rw [if_pos hodd, hD]
    rw [hS] at e hSl
    have hz := u32_xor_nat D 2197175160 hDl (by omega)
    obtain ⟨Z, hZ⟩ : ∃ Z : Nat, D ^^^ 2197175160 = Z := ⟨_, rfl⟩
    rw [hZ] at e hz hSl
    have hz2 : bits .xor .u32 (D : Int) 2197175160 = (Z : Int) := hz
    have hb : ((y : Int) % 2 == 1) = true := by simp; omega
    have HE := zaa e
    clear e hS hz hZ hD hodd
    go_wp2
    go_round
    case rel => exact ⟨k + 1, Z, by omega, hSl, by go_num, rfl, HE⟩
    case measure => simp [intOf]; omega
   ·have hS : S y = D := by unfold S; rw [if_neg hodd, hD]
    rw [hS] at e hSl
    have hb : ((y : Int) % 2 == 1) = false := by simp; omega
    have HE := zaa e
    clear e hS hD hodd
    go_wp2
    go_round
    case rel => exact ⟨k + 1, D, by omega, hSl, by go_num, rfl, HE⟩
    case measure => simp [intOf]; omega
  ·have e : y = F := by rw [← HK.out, show 8 - k = 0 by omega]; rfl
   have HE := zaa e
   clear e HK
   go_wp2
   go_ret
   exact ⟨zbf (by rw [HE.out]), rfl⟩
theorem sum_one (l : List Int) (h : Wf l) : sumN [l] = 4294967295 ^^^ cr 4294967295 (l.map Int.toNat) := by
 show 4294967295 ^^^ tk (l.map Int.toNat) 4294967295 = _
 rw [tk_eq _ _ (by omega) (nat_lt l h)]
theorem rSumOf_any (ao : Option Addr) (n cap : Nat) (l : List Int) (w : World) (hs : Sl w ao n cap l) :
  Calls Tryz.prog 121 #[.slice ao n cap] w fun e w' => e = .returned (.int .u32 (sumN [l] : Nat)) ∧ w' = w := by
 have HS := zaa hs
 have HW := zaa hs.wf
 have hlen := hs.hlen
 have hroom := hs.hroom
 have hE : sumN [l] = cr 4294967295 (l.map Int.toNat) ^^^ 4294967295 := by rw [sum_one l hs.wf, Nat.xor_comm]
 rw [hE]
 clear hE hs
 generalize hF : cr 4294967295 (l.map Int.toNat) = F
 have HF := zaa hF
 clear hF
 go_enter Tryz.func121, Tryz.ntmps121
 go_wp2_with fail
 go_loop [3, 4] (fun v i => ∃ k y : Nat, k ≤ n ∧ y < 4294967296 ∧ i = .int .i64 k ∧ v = .int .u32 y ∧ Hid (cr y ((l.drop k).map Int.toNat) = F)) (fun _ i => n - (intOf i).toNat)
 case atStart => exact ⟨0, 4294967295, by omega, by omega, rfl, rfl, HF⟩
 case round =>
  clear HF
  obtain ⟨k, y, hk, hy, rfl, rfl, HK⟩ := hrel
  by_cases hkn : k < n
  ·rcases HS.out.hat with h | ⟨b', off', rfl, hbb', hc'⟩
   ·omega
   have hcj := hc' k hkn
   have hby := HW.out.getD k
   have ej := HK.out
   rw [zbs l k (by omega)] at ej
   obtain ⟨C, hC⟩ := Int.eq_ofNat_of_zero_le hby.1
   rw [hC] at hcj hby ej
   have HEJ : Hid (cr (Sn 8 (y ^^^ C)) ((l.drop (k + 1)).map Int.toNat) = F) := ej
   have hst := step_any y C w hy (by omega)
   have hzl := Sn_lt 8 (zak hy (show C < 4294967296 by omega))
   generalize Sn 8 (y ^^^ C) = Z at *
   have HST := zaa hst
   clear hc' ej HK hC hst hlen
   go_wp2_with fail
   refine zae HST.out ?_
   go_wp2
   go_round
   case rel => exact ⟨k + 1, Z, by omega, hzl, by go_num, rfl, HEJ⟩
   case measure => simp [intOf]; omega
  ·have e : y = F := by rw [← HK.out, List.drop_eq_nil_of_le (by omega)]; rfl
   have HE := zaa e
   have hx := u32_xor_nat y 4294967295 hy (by omega)
   have hx2 : bits .xor .u32 (y : Int) 4294967295 = ((y ^^^ 4294967295 : Nat) : Int) := hx
   have HX := zaa hx2
   clear e HK hx hx2
   go_wp2
   go_ret
   exact ⟨zbf (by rw [← HE.out]; exact HX.out), rfl⟩
theorem qbd_take1 (m : Nat) : ∀ (cs : List Cl) (f : Bool) (j : Nat) (c : Cl), cs[j]? = some c → qbd m f (cs.take (j + 1)) = qbd m f (cs.take j) ++ qB (if f = true ∧ j = 0 then 0 else m) c
 | [], f, j, c, h => by simp at h
 | d :: r, f, 0, c, h => by
  simp at h
  subst h
  simp [qbd]
 | d :: r, f, j + 1, c, h => by
  have ih := qbd_take1 m r false j c (by simpa using h)
  simp only [List.take_succ_cons, qbd]
  rw [ih]
  simp
theorem qst_take1 (m : Nat) : ∀ (cs : List Cl) (f : Bool) (b j : Nat) (c : Cl), cs[j]? = some c → qst m f b (cs.take (j + 1)) = qst m f b (cs.take j) ++ [b + (qbd m f (cs.take j)).length]
 | [], f, b, j, c, h => by simp at h
 | d :: r, f, b, 0, c, h => by simp [qst, qbd]
 | d :: r, f, b, j + 1, c, h => by
  have ih := qst_take1 m r false (b + (qB (if f then 0 else m) d).length) j c (by simpa using h)
  simp only [List.take_succ_cons, qst, qbd]
  rw [ih]
  simp [Nat.add_assoc]
theorem qbd_take_le (m : Nat) : ∀ (cs : List Cl) (f : Bool) (j : Nat), (qbd m f (cs.take j)).length ≤ (qbd m f cs).length
 | [], f, j => by simp
 | d :: r, f, 0 => by simp [qbd]
 | d :: r, f, j + 1 => by
  have ih := qbd_take_le m r false j
  simp only [List.take_succ_cons, qbd, zG]
  omega
theorem fixed_sl (n : Int) (x : Nat) (w : World) (h0 : 0 ≤ n) (hn : n < 18446744073709551616) (h1 : 1 ≤ x) (h2 : x ≤ 8) :
  Calls Tryz.prog 120 #[.int .u64 n, .int .i64 (x : Int)] w fun e w' => ∃ ao c, e = .returned (.slice ao x c) ∧ Hid (OwnB w' w.heap.size (.slice ao x c) (fB x n)) ∧ Hid (Sl w' ao x c (fB x n)) ∧ Hid (Below w.heap.size w w') := by
 refine (refFixed_yes n (x : Int) w h0 hn (by omega) (by omega)).mono ?_
 rintro e w' ⟨v, rfl, ho, hb⟩
 rw [Int.toNat_natCast] at ho
 obtain ⟨ao, cap, rfl, hs, _⟩ := ho.sl (fB_wf _ _) (by rw [zao]; omega)
 rw [zao] at hs ho ⊢
 exact ⟨ao, cap, rfl, zaa ho, zaa hs, zaa hb⟩
theorem fixed_2 (n : Int) (w : World) (h0 : 0 ≤ n) (hn : n < 18446744073709551616) : Calls Tryz.prog 120 #[.int .u64 n, .int .i64 2] w fun e w' => ∃ ao c, e = .returned (.slice ao 2 c) ∧ Hid (OwnB w' w.heap.size (.slice ao 2 c) (fB 2 n)) ∧ Hid (Sl w' ao 2 c (fB 2 n)) ∧ Hid (Below w.heap.size w w') := fixed_sl n 2 w h0 hn (by omega) (by omega)
theorem fixed_4 (n : Int) (w : World) (h0 : 0 ≤ n) (hn : n < 18446744073709551616) : Calls Tryz.prog 120 #[.int .u64 n, .int .i64 4] w fun e w' => ∃ ao c, e = .returned (.slice ao 4 c) ∧ Hid (OwnB w' w.heap.size (.slice ao 4 c) (fB 4 n)) ∧ Hid (Sl w' ao 4 c (fB 4 n)) ∧ Hid (Below w.heap.size w w') := fixed_sl n 4 w h0 hn (by omega) (by omega)
def Apt (u v : Value) : Prop := u.ownBlock = none ∨ u.ownBlock ≠ v.ownBlock
theorem Apt.symm {u v : Value} (h : Apt u v) : Apt v u := by
 unfold Apt at *
 cases hv : v.ownBlock with
 | none => exact .inl rfl
 | some b =>
  right
  rcases h with h | h
  ·rw [h]; simp
  ·intro e; exact h (by rw [hv, e])
theorem Apt.gr {w w' : World} {B : Nat} {u v v' : Value} {l : List Int} (h : Apt u v) (hu : OwnB w B u l) (hg : Gr w v w' v') : Apt u v' := by
 unfold Apt at *
 rcases h with h | h
 ·exact .inl h
 ·cases hub : u.ownBlock with
  | none => exact .inl rfl
  | some b =>
   right
   have hlt : b < w.heap.size := (World.ownsRow.lt hu b hub).2
   rcases hg.own with e | ⟨k, e, hk⟩
   ·rw [e, ← hub]; exact h
   ·rw [e]; intro e2; injection e2 with e2; omega
theorem own_two8 (w : World) (x y : Int) : OwnB (w.alloc (.cells #[.int .u8 x, .int .u8 y] 5)) w.heap.size (.slice (some ⟨w.heap.size, 0, none⟩) 2 2) [x, y] :=
 zdj (l := [x, y]) (heap_alloc_last w _) Lr (by unfold maxLen; simp)
end Go.Proofs.YtfgffajgfgifhaaGreatDoor
