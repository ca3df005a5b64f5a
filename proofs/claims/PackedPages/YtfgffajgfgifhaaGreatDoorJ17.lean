import Derived.Test.YtfgffajgfgifhaaGreatDoorJ16
namespace Go.Proofs.YtfgffajgfgifhaaGreatDoor
set_option maxRecDepth 100000
set_option maxHeartbeats 2000000
open Go.RowKit
theorem zdn (w : World) (a : Nat) (k : Int) (n : Nat) (po : Option Addr) (pn pc : Nat) (bo : Option Addr) (bn bc : Nat) (so : Option Addr) (sn sc : Nat) (ws : Int) (P body : List Int) (st : List Nat) (cs : List Cl) (h : PgQ w a k n po pn pc bo bn bc so sn sc ws P body st) (hl : LayQ k P cs body st) (hsz : sn ≤ 65536) :
  Calls Tryz.prog 47 #[.pointer (some ⟨a, 0, none⟩)] w fun e w' => ∃ g, e = .returned (.slice (some ⟨g, 0, none⟩) sn sn) ∧ Hid (SlE w' g (some ⟨g, 0, none⟩) sn sn cs ∧ zah w' g sn) ∧ Hid (Below w.heap.size w w' ∧ w.heap.size ≤ g ∧ g < w'.heap.size) := by
 obtain ⟨ic, hic, hz0, hz1, hz2⟩ := info_parts infoE
 have HPG := zaa h
 have HL := zaa hl
 have HSN : Hid (sn = cs.length) := zaa (by rw [← hl.len, h.starts.hlen])
 have HLN := zaa (zba w a k n po pn pc bo bn bc so sn sc ws P body st h)
 clear h hl
 go_enter Tryz.func47, Tryz.ntmps47
 go_wp2_with (first
  | (go_at_call 26; refine zae HLN.out ?_)
  | (at_make; refine wpList_make_full _ rfl _ _ 75 rfl w.heap.size 78 ic _ 6 Tryz.underlying75 hic hz0 hz1 .i64 .i64 sn sn sn rfl rfl rfl rfl (by rw [hz2]; omega) (by unfold maxLen; omega) Lr ?_; refine Hid.out ?_))
 apply zaa
 intro w2 ho2 hg2
 have hb2 : Below w.heap.size w w2 := Br.grown hg2 Lr (fun k hk => by cases hk)
 obtain ⟨g, hg⟩ : ∃ g, w.heap.size = g := ⟨_, rfl⟩
 have HRW : Hid (zah w2 g sn) := by
  rcases ho2.2 with ⟨h, _⟩ | ⟨q, c, cur, h, _, hh, _, _, hss, _⟩
  ·cases h
  ·cases h
   rw [← hg]
   exact zaa ⟨cur, hh, by rw [hss]; omega⟩
 have hgs : Below g w w2 := by rw [← hg]; exact hb2
 have HGS := zaa hgs
 have HGW := zaa hg
 have HLO : Hid (Lo g po pn ∧ Lo g bo bn) := zaa (by rw [← hg]; exact ⟨HPG.out.pre.lo, HPG.out.body.lo⟩)
 rw [hg]
 clear ho2 hg2 hb2 HLN hgs
 go_wp2_with fail
 go_loopw [10] (fun i wr => ∃ j : Nat, j ≤ sn ∧ i = .int .i64 j ∧ Hid (zah wr g sn) ∧ Hid (Below g w wr) ∧ Hid (∀ i d, i < j → cs[i]? = some d → EAt wr g g (i * 6) d)) (fun i _ => sn - (intOf i).toNat)
 case atStart => exact ⟨0, by omega, rfl, HRW, HGS, zaa fun i d hi => by omega⟩
 case round =>
  obtain ⟨j, hj, rfl, HR, HG, HD⟩ := hrel
  have HBE : Hid (Below w.heap.size w wr) := zaa (by rw [HGW.out]; exact HG.out)
  have HPR := zaa (HPG.out.on HBE.out)
  have bj : (j : Int) ≤ 65536 := by omega
  clear HRW HGS
  by_cases hlt : j < sn
  ·have hltI : (j : Int) < (sn : Int) := by omega
   obtain ⟨d, hd⟩ : ∃ d, cs[j]? = some d := ⟨_, zI (by rw [← HSN.out]; exact hlt)⟩
   have HDJ := zaa hd
   have HV := zaa (pentry_any wr a k n po pn pc bo bn bc so sn sc ws P body st cs HPR.out HL.out j d hd g HLO.out.1 HLO.out.2)
   clear hd
   go_wp2_with (go_at_call 61; refine HV.out.mono ?_; rintro e u1 ⟨ho, hn, hc, ko, kn, kc, vo, vn, vc, h, key, rfl, HQ, HB3⟩; refine Hid.out ?_)
   apply zaa
   have HR2 : Hid (zah u1 g sn) := zaa (HR.out.on HB3.out)
   have HG2 : Hid (Below g w u1) := zaa (HG.out.trans (HB3.out.mono (Nat.le_of_lt HR.out.lt)))
   clear HV
   go_wp2_with (refine put_entry (by rfl) _ _ (by rfl) g (j * 6) sn ho ko vo hn hc kn kc vn vc d.kd d.pg d.ct HR2.out (by rfl) (by rfl) (by omega) ?_; intro u3 HU3; refine Hid.out ?_)
   apply zaa
   have HR3 : Hid (zah u3 g sn) := zaa (by rw [HU3.out]; exact zah.sets _ _ _ HR2.out)
   have HG3 : Hid (Below g w u3) := zaa (by
    rw [HU3.out]
    simp only [World.setCells]
    refine (((((HG2.out.setCell ?_ _).setCell ?_ _).setCell ?_ _).setCell ?_ _).setCell ?_ _).setCell ?_ _ <;> simp)
   have HD3 : Hid (∀ i d, i < j + 1 → cs[i]? = some d → EAt u3 g g (i * 6) d) := by
    refine zaa fun i d' hi hd' => ?_
    rw [HU3.out]
    by_cases e : i = j
    ·subst e
     rw [HDJ.out] at hd'
     injection hd' with hd'
     subst hd'
     obtain ⟨q1, q2, q3, q4, q5, q6, q7⟩ := HQ.out
     exact EAt.new HR2.out (by omega) Lr q1 q2 q3 q4 q5 q6 q7
    ·exact ((HD.out i d' (by omega) hd').on HR.out.lt HB3.out).put Lr (by omega)
   clear HU3 HR2 HG2 HR HG HD HQ HB3 HPR
   go_wp2
   go_roundw
   case rel => exact ⟨j + 1, by omega, by go_num, HR3, HG3, HD3⟩
   case measure => simp [intOf]; omega
  ·obtain rfl : j = sn := by omega
   have hlI : ¬ (j : Int) < (j : Int) := by omega
   go_wp2
   go_ret
   refine ⟨g, rfl, zaa ⟨⟨HSN.out.symm, Lr, by omega, (by intro h; cases h), .inr ⟨g, 0, rfl, HR.out.lt, fun i d hd => ?_⟩⟩, HR.out⟩, zaa ⟨by first | exact HBE.out | exact HG.out, by first | exact Lr | (rw [HGW.out]; exact Lr), HR.out.lt⟩⟩
   rw [Nat.zero_add]
   have := (zH.1 hd).1
   exact HD.out i d (by rw [HSN.out]; exact this) hd
def Row6 (w : World) (G : Nat) : List Value → List Cl → Prop
 | vs, [] => vs = []
 | vs, c :: r => ∃ ho hn hc ko kn kc vo vn vc h key t, vs = .slice ho hn hc :: .slice ko kn kc :: .int .i64 c.kd :: .slice vo vn vc :: .int .i64 c.pg :: .int .i64 c.ct :: t ∧ (Sl w ho hn hc h ∧ Sl w ko kn kc key ∧ Sl w vo vn vc c.val ∧ h ++ key = c.key ∧ Lo G ho hn ∧ Lo G ko kn ∧ Lo G vo vn) ∧ Row6 w G t r
theorem Row6.append {w : World} {G : Nat} {us : List Value} {ds : List Cl} (g : Row6 w G us ds) : ∀ {vs : List Value} {cs : List Cl}, Row6 w G vs cs → Row6 w G (vs ++ us) (cs ++ ds)
 | vs, [], h => by
  unfold Row6 at h
  subst h
  exact g
 | vs, c :: r, h => by
  obtain ⟨ho, hn, hc, ko, kn, kc, vo, vn, vc, h', key, t, rfl, h1, h2⟩ := h
  exact ⟨ho, hn, hc, ko, kn, kc, vo, vn, vc, h', key, t ++ us, rfl, h1, Row6.append g h2⟩
theorem Row6.len {w : World} {G : Nat} : ∀ {vs : List Value} {cs : List Cl}, Row6 w G vs cs → vs.length = cs.length * 6
 | vs, [], h => by
  unfold Row6 at h
  subst h
  rfl
 | vs, c :: r, h => by
  obtain ⟨ho, hn, hc, ko, kn, kc, vo, vn, vc, h', key, t, rfl, h1, h2⟩ := h
  have := h2.len
  simp only [List.length_cons]
  omega
theorem Row6.one {w : World} {G : Nat} : ∀ {vs : List Value} {cs : List Cl}, Row6 w G vs cs → ∀ u ∈ vs, u.oneCell' = true
 | vs, [], h, u, hu => by
  unfold Row6 at h
  subst h
  cases hu
 | vs, c :: r, h, u, hu => by
  obtain ⟨ho, hn, hc, ko, kn, kc, vo, vn, vc, h', key, t, rfl, h1, h2⟩ := h
  simp only [List.mem_cons] at hu
  rcases hu with rfl | rfl | rfl | rfl | rfl | rfl | hu
  ·rfl
  ·rfl
  ·rfl
  ·rfl
  ·rfl
  ·rfl
  ·exact h2.one u hu
theorem row6_of {w : World} {G b : Nat} : ∀ (cs : List Cl) (off : Nat), (∀ i c, cs[i]? = some c → EAt w G b (off + i * 6) c) → ∃ vs, Row6 w G vs cs ∧ ∀ j u, vs[j]? = some u → w.cell? ⟨b, off + j, none⟩ = some u
 | [], off, _ => ⟨[], rfl, fun j u hu => by simp at hu⟩
 | c :: r, off, h => by
  obtain ⟨t, h1, h2⟩ := row6_of r (off + 6) fun i d hd => by
   have := h (i + 1) d (by simpa using hd)
   rwa [show off + (i + 1) * 6 = off + 6 + i * 6 by omega] at this
  obtain ⟨ho, hn, hc, ko, kn, kc, vo, vn, vc, h', key, c0, c1, c2, c3, c4, c5, hs⟩ := h 0 c rfl
  refine ⟨_, ⟨ho, hn, hc, ko, kn, kc, vo, vn, vc, h', key, t, rfl, hs, h1⟩, fun j u hu => ?_⟩
  match j, hu with
  | 0, hu => simp at hu; subst hu; simpa using c0
  | 1, hu => simp at hu; subst hu; simpa using c1
  | 2, hu => simp at hu; subst hu; simpa using c2
  | 3, hu => simp at hu; subst hu; simpa using c3
  | 4, hu => simp at hu; subst hu; simpa using c4
  | 5, hu => simp at hu; subst hu; simpa using c5
  | j + 6, hu =>
   have := h2 j u (by simpa using hu)
   rwa [show off + 6 + j = off + (j + 6) by omega] at this
theorem Sl.lo_on {w w' : World} {ao : Option Addr} {n cap G : Nat} {l : List Int} (h : Sl w ao n cap l) (hl : Lo G ao n) (hb : Below G w w') : Sl w' ao n cap l := by
 refine ⟨h.hlen, h.hcap, h.hroom, h.wf, h.hnil, ?_⟩
 rcases h.hat with h0 | ⟨b, off, e, hlt, hc⟩
 ·exact .inl h0
 ·rcases hl with h0 | hl
  ·exact .inl h0
  ·have hq := hl _ e
   simp only at hq
   exact .inr ⟨b, off, e, zO hlt hb.size, fun i hi => (hb.cell (p := ⟨b, off + i, none⟩) hq).trans (hc i hi)⟩
theorem Row6.eat {w w' : World} {G b : Nat} (hB : Below G w w') : ∀ {vs : List Value} {cs : List Cl} (off : Nat), Row6 w G vs cs → (∀ j u, vs[j]? = some u → w'.cell? ⟨b, off + j, none⟩ = some u) → ∀ i c, cs[i]? = some c → EAt w' G b (off + i * 6) c
 | vs, [], off, h, hc, i, c, hi => by simp at hi
 | vs, d :: r, off, h, hc, 0, c, hi => by
  obtain ⟨ho, hn, hc', ko, kn, kc, vo, vn, vc, h', key, t, rfl, ⟨s1, s2, s3, s4, l1, l2, l3⟩, h2⟩ := h
  simp at hi
  subst hi
  exact ⟨ho, hn, hc', ko, kn, kc, vo, vn, vc, h', key, hc 0 _ rfl, hc 1 _ rfl, hc 2 _ rfl, hc 3 _ rfl, hc 4 _ rfl, hc 5 _ rfl, s1.lo_on l1 hB, s2.lo_on l2 hB, s3.lo_on l3 hB, s4, l1, l2, l3⟩
 | vs, d :: r, off, h, hc, i + 1, c, hi => by
  obtain ⟨ho, hn, hc', ko, kn, kc, vo, vn, vc, h', key, t, rfl, h1, h2⟩ := h
  have := Row6.eat hB (off + 6) h2 (fun j u hu => by
   have := hc (j + 6) u (by simpa using hu)
   rwa [show off + (j + 6) = off + 6 + j by omega] at this) i c (by simpa using hi)
  rwa [show off + 6 + i * 6 = off + (i + 1) * 6 by omega] at this
theorem zah.owns {w : World} {g N : Nat} {vs : List Value} (h : zah w g N) (hl : vs.length = N * 6) (hc : ∀ j u, vs[j]? = some u → w.cell? ⟨g, 0 + j, none⟩ = some u) (hN : N ≤ 65536) : w.ownsRow g 78 6 (.slice (some ⟨g, 0, none⟩) N N) N vs := by
 obtain ⟨cur, h1, h2⟩ := h
 refine ⟨hl, .inr ⟨g, N, cur, rfl, Lr, h1, Lr, by unfold maxLen; omega, by omega, ?_⟩⟩
 refine List.ext_getElem? fun j => ?_
 rcases Nat.lt_or_ge j (N * 6) with hj | hj
 ·have hv : vs[j]? = some (vs[j]'(by omega)) := zI (by omega)
  have := hc j _ hv
  rw [Nat.zero_add, cell_of_row _ _ _ _ _ _ h1] at this
  rw [List.getElem?_take_of_lt hj, hv, ← this]
  simp
 ·rw [List.getElem?_eq_none (by rw [zJ]; omega), List.getElem?_eq_none (by omega)]
theorem insE_any (u : World) (g sn : Nat) (cs : List Cl) (c : Cl) (hE : SlE u g (some ⟨g, 0, none⟩) sn sn cs) (hR : zah u g sn) (hsn : sn ≤ 65535) (b : Nat) (ka va : Option Addr) (kc vc : Nat) (hb : E6 u b (.slice none 0 0) (.slice ka c.key.length kc) (.int .i64 c.kd) (.slice va c.val.length vc) (.int .i64 c.pg) (.int .i64 c.ct)) (hk : Sl u ka c.key.length kc c.key) (hv : Sl u va c.val.length vc c.val) (lk : Lo g ka c.key.length) (lv : Lo g va c.val.length) :
  Calls Tryz.prog 125 #[.slice (some ⟨g, 0, none⟩) sn sn, .int .i64 (sn : Int), .slice (some ⟨b, 0, none⟩) 1 1] u fun e w' => ∃ ao c', e = .returned (.slice ao (sn + 1) c') ∧ Hid (SlE w' g ao (sn + 1) c' (cs ++ [c])) ∧ Hid (Below g u w') := by
 obtain ⟨ic, hic, hz0, hz1, hz2⟩ := info_parts infoE
 have hlen := hE.hlen
 obtain ⟨vs, hvs, hcv⟩ := row6_of (w := u) (G := g) (b := g) cs 0 (by
  intro i d hd
  rcases hE.hat with h0 | ⟨b', off', e, _, hc⟩
  ·have := (zH.1 hd).1
   omega
  ·injection e with e
   injection e with e1 e2
   subst e1 e2
   exact hc i d hd)
 have hown := hR.owns (vs := vs) (by rw [hvs.len, hlen]) hcv (by omega)
 obtain ⟨us, hus, hcu⟩ : ∃ us, Row6 u g us [c] ∧ ∀ j x, us[j]? = some x → u.cell? ⟨b, 0 + j, none⟩ = some x := row6_of [c] 0 (by
  intro i d hd
  have hi : i = 0 := by have := (zH.1 hd).1; simpa using this
  subst hi
  simp at hd
  subst hd
  obtain ⟨e0, e1, e2, e3, e4, e5⟩ := hb.cells
  exact ⟨none, 0, 0, ka, c.key.length, kc, va, c.val.length, vc, [], c.key, e0, e1, e2, e3, e4, e5, Sl.nil_any _ _ _ (fun _ => rfl), hk, hv, rfl, .inl rfl, lk, lv⟩)
 have HOWN := zaa hown
 have HUS := zaa hus
 have HVS := zaa hvs
 have HCU := zaa hcu
 have HLEN := zaa hlen
 have hgs := hR.lt
 have bs : (sn : Int) ≤ 65535 := by omega
 clear hE hR hb hk hv lk lv hvs hcv hown hus hcu hlen
 go_enter Tryz.func125, Tryz.ntmps125
 go_wp2_with (at_builtin; refine wpList_append_own_at u rfl _ _ 75 rfl g 78 ic _ 6 96 Tryz.underlying75 hic hz0 hz1 hz2 rfl (by decide) _ sn vs rfl HOWN.out ⟨b, 0, none⟩ 1 1 us rfl (by rw [HUS.out.len]; rfl) (fun j x hx => by rw [Addr.add_lit]; exact HCU.out j x hx) HUS.out.one (by unfold maxLen; omega) (by omega) (Nat.le_of_lt hgs) ?_; refine Hid.out ?_)
 apply zaa
 intro v' w' g1 g2 _ _
 have hbe : Below g u w' := zcn HOWN.out (Nat.le_of_lt hgs) g2
 have hrow := HUS.out.append HVS.out
 obtain ⟨ao, c', rfl, hsl⟩ : ∃ ao c', v' = .slice ao (sn + 1) c' ∧ SlE w' g ao (sn + 1) c' (cs ++ [c]) := by
  rcases g1.2 with ⟨_, h0⟩ | ⟨q, c', cur, rfl, hq, hh, hn, _⟩
  ·omega
  ·refine ⟨_, c', rfl, ⟨by rw [zG, HLEN.out]; rfl, hn, by omega, (by intro h; cases h), .inr ⟨q, 0, rfl, zag hh, ?_⟩⟩⟩
   refine Row6.eat hbe 0 hrow fun j x hx => ?_
   have hj := (zH.1 hx).1
   have := g1.cellAt j (by rw [hrow.len] at hj; rw [zG, HLEN.out] at hj; simpa using hj)
   rw [Nat.zero_add, this, hx]
 have HSL := zaa hsl
 have HBE := zaa hbe
 clear g1 g2 hbe hrow hsl
 go_wp2
 go_ret
 exact ⟨ao, c', rfl, HSL, HBE⟩
theorem repE_any (u : World) (g sn : Nat) (cs : List Cl) (c : Cl) (hE : SlE u g (some ⟨g, 0, none⟩) sn sn cs) (hR : zah u g sn) (hsn : sn ≤ 65535) (b : Nat) (ka va : Option Addr) (kc vc : Nat) (hb : E6 u b (.slice none 0 0) (.slice ka c.key.length kc) (.int .i64 c.kd) (.slice va c.val.length vc) (.int .i64 c.pg) (.int .i64 c.ct)) (hk : Sl u ka c.key.length kc c.key) (hv : Sl u va c.val.length vc c.val) (lk : Lo g ka c.key.length) (lv : Lo g va c.val.length) :
  Calls Tryz.prog 89 #[.slice (some ⟨g, 0, none⟩) sn sn, .int .i64 (sn : Int), .int .i64 (sn : Int), .slice (some ⟨b, 0, none⟩) 1 1] u fun e w' => ∃ ao c', e = .returned (.slice ao (sn + 1) c') ∧ Hid (SlE w' g ao (sn + 1) c' (cs ++ [c])) ∧ Hid (Below g u w') := by
 have HI := zaa (insE_any u g sn cs c hE hR hsn b ka va kc vc hb hk hv lk lv)
 clear hE hR hb hk hv lk lv
 go_enter Tryz.func89, Tryz.ntmps89
 go_wp2_with (go_at_call 125; refine HI.out.mono ?_; rintro e w1 ⟨ao, c', rfl, HS, HB⟩)
 go_ret
 exact ⟨ao, c', rfl, HS, HB⟩
theorem zda (w : World) (a : Nat) (k n : Int) (po : Option Addr) (pn pc : Nat) (bo : Option Addr) (bn bc : Nat) (so : Option Addr) (sn sc : Nat) (ws : Int) (h : QR w a k n (.slice po pn pc) (.slice bo bn bc) (.slice so sn sc) ws) (h1 : pn ≤ 1099511627776) (h2 : bn ≤ 1099511627776) (h3 : sn ≤ 1099511627776) :
  Calls Tryz.prog 53 #[.pointer (some ⟨a, 0, none⟩)] w fun e w' => e = .returned (.int .i64 ((10 + pn + 2 * sn + bn : Nat) : Int)) ∧ ∃ q, w' = w.drewN q := by
 obtain ⟨c0, c1, c2, c3, c4, c5⟩ := h.cells
 have b1 : (pn : Int) ≤ 1099511627776 := by omega
 have b2 : (bn : Int) ≤ 1099511627776 := by omega
 have b3 : (sn : Int) ≤ 1099511627776 := by omega
 clear h
 go_enter Tryz.func53, Tryz.ntmps53
 go_wp2_with fail
 go_quiet (fail)
 go_wp2
 go_ret
 refine ⟨zbf ?_, _, rfl⟩
 omega
theorem usedQ_any (w : World) (a : Nat) (k n : Int) (po : Option Addr) (pn pc : Nat) (bo : Option Addr) (bn bc : Nat) (so : Option Addr) (sn sc : Nat) (h : QR w a k n (.slice po pn pc) (.slice bo bn bc) (.slice so sn sc) 0) (h1 : pn ≤ 1099511627776) (h2 : bn ≤ 1099511627776) (h3 : sn ≤ 1099511627776) (Z : Nat) (hZ : 10 + pn + 2 * sn + bn = Z) :
  Calls Tryz.prog 17 #[.pointer (some ⟨a, 0, none⟩)] w fun e w' => e = .returned (.int .i64 (Z : Int)) ∧ Hid (Below w.heap.size w w') := by
 obtain ⟨c0, c1, c2, c3, c4, c5⟩ := h.cells
 have HF : Hid (∀ u, Below w.heap.size w u → Calls Tryz.prog 53 #[.pointer (some ⟨a, 0, none⟩)] u fun e w' => e = .returned (.int .i64 (Z : Int)) ∧ w'.cell? ⟨a, 5, none⟩ = some (.int .i64 0) ∧ Hid (Below w.heap.size w w')) := by
  refine zaa fun u hu => (zda u a k n po pn pc bo bn bc so sn sc 0 (zaf h hu) h1 h2 h3).mono ?_
  rintro e w' ⟨rfl, q, rfl⟩
  have hb := zad hu q
  exact ⟨by rw [hZ], (show QR _ a k n (.slice po pn pc) (.slice bo bn bc) (.slice so sn sc) 0 from zaf h hb).cells.2.2.2.2.2, zaa hb⟩
 have bZ : (Z : Int) ≤ 8796093022208 := by omega
 have hwZ : IntKind.i64.wrap (Z : Int) = (Z : Int) := by rw [IntKind.wrap_i64]; omega
 have hwZ0 : IntKind.i64.wrap ((Z : Int) - 0) = (Z : Int) := by rw [IntKind.wrap_i64]; omega
 clear h hZ
 go_enter Tryz.func17, Tryz.ntmps17
 go_wp2_with fail
 go_region_with (first | (go_at_call 53; refine (HF.out _ (by first | exact Br | exact Br.drew | exact zad Br _)).mono ?_; rintro e w1 ⟨rfl, x5, HB1⟩))
 all_goals
  go_wp2
  go_ret
  exact ⟨rfl, zaa (by first | exact HB1.out | exact HB1.out.drew | exact zad HB1.out _)⟩
theorem zcs (ao bo : Option Addr) (n m c d : Nat) (la lb : List Int) (w : World) (ha : Sl w ao n c la) (hb : Sl w bo m d lb) :
  Calls Tryz.prog 123 #[.slice ao n c, .slice bo m d] w fun e w' => e = .returned (.bool (decide (la.take lb.length = lb))) ∧ w' = w := by
 have h1 := ha.hlen
 have h2 := hb.hlen
 have h3 := ha.hcap
 by_cases hle : m ≤ n
 ·have HE := zaa (equal7 ao bo m m c d (la.take m) lb w (ha.take m hle) hb)
  have hmI : (m : Int) ≤ (n : Int) := by omega
  have hmc : m ≤ c := by omega
  have hmcI : (m : Int) ≤ (c : Int) := by omega
  rw [h2]
  generalize decide (la.take m = lb) = bb at *
  clear ha hb
  go_enter Tryz.func123, Tryz.ntmps123
  go_wp2_with (go_at_call 57; refine zae HE.out ?_)
  go_ret
  exact ⟨rfl, rfl⟩
 ·have hmI : ¬ (m : Int) ≤ (n : Int) := by omega
  have hd : decide (la.take lb.length = lb) = false := decide_eq_false (by
   intro h
   have := congrArg List.length h
   rw [zJ] at this
   omega)
  rw [hd]
  clear ha hb
  go_enter Tryz.func123, Tryz.ntmps123
  go_wp2
  go_ret
  exact ⟨rfl, rfl⟩
theorem cut_row (ao bo : Option Addr) (n m c d : Nat) (la lb : List Int) (w : World) (ha : Sl w ao n c la) (hb : Sl w bo m d lb) : ∃ (ro : Option Addr) (rn rc : Nat) (b : Bool), b = decide (la.take lb.length = lb) ∧ Sl w ro rn rc (if b then la.drop lb.length else la) ∧
  ∀ u, Below w.heap.size w u → Calls Tryz.prog 109 #[.slice ao n c, .slice bo m d] u fun e w' => e = .returned (.tuple #[.slice ro rn rc, .bool b]) ∧ w' = u := by
 have h1 := ha.hlen
 have h2 := hb.hlen
 have h3 := ha.hcap
 have HP := zaa (fun u (hu : Below w.heap.size w u) => zcs ao bo n m c d la lb u (ha.on Lr hu) (hb.on Lr hu))
 cases hd : decide (la.take lb.length = lb) with
 | false =>
  rw [hd] at HP
  refine ⟨ao, n, c, false, rfl, by simpa using ha, fun u hu => ?_⟩
  have HQ := zaa (HP.out u hu)
  clear ha hb HP hu
  go_enter Tryz.func109, Tryz.ntmps109
  go_wp2_with (go_at_call 123; refine zae HQ.out ?_)
  go_ret2
  exact ⟨rfl, rfl⟩
 | true =>
  rw [hd] at HP
  have hmn : m ≤ n := by
   have := congrArg List.length (show la.take lb.length = lb by simpa using hd)
   rw [zJ] at this
   omega
  have hmc : m ≤ c := by omega
  have hmcI : (m : Int) ≤ (c : Int) := by omega
  have hmnI : (m : Int) ≤ (n : Int) := by omega
  rw [h2]
  rcases sl_from ha m hmn with ⟨rfl, rfl, rfl⟩ | ⟨a, rfl, ⟨hcn, hs⟩ | ⟨hcn, hs⟩⟩
  ·obtain rfl : m = 0 := by omega
   refine ⟨none, 0, 0, true, rfl, by simpa using ha, fun u hu => ?_⟩
   have HQ := zaa (HP.out u hu)
   clear ha hb HP hu
   go_enter Tryz.func109, Tryz.ntmps109
   go_wp2_with (go_at_call 123; refine zae HQ.out ?_)
   go_ret2
   exact ⟨rfl, rfl⟩
  ·subst hcn
   obtain rfl : n = c := by omega
   refine ⟨some a, n - n, n - n, true, rfl, by simpa using hs, fun u hu => ?_⟩
   have HQ := zaa (HP.out u hu)
   clear ha hb HP hu hs
   go_enter Tryz.func109, Tryz.ntmps109
   go_wp2_with (go_at_call 123; refine zae HQ.out ?_)
   go_ret2
   exact ⟨by simp, rfl⟩
  ·have hcn2 : c - m ≠ 0 := by omega
   have hcn3 : m < c := by omega
   have hcn4 : (m : Int) < (c : Int) := by omega
   refine ⟨some (a.add m), n - m, c - m, true, rfl, by simpa using hs, fun u hu => ?_⟩
   have HQ := zaa (HP.out u hu)
   clear ha hb HP hu hs
   go_enter Tryz.func109, Tryz.ntmps109
   go_wp2_with (go_at_call 123; refine zae HQ.out ?_)
   go_ret2
   exact ⟨by simp, rfl⟩
theorem ordQ_app (P a b : List Int) : ordL (P ++ a) (P ++ b) = ordL a b := by
 induction P with
 | nil => rfl
 | cons x P ih => simp [ordL, ih]
theorem ordQ_pre : ∀ (P r q : List Int), q.take P.length ≠ P → ordL (P ++ r) q = ordL P q
 | [], r, q, h => absurd (by simp) h
 | x :: P, r, [], h => by simp [ordL]
 | x :: P, r, y :: q, h => by
  have ih := ordQ_pre P r q
  simp only [List.cons_append, ordL]
  by_cases h1 : x < y
  ·rw [if_pos h1, if_pos h1]
  ·rw [if_neg h1, if_neg h1]
   by_cases h2 : y < x
   ·rw [if_pos h2, if_pos h2]
   ·rw [if_neg h2, if_neg h2]
    obtain rfl : x = y := by omega
    exact ih fun e => h (by simp [e])
theorem prest_any (w : World) (a : Nat) (k : Int) (n : Nat) (po : Option Addr) (pn pc : Nat) (bo : Option Addr) (bn bc : Nat) (so : Option Addr) (sn sc : Nat) (ws : Int) (P body : List Int) (st : List Nat) (cs : List Cl) (h : PgQ w a k n po pn pc bo bn bc so sn sc ws P body st) (hl : LayQ k P cs body st) (i : Nat) (c : Cl) (hci : cs[i]? = some c) (hbn : bn ≤ 1099511627776) :
  Calls Tryz.prog 111 #[.pointer (some ⟨a, 0, none⟩), .int .i64 (i : Int)] w fun e w' => ∃ ko kn kc, e = .returned (.slice ko kn kc) ∧ Hid (Sl w' ko kn kc (c.key.drop (if k = 3 ∧ i = 0 then 0 else P.length))) ∧ Hid (Below w.heap.size w w') := by
 obtain ⟨c0, c1, c2, c3, c4, c5⟩ := h.cells
 have hcf := hl.fit c (List.mem_of_getElem? hci)
 obtain ⟨r, hat⟩ := hl.at_ i c hci
 have hil : i < sn := by
  have := (zH.1 hci).1
  have := hl.len
  have := h.starts.hlen
  omega
 generalize (if k = 3 ∧ i = 0 then 0 else P.length) = m at *
 have hlen : (st.getD i 0) < bn := by
  have h1 := congrArg List.length hat
  rw [zK, zG, h.body.hlen] at h1
  have := qB_pos m c
  omega
 obtain ⟨s0, hst⟩ : ∃ s0, st.getD i 0 = s0 := ⟨_, rfl⟩
 rw [hst] at hat hlen
 obtain ⟨s1, hs1⟩ : ∃ s1, s0 + 1 = s1 := ⟨_, rfl⟩
 have hsI : (s0 : Int) + 1 = (s1 : Int) := by omega
 have hpt : ∃ r', pT (body.drop s1) = some (c.key.drop m, r') := by
  rw [← hs1, ← List.drop_drop, hat]
  unfold qB
  simp only [List.cons_append, List.nil_append, List.drop_succ_cons, List.drop_zero, zM]
  have := hcf.key
  have h3 := pT_mid (c.key.drop m) ((if c.kd = 1 then uB (c.val.length : Int) ++ c.val else uB (c.pg % 18446744073709551616) ++ uB (c.ct % 18446744073709551616)) ++ r) (by rw [zK]; omega)
  rw [zK] at h3
  exact ⟨_, h3⟩
 obtain ⟨r', hpt⟩ := hpt
 obtain ⟨gb, off, rfl⟩ : ∃ gb off, bo = some ⟨gb, off, none⟩ := by
  rcases h.body.hat with h0 | ⟨b, off, e, _⟩
  ·omega
  ·exact ⟨b, off, e⟩
 obtain ⟨gs, offs, rfl, hgs, hcs⟩ : ∃ b off, so = some ⟨b, off, none⟩ ∧ b < w.heap.size ∧ ∀ j, j < sn → w.cell? ⟨b, off + j, none⟩ = some (.int .i64 ((st.getD j 0 : Nat) : Int)) := by
  rcases h.starts.hat with h0 | h0
  ·omega
  ·exact h0
 have cj := hcs i hil
 rw [hst] at cj
 have HPT := zaa hpt
 have HSL := zaa h.body
 have i0 : (i : Int) < (sn : Int) := by omega
 have i1 : i < sn := hil
 have hs1b : s1 ≤ bn := by omega
 have hs0I : (s0 : Int) ≤ 1099511627776 := by omega
 have hs1I : (s1 : Int) ≤ 1099511627776 := by omega
 have hbx : ∀ o, Below w.heap.size w (w.alloc o) := fun o => zac Br Lr _
 have HBX := zaa hbx
 have d2 := fun o => (h.on (hbx o)).cells.2.2.2.1
 have d3 := fun o => (h.on (hbx o)).cells.2.2.2.2.1
 have dj := fun o => ((hbx o).cell (p := ⟨gs, offs + i, none⟩) hgs).trans cj
 have HW : Hid (IntKind.i64.wrap (s1 : Int) = (s1 : Int)) := zaa (by rw [IntKind.wrap_i64]; omega)
 clear h hpt hcs hcf hbx hci hl hat hst hs1
 go_enter Tryz.func111, Tryz.ntmps111
 go_wp2_with fail
 go_region
 obtain ⟨g4, hg4⟩ : ∃ g4, w.heap.size = g4 := ⟨_, rfl⟩
 obtain ⟨x, hx⟩ : ∃ x, (w.alloc (.cells #[.slice (some ⟨gb, off, none⟩) bn bc, .int .i64 (s1 : Int), .bool false] 104)).drew = x := ⟨_, rfl⟩
 have hbx : Below w.heap.size w x := by rw [← hx]; exact (HBX.out _).drew
 have HRD : Hid (Rdq x g4 (some ⟨gb, off, none⟩) bn bc s1 false) := by
  rw [← hx, ← hg4]
  exact zaa (heap_alloc_last w _)
 have HTX := zaa (utext_any body x g4 gb off bn bc s1 false HRD.out (HSL.out.on Lr hbx) hs1b)
 have HBX2 := zaa hbx
 have HG4 := zaa hg4
 try simp only [hsI, HW.out]
 try rw [hx, hg4]
 clear hx hbx c0 c1 c2 c3 c4 c5 cj d2 d3 dj hg4
 go_wp2_with (go_at_call 130; refine HTX.out.mono ?_; rintro e w2 ⟨ko, kn, kc, p, en', t, rfl, HR2, HCF, HQ⟩)
 go_ret
 obtain ⟨q1, _, _, q4⟩ := HQ.out
 rw [HPT.out] at q4
 rcases q4 with ⟨q4, _⟩ | ⟨q4, _⟩
 ·injection q4 with q4
  injection q4 with q4 _
  subst q4
  exact ⟨ko, kn, kc, rfl, zaa q1, zaa (HBX2.out.trans (HCF.out.below HBX2.out.size (by have := HG4.out; intro i hi e; omega)))⟩
 ·cases q4
structure Ag (w : World) (a b1 b2 b3 b4 : Nat) (qo : Option Addr) (qn qc : Nat) (ro : Option Addr) (rn rc : Nat) (b : Bool) (P q : List Int) : Prop where
 c1 : w.cell? ⟨b1, 0, none⟩ = some (.pointer (some ⟨a, 0, none⟩))
 c2 : w.cell? ⟨b2, 0, none⟩ = some (.slice qo qn qc)
 c3 : w.cell? ⟨b3, 0, none⟩ = some (.bool b)
 c4 : w.cell? ⟨b4, 0, none⟩ = some (.slice ro rn rc)
 l1 : b1 < w.heap.size
 l2 : b2 < w.heap.size
 l3 : b3 < w.heap.size
 l4 : b4 < w.heap.size
 hq : Sl w qo qn qc q
 hr : Sl w ro rn rc (if b then q.drop P.length else q)
 hb : b = decide (q.take P.length = P)
theorem Ag.go {w v : World} {a b1 b2 b3 b4 : Nat} {qo : Option Addr} {qn qc : Nat} {ro : Option Addr} {rn rc : Nat} {b : Bool} {P q : List Int} (h : Ag w a b1 b2 b3 b4 qo qn qc ro rn rc b P q) (hb : Below w.heap.size w v) : Ag v a b1 b2 b3 b4 qo qn qc ro rn rc b P q :=
 ⟨(hb.cell (p := ⟨b1, 0, none⟩) h.l1).trans h.c1, (hb.cell (p := ⟨b2, 0, none⟩) h.l2).trans h.c2, (hb.cell (p := ⟨b3, 0, none⟩) h.l3).trans h.c3, (hb.cell (p := ⟨b4, 0, none⟩) h.l4).trans h.c4, zO h.l1 hb.size, zO h.l2 hb.size, zO h.l3 hb.size, zO h.l4 hb.size, h.hq.on Lr hb, h.hr.on Lr hb, h.hb⟩
theorem zdo (w : World) (a : Nat) (k : Int) (n : Nat) (po : Option Addr) (pn pc : Nat) (bo : Option Addr) (bn bc : Nat) (so : Option Addr) (sn sc : Nat) (ws : Int) (P body : List Int) (st : List Nat) (cs : List Cl) (h : PgQ w a k n po pn pc bo bn bc so sn sc ws P body st) (hl : LayQ k P cs body st) (i : Nat) (c : Cl) (hci : cs[i]? = some c) (hbn : bn ≤ 1099511627776)
  (b1 b2 b3 b4 : Nat) (qo : Option Addr) (qn qc : Nat) (ro : Option Addr) (rn rc : Nat) (b : Bool) (q : List Int) (hA : Ag w a b1 b2 b3 b4 qo qn qc ro rn rc b P q) :
  Calls Tryz.prog 110 #[.int .i64 (i : Int), .pointer (some ⟨b1, 0, none⟩), .pointer (some ⟨b2, 0, none⟩), .pointer (some ⟨b3, 0, none⟩), .pointer (some ⟨b4, 0, none⟩)] w fun e w' => e = .returned (.int .i64 (ordL c.key q)) ∧ Hid (Below w.heap.size w w') := by
 obtain ⟨p0, p1, p2, p3, p4, p5⟩ := h.cells
 have HA := zaa hA
 have HR : Hid (∀ u, Below w.heap.size w u → Calls Tryz.prog 111 #[.pointer (some ⟨a, 0, none⟩), .int .i64 (i : Int)] u fun e w' => ∃ ko kn kc, e = .returned (.slice ko kn kc) ∧ (w'.cell? ⟨b2, 0, none⟩ = some (.slice qo qn qc) ∧ w'.cell? ⟨b4, 0, none⟩ = some (.slice ro rn rc)) ∧ Hid (Sl w' ko kn kc (c.key.drop (if k = 3 ∧ i = 0 then 0 else P.length)) ∧ Below w.heap.size w w')) := by
  refine zaa fun u hu => (prest_any u a k n po pn pc bo bn bc so sn sc ws P body st cs (h.on hu) hl i c hci hbn).mono ?_
  rintro e w' ⟨ko, kn, kc, rfl, HS, HB⟩
  have hb := zab hu Lr HB.out
  have ha := HA.out.go hb
  exact ⟨ko, kn, kc, rfl, ⟨ha.c2, ha.c4⟩, zaa ⟨HS.out, hb⟩⟩
 have HBEG : Hid (¬ (k = 3 ∧ i = 0) → c.key.take P.length = P) := zaa fun hc => hl.beg c (zaw hci hc)
 have HPR := zaa h.pre
 obtain ⟨c1, c2, c3, c4, l1, l2, l3, l4, hq, hr, hb⟩ := hA
 have HB0 := zaa hb
 by_cases hk : k = 3 ∧ i = 0
 ·have HSW : Hid (∀ u, Calls Tryz.prog 44 #[.int .i64 k, .int .i64 (i : Int)] u fun e w' => e = .returned (.bool true) ∧ w' = u) := zaa (fun u => by
   have := zay k (i : Int) u
   rwa [decide_eq_true (show k = 3 ∧ (i : Int) = 0 by omega)] at this)
  rw [if_pos hk] at HR
  have HC : Hid (∀ u ko kn kc, Hid (Sl u ko kn kc (c.key.drop 0) ∧ Below w.heap.size w u) → Calls Tryz.prog 106 #[.slice ko kn kc, .slice qo qn qc] u fun e w' => e = .returned (.int .i64 (ordL c.key q)) ∧ w' = u) := zaa fun u ko kn kc hu => by
   have := zdl ko qo kn qn kc qc _ q u hu.out.1 (HA.out.hq.on Lr hu.out.2)
   simpa using this
  clear h hl hk hb hq hr hci
  go_enter Tryz.func110, Tryz.ntmps110
  go_wp2_with (go_at_call 44; refine zae (HSW.out _) ?_)
  go_region_with (first
   | (go_at_call 106; refine zae (HC.out _ _ _ _ (by first | exact HS1 | exact zaa ⟨HS1.out.1.on Lr Br.drew, HS1.out.2.drew⟩ | exact zaa ⟨HS1.out.1.drewN _, zad HS1.out.2 _⟩)) ?_)
   | (go_at_call 111; refine (HR.out _ (by first | exact Br | exact Br.drew | exact zad Br _)).mono ?_; rintro e u1 ⟨ko, kn, kc, rfl, ⟨x2, x4⟩, HS1⟩))
  all_goals
   go_wp2
   go_ret
   exact ⟨rfl, zaa (by first | exact HS1.out.2 | exact HS1.out.2.drew | exact zad HS1.out.2 _)⟩
 ·have HSW : Hid (∀ u, Calls Tryz.prog 44 #[.int .i64 k, .int .i64 (i : Int)] u fun e w' => e = .returned (.bool false) ∧ w' = u) := zaa (fun u => by
   have := zay k (i : Int) u
   rwa [decide_eq_false (show ¬ (k = 3 ∧ (i : Int) = 0) by omega)] at this)
  have hbeg := HBEG.out hk
  rw [if_neg hk] at HR
  cases b with
  | true =>
   have HC : Hid (∀ u ko kn kc, Hid (Sl u ko kn kc (c.key.drop P.length) ∧ Below w.heap.size w u) → Calls Tryz.prog 106 #[.slice ko kn kc, .slice ro rn rc] u fun e w' => e = .returned (.int .i64 (ordL c.key q)) ∧ w' = u) := zaa fun u ko kn kc hu => by
    have h3 := HA.out.hr.on Lr hu.out.2
    rw [if_pos rfl] at h3
    have := zdl ko ro kn rn kc rc _ _ u hu.out.1 h3
    have e1 : c.key = P ++ c.key.drop P.length := by
     conv => lhs; rw [← List.take_append_drop P.length c.key, hbeg]
    have e2 : q = P ++ q.drop P.length := by
     conv => lhs; rw [← List.take_append_drop P.length q, show q.take P.length = P from by simpa using HB0.out.symm]
    have e3 : ordL c.key q = ordL (c.key.drop P.length) (q.drop P.length) := by
     conv => lhs; rw [e1, e2]
     exact ordQ_app _ _ _
    rw [e3]
    exact this
   clear h hl hk hb hq hr hci hbeg
   go_enter Tryz.func110, Tryz.ntmps110
   go_wp2_with (go_at_call 44; refine zae (HSW.out _) ?_)
   go_region_with (first
    | (go_at_call 106; refine zae (HC.out _ _ _ _ (by first | exact HS1 | exact zaa ⟨HS1.out.1.on Lr Br.drew, HS1.out.2.drew⟩ | exact zaa ⟨HS1.out.1.drewN _, zad HS1.out.2 _⟩)) ?_)
    | (go_at_call 111; refine (HR.out _ (by first | exact Br | exact Br.drew | exact zad Br _)).mono ?_; rintro e u1 ⟨ko, kn, kc, rfl, ⟨x2, x4⟩, HS1⟩))
   all_goals
    go_wp2
    go_ret
    exact ⟨rfl, zaa (by first | exact HS1.out.2 | exact HS1.out.2.drew | exact zad HS1.out.2 _)⟩
  | false =>
   have HC : Hid (∀ u, Below w.heap.size w u → Calls Tryz.prog 106 #[.slice po pn pc, .slice qo qn qc] u fun e w' => e = .returned (.int .i64 (ordL c.key q)) ∧ w' = u) := zaa fun u hu => by
    have := zdl po qo pn qn pc qc P q u (HPR.out.on Lr hu) (HA.out.hq.on Lr hu)
    have e1 : c.key = P ++ c.key.drop P.length := by
     conv => lhs; rw [← List.take_append_drop P.length c.key, hbeg]
    have e3 : ordL c.key q = ordL P q := by
     conv => lhs; rw [e1]
     exact ordQ_pre _ _ _ (by simpa using HB0.out.symm)
    rw [e3]
    exact this
   clear h hl hk hb hq hr hci hbeg
   go_enter Tryz.func110, Tryz.ntmps110
   go_wp2_with (go_at_call 44; refine zae (HSW.out _) ?_)
   go_region_with (first | (go_at_call 106; refine zae (HC.out _ (by first | exact Br | exact Br.drew | exact zad Br _)) ?_))
   all_goals
    go_wp2
    go_ret
    exact ⟨rfl, zaa (by first | exact Br | exact Br.drew | exact zad Br _)⟩
end Go.Proofs.YtfgffajgfgifhaaGreatDoor
