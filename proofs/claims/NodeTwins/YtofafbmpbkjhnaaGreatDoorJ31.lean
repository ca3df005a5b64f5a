import Derived.Test.YtofafbmpbkjhnaaGreatDoorJ30
namespace Go.Proofs.YtofafbmpbkjhnaaGreatDoor
set_option maxRecDepth 100000
set_option maxHeartbeats 2000000
open Go.RowKit
theorem entriesR_any (w : World) (a : Nat) (k : Int) (n : Nat) (po : Option Addr) (pn pc : Nat) (bo : Option Addr) (bn bc : Nat) (so : Option Addr) (sn sc : Nat) (ws : Int) (P body : List Int) (st : List Nat) (cs : List Cl) (h : PgQ w a k n po pn pc bo bn bc so sn sc ws P body st) (hl : LayQ k P cs body st) (hsz : sn ≤ 65536) :
  Calls Tryz.prog 206 #[.pointer (some ⟨a, 0, none⟩)] w fun e w' => ∃ g, e = .returned (.slice (some ⟨g, 0, none⟩) sn sn) ∧ Hid (SlE w' g (some ⟨g, 0, none⟩) sn sn cs ∧ zag w' g sn) ∧ Hid (Below w.heap.size w w' ∧ w.heap.size ≤ g ∧ g < w'.heap.size) := by
 obtain ⟨ic, hic, hz0, hz1, hz2⟩ := info_parts infoE
 have HPG := zaa h
 have HL := zaa hl
 have HSN : Hid (sn = cs.length) := zaa (by rw [← hl.len, h.starts.hlen])
 have HLN := zaa (zbl w a k n po pn pc bo bn bc so sn sc ws P body st h)
 clear h hl
 go_enter Tryz.func206, Tryz.ntmps206
 go_wp2_with (first
  | (go_at_call 159; refine zae HLN.out ?_)
  | (at_make; refine wpList_make_full _ rfl _ _ 157 rfl w.heap.size 159 ic _ 6 Tryz.underlying157 hic hz0 hz1 .i64 .i64 sn sn sn rfl rfl rfl rfl (by rw [hz2]; omega) (by unfold maxLen; omega) Lr ?_; refine Hid.out ?_))
 apply zaa
 intro w2 ho2 hg2
 have hb2 : Below w.heap.size w w2 := Br.grown hg2 Lr (fun k hk => by cases hk)
 obtain ⟨g, hg⟩ : ∃ g, w.heap.size = g := ⟨_, rfl⟩
 have HRW : Hid (zag w2 g sn) := by
  rcases ho2.2 with ⟨h, _⟩ | ⟨q, c, cur, h, _, hh, _, _, hss, _⟩
  ·cases h
  ·cases h
   rw [← hg]
   exact zaa ⟨cur, hh, by rw [hss]; omega⟩
 have hgs : Below g w w2 := by rw [← hg]; exact hb2
 have HGS := zaa hgs
 have HGW := zaa hg
 have HLO : Hid (Lo g po pn ∧ Lo g bo bn) := zaa (by rw [← hg]; exact ⟨HPG.out.pre.lo, HPG.out.body.lo⟩)
 rw [hg]
 clear ho2 hg2 hb2 HLN hgs
 go_wp2_with fail
 go_loopw [10] (fun i wr => ∃ j : Nat, j ≤ sn ∧ i = .int .i64 j ∧ Hid (zag wr g sn) ∧ Hid (Below g w wr) ∧ Hid (∀ i d, i < j → cs[i]? = some d → EAt wr g g (i * 6) d)) (fun i _ => sn - (intOf i).toNat)
 case atStart => exact ⟨0, by omega, rfl, HRW, HGS, zaa fun i d hi => by omega⟩
 case round =>
  obtain ⟨j, hj, rfl, HR, HG, HD⟩ := hrel
  have HBE : Hid (Below w.heap.size w wr) := zaa (by rw [HGW.out]; exact HG.out)
  have HPR := zaa (HPG.out.on HBE.out)
  have bj : (j : Int) ≤ 65536 := by omega
  clear HRW HGS
  by_cases hlt : j < sn
  ·have hltI : (j : Int) < (sn : Int) := by omega
   obtain ⟨d, hd⟩ : ∃ d, cs[j]? = some d := ⟨_, zI (by rw [← HSN.out]; exact hlt)⟩
   have HDJ := zaa hd
   have HV := zaa (pentry_any wr a k n po pn pc bo bn bc so sn sc ws P body st cs HPR.out HL.out j d hd g HLO.out.1 HLO.out.2)
   clear hd
   go_wp2_with (go_at_call 160; refine HV.out.mono ?_; rintro e u1 ⟨ho, hn, hc, ko, kn, kc, vo, vn, vc, h, key, rfl, HQ, HB3⟩; refine Hid.out ?_)
   apply zaa
   have HR2 : Hid (zag u1 g sn) := zaa (HR.out.on HB3.out)
   have HG2 : Hid (Below g w u1) := zaa (HG.out.trans (HB3.out.mono (Nat.le_of_lt HR.out.lt)))
   clear HV
   go_wp2_with (refine put_entry (by rfl) _ _ (by rfl) g (j * 6) sn ho ko vo hn hc kn kc vn vc d.kd d.pg d.ct HR2.out (by rfl) (by rfl) (by omega) ?_; intro u3 HU3; refine Hid.out ?_)
   apply zaa
   have HR3 : Hid (zag u3 g sn) := zaa (by rw [HU3.out]; exact zag.sets _ _ _ HR2.out)
   have HG3 : Hid (Below g w u3) := zaa (by
    rw [HU3.out]
    simp only [World.setCells]
    refine (((((HG2.out.setCell ?_ _).setCell ?_ _).setCell ?_ _).setCell ?_ _).setCell ?_ _).setCell ?_ _ <;> simp)
   have HD3 : Hid (∀ i d, i < j + 1 → cs[i]? = some d → EAt u3 g g (i * 6) d) := by
    refine zaa fun i d' hi hd' => ?_
    rw [HU3.out]
    by_cases e : i = j
    ·subst e
     rw [HDJ.out] at hd'
     injection hd' with hd'
     subst hd'
     obtain ⟨q1, q2, q3, q4, q5, q6, q7⟩ := HQ.out
     exact EAt.new HR2.out (by omega) Lr q1 q2 q3 q4 q5 q6 q7
    ·exact ((HD.out i d' (by omega) hd').on HR.out.lt HB3.out).put Lr (by omega)
   clear HU3 HR2 HG2 HR HG HD HQ HB3 HPR
   go_wp2
   go_roundw
   case rel => exact ⟨j + 1, by omega, by go_num, HR3, HG3, HD3⟩
   case measure => simp [intOf]; omega
  ·obtain rfl : j = sn := by omega
   have hlI : ¬ (j : Int) < (j : Int) := by omega
   go_wp2
   go_ret
   refine ⟨g, rfl, zaa ⟨⟨HSN.out.symm, Lr, by omega, (by intro h; cases h), .inr ⟨g, 0, rfl, HR.out.lt, fun i d hd => ?_⟩⟩, HR.out⟩, zaa ⟨by first | exact HBE.out | exact HG.out, by first | exact Lr | (rw [HGW.out]; exact Lr), HR.out.lt⟩⟩
   rw [Nat.zero_add]
   have := (zH.1 hd).1
   exact HD.out i d (by rw [HSN.out]; exact this) hd
def Row6 (w : World) (G : Nat) : List Value → List Cl → Prop
 | vs, [] => vs = []
 | vs, c :: r => ∃ ho hn hc ko kn kc vo vn vc h key t, vs = .slice ho hn hc :: .slice ko kn kc :: .int .i64 c.kd :: .slice vo vn vc :: .int .i64 c.pg :: .int .i64 c.ct :: t ∧ (Sl w ho hn hc h ∧ Sl w ko kn kc key ∧ Sl w vo vn vc c.val ∧ h ++ key = c.key ∧ Lo G ho hn ∧ Lo G ko kn ∧ Lo G vo vn) ∧ Row6 w G t r
theorem Row6.append {w : World} {G : Nat} {us : List Value} {ds : List Cl} (g : Row6 w G us ds) : ∀ {vs : List Value} {cs : List Cl}, Row6 w G vs cs → Row6 w G (vs ++ us) (cs ++ ds)
 | vs, [], h => by
  unfold Row6 at h
  subst h
  exact g
 | vs, c :: r, h => by
  obtain ⟨ho, hn, hc, ko, kn, kc, vo, vn, vc, h', key, t, rfl, h1, h2⟩ := h
  exact ⟨ho, hn, hc, ko, kn, kc, vo, vn, vc, h', key, t ++ us, rfl, h1, Row6.append g h2⟩
theorem Row6.len {w : World} {G : Nat} : ∀ {vs : List Value} {cs : List Cl}, Row6 w G vs cs → vs.length = cs.length * 6
 | vs, [], h => by
  unfold Row6 at h
  subst h
  rfl
 | vs, c :: r, h => by
  obtain ⟨ho, hn, hc, ko, kn, kc, vo, vn, vc, h', key, t, rfl, h1, h2⟩ := h
  have := h2.len
  simp only [List.length_cons]
  omega
theorem Row6.one {w : World} {G : Nat} : ∀ {vs : List Value} {cs : List Cl}, Row6 w G vs cs → ∀ u ∈ vs, u.oneCell' = true
 | vs, [], h, u, hu => by
  unfold Row6 at h
  subst h
  cases hu
 | vs, c :: r, h, u, hu => by
  obtain ⟨ho, hn, hc, ko, kn, kc, vo, vn, vc, h', key, t, rfl, h1, h2⟩ := h
  simp only [List.mem_cons] at hu
  rcases hu with rfl | rfl | rfl | rfl | rfl | rfl | hu
  ·rfl
  ·rfl
  ·rfl
  ·rfl
  ·rfl
  ·rfl
  ·exact h2.one u hu
theorem row6_of {w : World} {G b : Nat} : ∀ (cs : List Cl) (off : Nat), (∀ i c, cs[i]? = some c → EAt w G b (off + i * 6) c) → ∃ vs, Row6 w G vs cs ∧ ∀ j u, vs[j]? = some u → w.cell? ⟨b, off + j, none⟩ = some u
 | [], off, _ => ⟨[], rfl, fun j u hu => by simp at hu⟩
 | c :: r, off, h => by
  obtain ⟨t, h1, h2⟩ := row6_of r (off + 6) fun i d hd => by
   have := h (i + 1) d (by simpa using hd)
   rwa [show off + (i + 1) * 6 = off + 6 + i * 6 by omega] at this
  obtain ⟨ho, hn, hc, ko, kn, kc, vo, vn, vc, h', key, c0, c1, c2, c3, c4, c5, hs⟩ := h 0 c rfl
  refine ⟨_, ⟨ho, hn, hc, ko, kn, kc, vo, vn, vc, h', key, t, rfl, hs, h1⟩, fun j u hu => ?_⟩
  match j, hu with
  | 0, hu => simp at hu; subst hu; simpa using c0
  | 1, hu => simp at hu; subst hu; simpa using c1
  | 2, hu => simp at hu; subst hu; simpa using c2
  | 3, hu => simp at hu; subst hu; simpa using c3
  | 4, hu => simp at hu; subst hu; simpa using c4
  | 5, hu => simp at hu; subst hu; simpa using c5
  | j + 6, hu =>
   have := h2 j u (by simpa using hu)
   rwa [show off + 6 + j = off + (j + 6) by omega] at this
theorem Sl.lo_on {w w' : World} {ao : Option Addr} {n cap G : Nat} {l : List Int} (h : Sl w ao n cap l) (hl : Lo G ao n) (hb : Below G w w') : Sl w' ao n cap l := by
 refine ⟨h.hlen, h.hcap, h.hroom, h.wf, h.hnil, ?_⟩
 rcases h.hat with h0 | ⟨b, off, e, hlt, hc⟩
 ·exact .inl h0
 ·rcases hl with h0 | hl
  ·exact .inl h0
  ·have hq := hl _ e
   simp only at hq
   exact .inr ⟨b, off, e, zO hlt hb.size, fun i hi => (hb.cell (p := ⟨b, off + i, none⟩) hq).trans (hc i hi)⟩
theorem Row6.eat {w w' : World} {G b : Nat} (hB : Below G w w') : ∀ {vs : List Value} {cs : List Cl} (off : Nat), Row6 w G vs cs → (∀ j u, vs[j]? = some u → w'.cell? ⟨b, off + j, none⟩ = some u) → ∀ i c, cs[i]? = some c → EAt w' G b (off + i * 6) c
 | vs, [], off, h, hc, i, c, hi => by simp at hi
 | vs, d :: r, off, h, hc, 0, c, hi => by
  obtain ⟨ho, hn, hc', ko, kn, kc, vo, vn, vc, h', key, t, rfl, ⟨s1, s2, s3, s4, l1, l2, l3⟩, h2⟩ := h
  simp at hi
  subst hi
  exact ⟨ho, hn, hc', ko, kn, kc, vo, vn, vc, h', key, hc 0 _ rfl, hc 1 _ rfl, hc 2 _ rfl, hc 3 _ rfl, hc 4 _ rfl, hc 5 _ rfl, s1.lo_on l1 hB, s2.lo_on l2 hB, s3.lo_on l3 hB, s4, l1, l2, l3⟩
 | vs, d :: r, off, h, hc, i + 1, c, hi => by
  obtain ⟨ho, hn, hc', ko, kn, kc, vo, vn, vc, h', key, t, rfl, h1, h2⟩ := h
  have := Row6.eat hB (off + 6) h2 (fun j u hu => by
   have := hc (j + 6) u (by simpa using hu)
   rwa [show off + (j + 6) = off + 6 + j by omega] at this) i c (by simpa using hi)
  rwa [show off + 6 + i * 6 = off + (i + 1) * 6 by omega] at this
theorem zag.owns {w : World} {g N : Nat} {vs : List Value} (h : zag w g N) (hl : vs.length = N * 6) (hc : ∀ j u, vs[j]? = some u → w.cell? ⟨g, 0 + j, none⟩ = some u) (hN : N ≤ 65536) : w.ownsRow g 159 6 (.slice (some ⟨g, 0, none⟩) N N) N vs := by
 obtain ⟨cur, h1, h2⟩ := h
 refine ⟨hl, .inr ⟨g, N, cur, rfl, Lr, h1, Lr, by unfold maxLen; omega, by omega, ?_⟩⟩
 refine List.ext_getElem? fun j => ?_
 rcases Nat.lt_or_ge j (N * 6) with hj | hj
 ·have hv : vs[j]? = some (vs[j]'(by omega)) := zI (by omega)
  have := hc j _ hv
  rw [Nat.zero_add, cell_of_row _ _ _ _ _ _ h1] at this
  rw [List.getElem?_take_of_lt hj, hv, ← this]
  simp
 ·rw [List.getElem?_eq_none (by rw [zJ]; omega), List.getElem?_eq_none (by omega)]
theorem insE_any (u : World) (g sn : Nat) (cs : List Cl) (c : Cl) (hE : SlE u g (some ⟨g, 0, none⟩) sn sn cs) (hR : zag u g sn) (hsn : sn ≤ 65535) (b : Nat) (ka va : Option Addr) (kc vc : Nat) (hb : E6 u b (.slice none 0 0) (.slice ka c.key.length kc) (.int .i64 c.kd) (.slice va c.val.length vc) (.int .i64 c.pg) (.int .i64 c.ct)) (hk : Sl u ka c.key.length kc c.key) (hv : Sl u va c.val.length vc c.val) (lk : Lo g ka c.key.length) (lv : Lo g va c.val.length) :
  Calls Tryz.prog 294 #[.slice (some ⟨g, 0, none⟩) sn sn, .int .i64 (sn : Int), .slice (some ⟨b, 0, none⟩) 1 1] u fun e w' => ∃ ao c', e = .returned (.slice ao (sn + 1) c') ∧ Hid (SlE w' g ao (sn + 1) c' (cs ++ [c])) ∧ Hid (Below g u w') := by
 obtain ⟨ic, hic, hz0, hz1, hz2⟩ := info_parts infoE
 have hlen := hE.hlen
 obtain ⟨vs, hvs, hcv⟩ := row6_of (w := u) (G := g) (b := g) cs 0 (by
  intro i d hd
  rcases hE.hat with h0 | ⟨b', off', e, _, hc⟩
  ·have := (zH.1 hd).1
   omega
  ·injection e with e
   injection e with e1 e2
   subst e1 e2
   exact hc i d hd)
 have hown := hR.owns (vs := vs) (by rw [hvs.len, hlen]) hcv (by omega)
 obtain ⟨us, hus, hcu⟩ : ∃ us, Row6 u g us [c] ∧ ∀ j x, us[j]? = some x → u.cell? ⟨b, 0 + j, none⟩ = some x := row6_of [c] 0 (by
  intro i d hd
  have hi : i = 0 := by have := (zH.1 hd).1; simpa using this
  subst hi
  simp at hd
  subst hd
  obtain ⟨e0, e1, e2, e3, e4, e5⟩ := hb.cells
  exact ⟨none, 0, 0, ka, c.key.length, kc, va, c.val.length, vc, [], c.key, e0, e1, e2, e3, e4, e5, Sl.nil_any _ _ _ (fun _ => rfl), hk, hv, rfl, .inl rfl, lk, lv⟩)
 have HOWN := zaa hown
 have HUS := zaa hus
 have HVS := zaa hvs
 have HCU := zaa hcu
 have HLEN := zaa hlen
 have hgs := hR.lt
 have bs : (sn : Int) ≤ 65535 := by omega
 clear hE hR hb hk hv lk lv hvs hcv hown hus hcu hlen
 go_enter Tryz.func294, Tryz.ntmps294
 go_wp2_with (at_builtin; refine wpList_append_own_at u rfl _ _ 157 rfl g 159 ic _ 6 96 Tryz.underlying157 hic hz0 hz1 hz2 rfl (by decide) _ sn vs rfl HOWN.out ⟨b, 0, none⟩ 1 1 us rfl (by rw [HUS.out.len]; rfl) (fun j x hx => by rw [Addr.add_lit]; exact HCU.out j x hx) HUS.out.one (by unfold maxLen; omega) (by omega) (Nat.le_of_lt hgs) ?_; refine Hid.out ?_)
 apply zaa
 intro v' w' g1 g2 _ _
 have hbe : Below g u w' := zcq HOWN.out (Nat.le_of_lt hgs) g2
 have hrow := HUS.out.append HVS.out
 obtain ⟨ao, c', rfl, hsl⟩ : ∃ ao c', v' = .slice ao (sn + 1) c' ∧ SlE w' g ao (sn + 1) c' (cs ++ [c]) := by
  rcases g1.2 with ⟨_, h0⟩ | ⟨q, c', cur, rfl, hq, hh, hn, _⟩
  ·omega
  ·refine ⟨_, c', rfl, ⟨by rw [zG, HLEN.out]; rfl, hn, by omega, (by intro h; cases h), .inr ⟨q, 0, rfl, zah hh, ?_⟩⟩⟩
   refine Row6.eat hbe 0 hrow fun j x hx => ?_
   have hj := (zH.1 hx).1
   have := g1.cellAt j (by rw [hrow.len] at hj; rw [zG, HLEN.out] at hj; simpa using hj)
   rw [Nat.zero_add, this, hx]
 have HSL := zaa hsl
 have HBE := zaa hbe
 clear g1 g2 hbe hrow hsl
 go_wp2
 go_ret
 exact ⟨ao, c', rfl, HSL, HBE⟩
theorem repE_any (u : World) (g sn : Nat) (cs : List Cl) (c : Cl) (hE : SlE u g (some ⟨g, 0, none⟩) sn sn cs) (hR : zag u g sn) (hsn : sn ≤ 65535) (b : Nat) (ka va : Option Addr) (kc vc : Nat) (hb : E6 u b (.slice none 0 0) (.slice ka c.key.length kc) (.int .i64 c.kd) (.slice va c.val.length vc) (.int .i64 c.pg) (.int .i64 c.ct)) (hk : Sl u ka c.key.length kc c.key) (hv : Sl u va c.val.length vc c.val) (lk : Lo g ka c.key.length) (lv : Lo g va c.val.length) :
  Calls Tryz.prog 292 #[.slice (some ⟨g, 0, none⟩) sn sn, .int .i64 (sn : Int), .int .i64 (sn : Int), .slice (some ⟨b, 0, none⟩) 1 1] u fun e w' => ∃ ao c', e = .returned (.slice ao (sn + 1) c') ∧ Hid (SlE w' g ao (sn + 1) c' (cs ++ [c])) ∧ Hid (Below g u w') := by
 have HI := zaa (insE_any u g sn cs c hE hR hsn b ka va kc vc hb hk hv lk lv)
 clear hE hR hb hk hv lk lv
 go_enter Tryz.func292, Tryz.ntmps292
 go_wp2_with (go_at_call 294; refine HI.out.mono ?_; rintro e w1 ⟨ao, c', rfl, HS, HB⟩)
 go_ret
 exact ⟨ao, c', rfl, HS, HB⟩
theorem zdf (w : World) (a : Nat) (k n : Int) (po : Option Addr) (pn pc : Nat) (bo : Option Addr) (bn bc : Nat) (so : Option Addr) (sn sc : Nat) (ws : Int) (h : QR w a k n (.slice po pn pc) (.slice bo bn bc) (.slice so sn sc) ws) (h1 : pn ≤ 1099511627776) (h2 : bn ≤ 1099511627776) (h3 : sn ≤ 1099511627776) :
  Calls Tryz.prog 286 #[.pointer (some ⟨a, 0, none⟩)] w fun e w' => e = .returned (.int .i64 ((10 + pn + 2 * sn + bn : Nat) : Int)) ∧ ∃ q, w' = w.drewN q := by
 obtain ⟨c0, c1, c2, c3, c4, c5⟩ := h.cells
 have b1 : (pn : Int) ≤ 1099511627776 := by omega
 have b2 : (bn : Int) ≤ 1099511627776 := by omega
 have b3 : (sn : Int) ≤ 1099511627776 := by omega
 clear h
 go_enter Tryz.func286, Tryz.ntmps286
 go_wp2_with fail
 go_quiet (fail)
 go_wp2
 go_ret
 refine ⟨zcc ?_, _, rfl⟩
 omega
theorem usedQ_any (w : World) (a : Nat) (k n : Int) (po : Option Addr) (pn pc : Nat) (bo : Option Addr) (bn bc : Nat) (so : Option Addr) (sn sc : Nat) (h : QR w a k n (.slice po pn pc) (.slice bo bn bc) (.slice so sn sc) 0) (h1 : pn ≤ 1099511627776) (h2 : bn ≤ 1099511627776) (h3 : sn ≤ 1099511627776) (Z : Nat) (hZ : 10 + pn + 2 * sn + bn = Z) :
  Calls Tryz.prog 277 #[.pointer (some ⟨a, 0, none⟩)] w fun e w' => e = .returned (.int .i64 (Z : Int)) ∧ Hid (Below w.heap.size w w') := by
 obtain ⟨c0, c1, c2, c3, c4, c5⟩ := h.cells
 have HF : Hid (∀ u, Below w.heap.size w u → Calls Tryz.prog 286 #[.pointer (some ⟨a, 0, none⟩)] u fun e w' => e = .returned (.int .i64 (Z : Int)) ∧ w'.cell? ⟨a, 5, none⟩ = some (.int .i64 0) ∧ Hid (Below w.heap.size w w')) := by
  refine zaa fun u hu => (zdf u a k n po pn pc bo bn bc so sn sc 0 (zaf h hu) h1 h2 h3).mono ?_
  rintro e w' ⟨rfl, q, rfl⟩
  have hb := zad hu q
  exact ⟨by rw [hZ], (show QR _ a k n (.slice po pn pc) (.slice bo bn bc) (.slice so sn sc) 0 from zaf h hb).cells.2.2.2.2.2, zaa hb⟩
 have bZ : (Z : Int) ≤ 8796093022208 := by omega
 have hwZ : IntKind.i64.wrap (Z : Int) = (Z : Int) := by rw [IntKind.wrap_i64]; omega
 have hwZ0 : IntKind.i64.wrap ((Z : Int) - 0) = (Z : Int) := by rw [IntKind.wrap_i64]; omega
 clear h hZ
 go_enter Tryz.func277, Tryz.ntmps277
 go_wp2_with fail
 go_region_with (first | (go_at_call 286; refine (HF.out _ (by first | exact Br | exact Br.drew | exact zad Br _)).mono ?_; rintro e w1 ⟨rfl, x5, HB1⟩))
 all_goals
  go_wp2
  go_ret
  exact ⟨rfl, zaa (by first | exact HB1.out | exact HB1.out.drew | exact zad HB1.out _)⟩
end Go.Proofs.YtofafbmpbkjhnaaGreatDoor
