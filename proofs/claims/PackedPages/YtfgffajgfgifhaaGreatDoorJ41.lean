import Derived.Test.YtfgffajgfgifhaaGreatDoorJ40
import Derived.Test.YtfgffajgfgifhaaGreatDoorJ37
namespace Go.Proofs.YtfgffajgfgifhaaGreatDoor
set_option maxRecDepth 100000
set_option maxHeartbeats 2000000
open Go.RowKit
def KAt (w : World) (B b off : Nat) (c : Cl) : Prop :=
 ∃ a1 c1 g2, w.cell? ⟨b, off, none⟩ = some (.slice a1 c.key.length c1) ∧ w.cell? ⟨b, off + 1, none⟩ = some (.int .i64 c.kd) ∧ w.cell? ⟨b, off + 2, none⟩ = some (.slice (some ⟨g2, 0, none⟩) c.val.length c.val.length) ∧ w.cell? ⟨b, off + 3, none⟩ = some (.int .i64 c.pg) ∧ w.cell? ⟨b, off + 4, none⟩ = some (.int .i64 c.ct) ∧ OwnB w B (.slice a1 c.key.length c1) c.key ∧ Bk w g2 c.val ∧ B ≤ g2 ∧ (Value.slice a1 c.key.length c1).ownBlock ≠ some g2
theorem KAt.on {w w' : World} {B b off : Nat} {c : Cl} (h : KAt w B b off c) (hb : b < w.heap.size) (hB : Below w.heap.size w w') : KAt w' B b off c := by
 obtain ⟨a1, c1, g2, h0, h1, h2, h3, h4, h5, h6, h7⟩ := h
 exact ⟨a1, c1, g2, (hB.cell (p := ⟨b, off, none⟩) hb).trans h0, (hB.cell (p := ⟨b, off + 1, none⟩) hb).trans h1, (hB.cell (p := ⟨b, off + 2, none⟩) hb).trans h2, (hB.cell (p := ⟨b, off + 3, none⟩) hb).trans h3, (hB.cell (p := ⟨b, off + 4, none⟩) hb).trans h4, h5.on Lr hB, h6.on hB, h7⟩
theorem OwnB.sets {w : World} {B : Nat} {v : Value} {l : List Int} {b N j : Nat} {vs : List Value} (h : OwnB w B v l) (hr : RowC w b N) : OwnB (w.setCells b j vs) B v l := by
 refine h.same fun i e => ?_
 obtain ⟨cur, h1, _⟩ := hr
 have hne := h.apart h1 (by decide)
 have hlt : i < w.heap.size := by unfold OwnB at h; exact (h.lt i e).2
 exact World.heap_setCells_other _ _ _ _ hlt (fun h2 => hne (by rw [e, h2]))
theorem KAt.put {w : World} {B b N i j : Nat} {c : Cl} {vs : List Value} (h : KAt w B b (i * 5) c) (hr : RowC w b N) (hij : i < j) : KAt (w.setCells b (j * 5) vs) B b (i * 5) c := by
 obtain ⟨a1, c1, g2, h0, h1, h2, h3, h4, h5, h6, h7⟩ := h
 have ho : ∀ d, d < 5 → (w.setCells b (j * 5) vs).cell? ⟨b, i * 5 + d, none⟩ = w.cell? ⟨b, i * 5 + d, none⟩ := fun d hd => World.cell?_setCells_out b _ _ w _ (fun _ _ => .inl (by simp only; omega))
 exact ⟨a1, c1, g2, (ho 0 (by omega)).trans h0, (ho 1 (by omega)).trans h1, (ho 2 (by omega)).trans h2, (ho 3 (by omega)).trans h3, (ho 4 (by omega)).trans h4, h5.sets hr, h6.sets (hr.ne h6), h7⟩
theorem KAt.new {w : World} {B b N j : Nat} {c : Cl} {a1 : Option Addr} {c1 g2 : Nat} (hr : RowC w b N) (hj : j * 5 + 5 ≤ 5 * N) (h1 : OwnB w B (.slice a1 c.key.length c1) c.key) (h2 : Bk w g2 c.val) (h3 : B ≤ g2) (h4 : (Value.slice a1 c.key.length c1).ownBlock ≠ some g2) :
  KAt (w.setCells b (j * 5) [.slice a1 c.key.length c1, .int .i64 c.kd, .slice (some ⟨g2, 0, none⟩) c.val.length c.val.length, .int .i64 c.pg, .int .i64 c.ct]) B b (j * 5) c := by
 have h := World.rangeAt_setCells_same w b (j * 5) [.slice a1 c.key.length c1, .int .i64 c.kd, .slice (some ⟨g2, 0, none⟩) c.val.length c.val.length, .int .i64 c.pg, .int .i64 c.ct] (hr.there hj)
 exact ⟨a1, c1, g2, h 0 _ rfl, h 1 _ rfl, h 2 _ rfl, h 3 _ rfl, h 4 _ rfl, h1.sets hr, h2.sets (hr.ne h2), h3, h4⟩
theorem KAt.cat {w : World} {B b off : Nat} {c : Cl} (h : KAt w B b off c) (hw : c.Wf) (h1 : c.key.length ≤ 140737488355328) (h2 : c.val.length ≤ 140737488355328) : CAt w b off c := by
 obtain ⟨a1, c1, g2, e0, e1, e2, e3, e4, e5, e6, _⟩ := h
 obtain ⟨x1, x2, x3, x4, _⟩ := e5.sl hw.1 h1
 injection x3 with i1 i2 i3
 subst i1 i3
 exact ⟨_, _, _, _, e0, e1, e2, e3, e4, x4, e6.sl rfl hw.2 h2⟩
def DecQ (l : List Int) (w : World) (e : Ending) (w' : World) : Prop :=
 ∃ k ao n cap c, e = .returned (.tuple #[.int .i64 k, .slice ao n cap, .int .i64 c]) ∧ Hid (Below w.heap.size w w') ∧
  Hid ((c = 60 ∧ k = 0 ∧ ao = none ∧ n = 0 ∧ cap = 0 ∧ ¬ ∃ cs, IsQ (l.getD 0 0) l.length cs l) ∨
   ∃ cs g, c = 0 ∧ k = l.getD 0 0 ∧ ao = some ⟨g, 0, none⟩ ∧ n = cs.length ∧ cap = cs.length ∧ IsQ (l.getD 0 0) l.length cs l ∧ (∀ d ∈ cs, d.Wf) ∧ w.heap.size ≤ g ∧ RowC w' g cs.length ∧ ∀ i d, cs[i]? = some d → KAt w' w.heap.size g (i * 5) d)
theorem decodeQ_any (ao : Option Addr) (n cap : Nat) (l : List Int) (w : World) (hs : Sl w ao n cap l) (ht : Tab w) (h0 : 0 < w.heap.size) :
  Calls Tryz.prog 22 #[.slice ao n cap] w fun e w' => DecQ l w e w' := by
 obtain ⟨ic, hic, hz0, hz1, hz2⟩ := info_parts infoC
 have HO := zaa (openQ_any ao n cap l w hs ht h0)
 have HLEN := zaa hs.hlen
 clear hs ht
 go_enter Tryz.func22, Tryz.ntmps22
 go_wp2_with (go_at_call 19; refine HO.out.mono ?_; rintro e w1 ⟨po, ec, rfl, HB1, HQ⟩; refine Hid.out ?_)
 apply zaa
 clear HO
 rcases HQ.out with ⟨rfl, rfl, hno⟩ | ⟨a, qo, qn, qc, vb, vs, cs, rfl, rfl, his, hwf, hpo⟩
 ·have HNO := zaa hno
  clear HQ hno
  go_wp2
  go_ret3
  exact ⟨0, none, 0, 0, 60, rfl, HB1, zaa (.inl ⟨rfl, rfl, rfl, rfl, rfl, HNO.out⟩)⟩
 ·have HIS := zaa his
  have HWF := zaa hwf
  have hf := chk_fit his.ok his.sz
  have HFIT := zaa hf
  have hz := zal (l.getD 0 0) (shP (l.getD 0 0) cs).length cs
  have hfit := his.fit
  have hpn := zai his.sz
  obtain ⟨bo, bc, so, sc, rfl, rfl, hpg⟩ := hpo.pg (qbd_wf _ _ _ fun c hc => ⟨hwf c hc, hf c hc⟩) (by omega) (by rw [zar]; omega)
  have HLAY := zaa (layQ_of (zbe (l.getD 0 0) cs) hf)
  obtain ⟨sn, hsn⟩ : ∃ sn, (qst (shP (l.getD 0 0) cs).length (whl (l.getD 0 0)) 0 cs).length = sn := ⟨_, rfl⟩
  rw [hsn] at hpg
  have HPG := zaa hpg
  have HSN : Hid (sn = cs.length) := zaa (by rw [← hsn, zar])
  have hs1 : sn ≤ 65536 := by rw [HSN.out]; omega
  have HL := zaa (zba w1 a _ _ qo qn qc bo _ bc so sn sc 0 _ _ _ hpg)
  obtain ⟨c0, c1, c2, c3, c4, c5⟩ := hpg.cells
  clear hpg hpo his hwf HQ hsn hz hfit hpn hf
  go_wp2_with (first
   | (go_at_call 26; refine zae HL.out ?_)
   | (at_make; refine wpList_make_full _ rfl _ _ 43 rfl w.heap.size 39 ic _ 5 Tryz.underlying43 hic hz0 hz1 .i64 .i64 sn sn sn rfl rfl rfl rfl (by rw [hz2]; omega) (by unfold maxLen; omega) HB1.out.size ?_; refine Hid.out ?_))
  apply zaa
  intro w2 ho2 hg2
  have hb2 : Below w1.heap.size w1 w2 := Br.grown hg2 Lr (fun k hk => by cases hk)
  obtain ⟨g, hg⟩ : ∃ g, w1.heap.size = g := ⟨_, rfl⟩
  have HRW : Hid (RowC w2 g sn) := by
   rcases ho2.2 with ⟨h, _⟩ | ⟨q, c, cur, h, _, hh, _, _, hss, _⟩
   ·cases h
   ·cases h
    rw [← hg]
    exact zaa ⟨cur, hh, by rw [hss]; omega⟩
  have HWG : Hid (w.heap.size ≤ g) := zaa (by rw [← hg]; exact HB1.out.size)
  have hgs : Below g w1 w2 := by rw [← hg]; exact hb2
  have HGS := zaa hgs
  have HGW := zaa hg
  rw [hg]
  clear ho2 hg2 hb2 HL c0 c1 c2 c3 c4 c5 hgs
  go_wp2_with fail
  go_loopw [22] (fun i wr => ∃ j : Nat, j ≤ sn ∧ i = .int .i64 j ∧ Hid (RowC wr g sn) ∧ Hid (Below g w1 wr) ∧ Hid (∀ i d, i < j → cs[i]? = some d → KAt wr w.heap.size g (i * 5) d)) (fun i _ => sn - (intOf i).toNat)
  case atStart => exact ⟨0, by omega, rfl, HRW, HGS, zaa fun i d hi => by omega⟩
  case round =>
   obtain ⟨j, hj, rfl, HR, HG, HD⟩ := hrel
   have HBE : Hid (Below w1.heap.size w1 wr) := zaa (by rw [HGW.out]; exact HG.out)
   have HPR := zaa (HPG.out.on HBE.out)
   have bj : (j : Int) ≤ 65536 := by omega
   clear HRW HGS
   by_cases hlt : j < sn
   ·have hltI : (j : Int) < (sn : Int) := by omega
    have hjc : j < cs.length := by rw [← HSN.out]; exact hlt
    obtain ⟨d, hd⟩ : ∃ d, cs[j]? = some d := ⟨_, zI hjc⟩
    have HDJ := zaa hd
    have HV := zaa (pentry_any wr a _ _ qo qn qc bo _ bc so sn sc 0 _ _ _ cs HPR.out HLAY.out j d hd wr.heap.size HPR.out.pre.lo HPR.out.body.lo)
    have hdf := HFIT.out d (List.mem_of_getElem? hd)
    have hdk := hdf.key
    have hdv := hdf.val
    clear hd hjc hdf
    go_wp2_with (go_at_call 61; refine HV.out.mono ?_; rintro e u1 ⟨ho, hn, hc, ko, kn, kc, vo, vn, vc, h, key, rfl, HQ, HB3⟩; refine Hid.out ?_)
    apply zaa
    obtain ⟨q1, q2, q3, q4, _⟩ := HQ.out
    have hkl : hn + kn = d.key.length := by rw [← q4, zG, q1.hlen, q2.hlen]
    have hvl : vn = d.val.length := q3.hlen.symm
    have HVL := zaa hvl
    have HC := zaa (ecopied_any ho hn hc ko kn kc d.kd vo vn vc d.pg d.ct h key d.val d.key.length u1 q1 q2 q3 hkl (by omega))
    rw [q4] at HC
    clear q1 q2 q3 q4 hkl hvl HV HQ
    go_wp2_with (go_at_call 62; refine HC.out.mono ?_; rintro e u2 ⟨a1, k1, g2, rfl, HGG, HB4⟩; refine Hid.out ?_)
    apply zaa
    have HBU : Hid (Below wr.heap.size wr u2) := zaa (zab HB3.out Lr HB4.out)
    have HR2 : Hid (RowC u2 g sn) := zaa (HR.out.on HBU.out)
    have HG2 : Hid (Below g w1 u2) := zaa (HG.out.trans (HBU.out.mono (Nat.le_of_lt HR.out.lt)))
    have hwg : w.heap.size ≤ u1.heap.size := zN HB1.out.size (zN HBE.out.size HB3.out.size)
    clear HC
    go_wp2_with (refine put_cell (by rfl) _ _ (by rfl) g (j * 5) sn a1 (some ⟨g2, 0, none⟩) d.key.length k1 vn vn d.kd d.pg d.ct HR2.out (by rfl) (by rfl) (by omega) ?_; intro u3 HU3; refine Hid.out ?_)
    apply zaa
    have HR3 : Hid (RowC u3 g sn) := zaa (by rw [HU3.out]; exact RowC.sets _ _ _ HR2.out)
    have HG3 : Hid (Below g w1 u3) := zaa (by
     rw [HU3.out]
     simp only [World.setCells]
     refine ((((HG2.out.setCell ?_ _).setCell ?_ _).setCell ?_ _).setCell ?_ _).setCell ?_ _ <;> simp)
    have HD3 : Hid (∀ i d, i < j + 1 → cs[i]? = some d → KAt u3 w.heap.size g (i * 5) d) := by
     refine zaa fun i d' hi hd' => ?_
     rw [HU3.out]
     by_cases e : i = j
     ·subst e
      rw [HDJ.out] at hd'
      injection hd' with hd'
      subst hd'
      have := KAt.new (B := w.heap.size) (c := d) (j := i) HR2.out (by omega) (HGG.out.1.low hwg) HGG.out.2.1 (zN hwg HGG.out.2.2.1) HGG.out.2.2.2
      rw [← HVL.out] at this
      exact this
     ·exact ((HD.out i d' (by omega) hd').on HR.out.lt HBU.out).put HR2.out (by omega)
    clear HU3 HR2 HG2 HR HG HD HGG HB3 HB4 HBU HPR
    go_wp2
    go_roundw
    case rel => exact ⟨j + 1, by omega, by go_num, HR3, HG3, HD3⟩
    case measure => simp [intOf]; omega
   ·obtain rfl : j = sn := by omega
    have hlI : ¬ (j : Int) < (j : Int) := by omega
    obtain ⟨c0, c1, c2, c3, c4, c5⟩ := HPR.out.cells
    go_wp2
    go_ret3
    refine ⟨l.getD 0 0, some ⟨g, 0, none⟩, j, j, 0, rfl, zaa (zab HB1.out Lr HBE.out), zaa (.inr ⟨cs, g, rfl, rfl, rfl, HSN.out, HSN.out, HIS.out, HWF.out, HWG.out, ?_, fun i d hd => HD.out i d ?_ hd⟩)⟩
    ·rw [← HSN.out]; exact HR.out
    ·have := (zH.1 hd).1
     rw [HSN.out]
     exact this
theorem decQ_slc {w' : World} {B g : Nat} {cs : List Cl} (hr : RowC w' g cs.length) (hd : ∀ i d, cs[i]? = some d → KAt w' B g (i * 5) d) (hwf : ∀ d ∈ cs, d.Wf) (hfit : ∀ d ∈ cs, d.fit) (hl : cs.length ≤ 65536) : SlC w' (some ⟨g, 0, none⟩) cs.length cs.length cs := by
 refine ⟨rfl, Lr, by omega, (by intro h; cases h), .inr ⟨g, 0, rfl, hr.lt, fun i c hc => ?_⟩⟩
 have hm : c ∈ cs := List.mem_of_getElem? hc
 have h1 := (hfit c hm).key
 have h2 := (hfit c hm).val
 rw [Nat.zero_add]
 exact (hd i c hc).cat (hwf c hm) (by omega) (by omega)
theorem same_self (c : Cl) (ka ka' va va' : Option Addr) (kc kc' vc vc' : Nat) (w : World) (h1 : Sl w ka c.key.length kc c.key) (h2 : Sl w ka' c.key.length kc' c.key) (h3 : Sl w va c.val.length vc c.val) (h4 : Sl w va' c.val.length vc' c.val) :
  Calls Tryz.prog 59 #[.agg #[.slice ka c.key.length kc, .int .i64 c.kd, .slice va c.val.length vc, .int .i64 c.pg, .int .i64 c.ct], .agg #[.slice ka' c.key.length kc', .int .i64 c.kd, .slice va' c.val.length vc', .int .i64 c.pg, .int .i64 c.ct]] w fun e w' => e = .returned (.bool true) ∧ Below w.heap.size w w' := by
 obtain ⟨x, hx⟩ : ∃ x, ((w.alloc (.cells #[.slice ka c.key.length kc, .int .i64 c.kd, .slice va c.val.length vc, .int .i64 c.pg, .int .i64 c.ct] 39)).alloc (.cells #[.slice ka' c.key.length kc', .int .i64 c.kd, .slice va' c.val.length vc', .int .i64 c.pg, .int .i64 c.ct] 39)) = x := ⟨_, rfl⟩
 have hb : Below w.heap.size w x := by rw [← hx]; exact zac (zac Br Lr _) Lr _
 have k1 : ∀ q, (convert 37 9 (.slice ka c.key.length kc)).run Tryz.prog (x.drewN q) = .ok (.string (strOfNums c.key)) (x.drewN q) := fun q => zav ((h1.on Lr hb).drewN q)
 have k2 : ∀ q, (convert 37 9 (.slice ka' c.key.length kc')).run Tryz.prog (x.drewN q) = .ok (.string (strOfNums c.key)) (x.drewN q) := fun q => zav ((h2.on Lr hb).drewN q)
 have k3 : ∀ q, (convert 37 9 (.slice va c.val.length vc)).run Tryz.prog (x.drewN q) = .ok (.string (strOfNums c.val)) (x.drewN q) := fun q => zav ((h3.on Lr hb).drewN q)
 have k4 : ∀ q, (convert 37 9 (.slice va' c.val.length vc')).run Tryz.prog (x.drewN q) = .ok (.string (strOfNums c.val)) (x.drewN q) := fun q => zav ((h4.on Lr hb).drewN q)
 have j1 := zav (h1.on Lr hb)
 have j2 := zav (h2.on Lr hb)
 have j3 := zav (h3.on Lr hb)
 have j4 := zav (h4.on Lr hb)
 have hz1 : (w.alloc (.cells #[.slice ka c.key.length kc, .int .i64 c.kd, .slice va c.val.length vc, .int .i64 c.pg, .int .i64 c.ct] 39)).heap.size = w.heap.size + 1 := by simp
 have b1 : C5 x w.heap.size (.slice ka c.key.length kc) (.int .i64 c.kd) (.slice va c.val.length vc) (.int .i64 c.pg) (.int .i64 c.ct) := by
  rw [← hx]
  exact zaf (C5.box w _ _ _ _ _) (zac Br Lr _)
 have b2 : C5 x (w.heap.size + 1) (.slice ka' c.key.length kc') (.int .i64 c.kd) (.slice va' c.val.length vc') (.int .i64 c.pg) (.int .i64 c.ct) := by
  rw [← hx, ← hz1]
  exact C5.box _ _ _ _ _ _
 obtain ⟨c0, c1, c2, c3, c4⟩ := b1.cells
 obtain ⟨d0, d1, d2, d3, d4⟩ := b2.cells
 have HB := zaa hb
 clear h1 h2 h3 h4 hb b1 b2 hz1
 go_enter Tryz.func59, Tryz.ntmps59
 go_wp2
 go_ret
 exact ⟨rfl, HB.out⟩
theorem sameAll_self (ao bo : Option Addr) (n c d : Nat) (cs : List Cl) (w : World) (ha : SlC w ao n c cs) (hb : SlC w bo n d cs) :
  Calls Tryz.prog 23 #[.slice ao n c, .slice bo n d] w fun e w' => e = .returned (.bool true) ∧ Hid (Below w.heap.size w w') := by
 have HA := zaa ha
 have HC := zaa hb
 have hn := ha.hroom
 clear ha hb
 go_enter Tryz.func23, Tryz.ntmps23
 go_wp2_with fail
 go_loopw [5] (fun i wr => ∃ j : Nat, j ≤ n ∧ i = .int .i64 j ∧ Hid (Below w.heap.size w wr)) (fun i _ => n - (intOf i).toNat)
 case atStart => exact ⟨0, by omega, rfl, zaa Br⟩
 case round =>
  obtain ⟨j, hj, rfl, HB⟩ := hrel
  have bj : (j : Int) ≤ 140737488355328 := by omega
  by_cases hlt : j < n
  ·have hltI : (j : Int) < (n : Int) := by omega
   obtain ⟨b, off, x, ka, kc, va, vc, rfl, hb, hci, c0, c1, c2, c3, c4, hk, hv⟩ := (HA.out.on HB.out).item j hlt
   obtain ⟨b', off', x', ka', kc', va', vc', rfl, hb', hci', d0, d1, d2, d3, d4, hk', hv'⟩ := (HC.out.on HB.out).item j hlt
   rw [hci] at hci'
   injection hci' with hxx
   subst hxx
   have HS : Hid (∀ u, Below wr.heap.size wr u → Calls Tryz.prog 59 #[.agg #[.slice ka x.key.length kc, .int .i64 x.kd, .slice va x.val.length vc, .int .i64 x.pg, .int .i64 x.ct], .agg #[.slice ka' x.key.length kc', .int .i64 x.kd, .slice va' x.val.length vc', .int .i64 x.pg, .int .i64 x.ct]] u fun e w' => e = .returned (.bool true) ∧ Below wr.heap.size wr w') :=
    zaa fun u hu => (same_self x ka ka' va va' kc kc' vc vc' u (hk.on Lr hu) (hk'.on Lr hu) (hv.on Lr hu) (hv'.on Lr hu)).mono fun e w' h => ⟨h.1, zab hu Lr h.2⟩
   clear hk hk' hv hv' hci
   go_wp2_with fail
   go_region_with (first | (go_at_call 59; refine (HS.out _ ?_).mono ?_; (repeat (first | exact Br | apply Below.drew | apply below_drewN)); rintro e w1 ⟨rfl, hb1⟩))
   all_goals
    go_wp2
    go_roundw
    case rel => exact ⟨j + 1, by omega, by go_num, zaa (zab HB.out Lr hb1)⟩
    case measure => simp [intOf]; omega
  ·obtain rfl : j = n := by omega
   have hlI : ¬ (j : Int) < (j : Int) := by omega
   go_wp2
   go_ret
   exact ⟨rfl, HB⟩
structure Asks (w : World) (a : Nat) (k : Int) (n : Nat) (s : Qs) : Prop where
 len : Calls Tryz.prog 26 #[.pointer (some ⟨a, 0, none⟩)] w fun e w' => e = .returned (.int .i64 (s.cs.length : Int)) ∧ w' = w
 kind : Calls Tryz.prog 21 #[.pointer (some ⟨a, 0, none⟩)] w fun e w' => e = .returned (.int .i64 k) ∧ w' = w
 waste : Calls Tryz.prog 16 #[.pointer (some ⟨a, 0, none⟩)] w fun e w' => e = .returned (.int .i64 (s.ws : Int)) ∧ w' = w
 used : Calls Tryz.prog 17 #[.pointer (some ⟨a, 0, none⟩)] w fun e w' => e = .returned (.int .i64 ((szQ k s.P.length s.cs : Nat) : Int)) ∧ Hid (Below w.heap.size w w')
 cell : ∀ x : Int, Calls Tryz.prog 58 #[.pointer (some ⟨a, 0, none⟩), .int .i64 x] w (CelQ (cellQ s.cs x) (if 0 ≤ x ∧ x < (s.cs.length : Int) then 0 else 64) w)
 find : ∀ (qo : Option Addr) (qn qc : Nat) (q : List Int), Sl w qo qn qc q → Calls Tryz.prog 25 #[.pointer (some ⟨a, 0, none⟩), .slice qo qn qc] w fun e w' => zbk s.cs q w e w'
 near : ∀ (qo : Option Addr) (qn qc : Nat) (q : List Int) (hint : Int), Sl w qo qn qc q → Calls Tryz.prog 60 #[.pointer (some ⟨a, 0, none⟩), .slice qo qn qc, .int .i64 hint] w fun e w' => zbk s.cs q w e w'
theorem Pk.asks {w : World} {K : Nat → Prop} {a : Nat} {k : Int} {n : Nat} {s : Qs} (h : Pk w K a k n s) (hn : pw n) : Asks w a k n s := by
 have hn2 := zai hn
 obtain ⟨po, pn, pc, bo, bn, bc, so, sn, sc, body, st, hA⟩ := h
 obtain ⟨l1, l2, l3, l4, l5⟩ := hA.lens
 have hpg := hA.pgq hn2.2
 have hfit := hA.ok.fit
 have hfe := zca k s
 refine ⟨?_, kindW_any w a k n _ _ _ _ hA.pg.row, waste_any w a k n _ _ _ _ hA.pg.row, ?_, fun x => cellQ_any w a k n po pn pc bo bn bc so sn sc _ s.P body st s.cs hpg hA.lay x, fun qo qn qc q hq => findQ_any w a k n po pn pc bo bn bc so sn sc _ s.P body st s.cs hpg hA.lay hA.ok.rs (by omega) (by omega) qo qn qc q hq, fun qo qn qc q hint hq => nearQ_any w a k n po pn pc bo bn bc so sn sc _ s.P body st s.cs hpg hA.lay hA.ok.rs (by omega) (by omega) qo qn qc q hq hint⟩
 ·rw [l4]
  exact zba w a k n po pn pc bo bn bc so sn sc _ s.P body st hpg
 ·exact usedW_any w a k n po pn pc bo bn bc so sn sc s.ws hA.pg.row (by omega) (by omega) (by omega) (filQ k s) _ (by omega) hfe
theorem Pk.bytes {w : World} {K : Nat → Prop} {a : Nat} {k : Int} {n : Nat} {s : Qs} (h : Pk w K a k n s) (hn : pw n) (hk : isKd k) (ht : Tab w) (h0 : 0 < w.heap.size) :
  Calls Tryz.prog 18 #[.pointer (some ⟨a, 0, none⟩)] w fun e w' => ∃ g, e = .returned (.slice (some ⟨g, 0, none⟩) n n) ∧ Hid (w.heap.size ≤ g ∧ Bk w' g (pkB k n s.cs)) ∧ Hid (Below w.heap.size w w') := by
 have hn2 := zai hn
 have hl := h.ok.lay
 obtain ⟨po, pn, pc, bo, bn, bc, so, sn, sc, body, st, hA⟩ := h
 exact bytesQ_any w a k n po pn pc bo bn bc so sn sc _ s.P body st s.cs (hA.pgq hn2.2) hA.lay hA.ok.rs hk hn hl ht h0
theorem chk_of {k p : Int} : ∀ (pr : Option (List Int)) (ds : List Cl), (∀ c ∈ ds, mayP k p c) → Rs ds → (∀ c ∈ ds, zaq pr c.key) → chk k p pr ds = 0
 | _, [], _, _, _ => rfl
 | pr, c :: r, h1, h2, h3 => by
  unfold Rs at h2
  rw [List.pairwise_cons] at h2
  unfold chk
  rw [if_pos (h1 c (by simp)), if_pos (h3 c (by simp))]
  exact chk_of (some c.key) r (fun d hd => h1 d (by simp [hd])) h2.2 (fun d hd => h2.1 d hd)
theorem Qok.pkwf {k : Int} {n : Nat} {s : Qs} (h : Qok k n s) (hn : pw n) (hk : isKd k) : Wf (pkB k n s.cs) ∧ (pkB k n s.cs).length = n := by
 have hn2 := zai hn
 exact ⟨pkB_wf (by unfold isKd at hk; omega) (fun c hc => ⟨h.wf c hc, (h.may c hc).fit (by omega)⟩), pkB_length _ _ _ h.lay⟩
theorem Pk.new {w : World} {a : Nat} {k : Int} {n : Nat} (hn : pw n) (h : QR w a k n (.slice none 0 0) (.slice none 0 0) (.slice none 0 0) 0) (B : Nat) (hB : B ≤ a) : Pk w (fun b => B ≤ b ∧ b < w.heap.size) a k n ⟨[], [], 0⟩ := by
 have hn2 := zai hn
 refine ⟨none, 0, 0, none, 0, 0, none, 0, 0, [], [], ⟨⟨h, Sl.nil_any _ _ _ (fun _ => rfl), OwnB.nil _ _, OwnN.nil _ _, .inl rfl, Nat.zero_le _⟩, ⟨rfl, fun c hc => ?_, (fun c hc => by cases hc), (fun i c hi => by simp at hi)⟩, Wf.nil, .inl rfl, ⟨fun c hc => ?_, List.Pairwise.nil, (fun c hc => by cases hc), (fun c hc => by cases hc), ?_⟩, ?_, ⟨hB, zag h⟩, (fun g e => by cases e), (fun g e => by cases e), .inl rfl, (fun b e => e.2)⟩⟩
 ·unfold ktl at hc
  split at hc <;> simp at hc
 ·unfold ktl at hc
  split at hc <;> simp at hc
 ·unfold filQ lvQ
  simp [qbd]
  omega
 ·unfold lvQ
  simp [qbd]
theorem OwnB.sl8 {w : World} {B : Nat} {ao : Option Addr} {n c : Nat} {l : List Int} (h : OwnB w B (.slice ao n c) l) (hw : Wf l) (hl : l.length ≤ 140737488355328) : Sl w ao n c l := by
 obtain ⟨ao', c', e, hs, _⟩ := h.sl hw hl
 injection e with e1 e2 e3
 subst e1 e3
 rw [← e2] at hs
 exact hs
theorem beg_spl {k : Int} {P : List Int} {cs : List Cl} (h : Beg k P cs) {i j : Nat} (hij : j = i ∨ j = i + 1) (hj : j ≤ cs.length) (hk : j = i → ¬ (k = 3 ∧ i = 0)) {c : Cl} (hb : c.key.take (hdQ k i P).length = hdQ k i P) : Beg k P (spl cs i j c) := by
 refine beg_of fun q d hd hq => ?_
 rw [zbq _ _ _ _ (by omega)] at hd
 split at hd
 ·exact h d (zaw hd hq)
 ·split at hd
  ·injection hd with hd
   subst hd
   unfold hdQ at hb
   rwa [if_neg (by omega)] at hb
  ·exact h d (zaw hd (by omega))
theorem inPl.lay {k : Int} {n : Nat} {s : Qs} (h : Qok k n s) {i j : Nat} (hij : j = i ∨ j = i + 1) (hj : j ≤ s.cs.length) {c : Cl} (hm : mayP k n c) (hw : c.Wf) (ho : zau s.cs i j c) (hin : inPl k n s i j c) : Qok k n ⟨s.P, spl s.cs i j c, s.ws + gone k s i j⟩ :=
 h.put hij hj hm hw ho hin (beg_spl h.beg hij hj (fun e f => hin.1 ⟨e, f⟩) hin.2.1)
theorem RfR.put {k : Int} {n : Nat} {s : Qs} (h : Qok k n s) {i j : Nat} (hij : j = i ∨ j = i + 1) (hj : j ≤ s.cs.length) {c : Cl} (hw : c.Wf) {code : Int} (hr : RfR k n (spl s.cs i j c) i c code) :
  (code = 0 ∧ mayP k n c ∧ zau s.cs i j c ∧ szQ k (shP k (spl s.cs i j c)).length (spl s.cs i j c) ≤ n) ∨ (¬ code = 0 ∧ PutR k n s i j c code s) := by
 have hi : i ≤ s.cs.length := by omega
 rcases hr with ⟨h1, rfl⟩ | ⟨h1, h2, rfl⟩ | ⟨h1, h2, h3, rfl⟩ | ⟨h1, h2, h3, rfl⟩
 ·exact .inr ⟨by decide, .inl ⟨h1, rfl, rfl⟩⟩
 ·exact .inr ⟨by decide, .inr (.inl ⟨h1, fun e => h2 ((ordD_spl hi).2 e), rfl, rfl⟩)⟩
 ·refine .inr ⟨by decide, .inr (.inr ⟨h1, (ordD_spl hi).1 h2, .inr ⟨fun e => h3 (inPl.lay h hij hj h1 hw ((ordD_spl hi).1 h2) e).lay, .inr ⟨h3, rfl, rfl⟩⟩⟩)⟩
 ·exact .inl ⟨rfl, h1, (ordD_spl hi).1 h2, h3⟩
theorem Qok.laid {k : Int} {n : Nat} {s : Qs} (h : Qok k n s) {i j : Nat} (hij : j = i ∨ j = i + 1) (hj : j ≤ s.cs.length) {c : Cl} (hm : mayP k n c) (hw : c.Wf) (ho : zau s.cs i j c) (hz : szQ k (shP k (spl s.cs i j c)).length (spl s.cs i j c) ≤ n) : Qok k n ⟨shP k (spl s.cs i j c), spl s.cs i j c, 0⟩ := by
 refine ⟨zbe k _, rs_spl h.rs (by omega) hj ho, fun d hd => ?_, fun d hd => ?_, ?_⟩
 ·rcases zbr hd with rfl | hd
  ·exact hm
  ·exact h.may d hd
 ·rcases zbr hd with rfl | hd
  ·exact hw
  ·exact h.wf d hd
 ·rw [zca]
  simpa using hz
theorem full_ins7 {k : Int} {n : Nat} {s : Qs} {i : Nat} (hi : i ≤ s.cs.length) {c : Cl} (hk : ¬ (k = 3 ∧ i = 0)) (hb : c.key.take s.P.length = s.P) : inPl k n s i i c ↔ ¬ n < szQ k s.P.length (spl s.cs i i c) + s.ws := by
 have h1 := zca k ⟨s.P, spl s.cs i i c, s.ws⟩
 have h2 := lvQ_ins k s.P s.cs i c hi hk
 have h3 := zbx s.cs i i c hi
 have h5 : hdQ k i s.P = s.P := by unfold hdQ; rw [if_neg hk]
 unfold inPl
 rw [h5]
 unfold filQ at *
 simp only at h1
 constructor
 ·rintro ⟨_, _, h⟩
  omega
 ·intro h
  exact ⟨fun e => hk e.2, hb, by omega⟩
theorem gone_ins (k : Int) (s : Qs) (i : Nat) : gone k s i i = 0 := by unfold gone; rw [if_pos rfl]
theorem gone_set {k : Int} {s : Qs} {i : Nat} {d : Cl} (hd : s.cs[i]? = some d) : gone k s i (i + 1) = (qB (hdQ k i s.P).length d).length := by unfold gone; rw [if_neg (by omega), hd]
theorem zcm {k : Int} {n : Nat} {s : Qs} {i : Nat} {d : Cl} (hd : s.cs[i]? = some d) {c : Cl} (hb : c.key.take (hdQ k i s.P).length = hdQ k i s.P) : inPl k n s i (i + 1) c ↔ ¬ n < szQ k s.P.length (spl s.cs i (i + 1) c) + (s.ws + (qB (hdQ k i s.P).length d).length) := by
 have hi := (zH.1 hd).1
 have h1 := zca k ⟨s.P, spl s.cs i (i + 1) c, s.ws⟩
 have h2 := lvQ_set k s.P s.cs i (i + 1) c d rfl hd
 have h3 := zbx s.cs i (i + 1) c (by omega)
 unfold inPl filQ at *
 simp only at h1
 constructor
 ·rintro ⟨_, _, h⟩
  omega
 ·intro h
  exact ⟨fun e => by omega, hb, by omega⟩
theorem OwnB.agr7 {w u : World} {B : Nat} {v : Value} {l : List Int} (h : OwnB w B v l) (ha : ∀ g, v.ownBlock = some g → u.heap[g]? = w.heap[g]?) : OwnB u B v l := by
 unfold OwnB at *
 refine ⟨h.1, ?_⟩
 rcases h.2 with h3 | ⟨g, cap, cur, e, hg, hh, r⟩
 ·exact .inl h3
 ·exact .inr ⟨g, cap, cur, e, hg, (ha g (by rw [e]; rfl)).trans hh, r⟩
structure Mid (w0 w : World) (K : Nat → Prop) (r : Nat) (k : Int) (n : Nat) (lo : Option Addr) (N lc : Nat) (vs : List Value) (cs : List Cl) (so : Option Addr) (sn sc : Nat) (P : List Int) (ws : Nat) : Prop where
 row : QD w r k n (.slice lo N lc) (.slice so sn sc) (ws : Int)
 cells : RwK w (Zk K w0 w) lo N lc vs cs
 pre : ∀ u, Agr (Zk K w0 w) w u → Sl u so sn sc P
 cf : Cf (· = r) w0 w
 nr : ¬ K r
 rl : r < w0.heap.size
 kl : ∀ b, K b → b < w0.heap.size
theorem Mid.start {w : World} {K : Nat → Prop} {r : Nat} {k : Int} {n : Nat} {s : Qs} {lo : Option Addr} {N lc : Nat} {vs : List Value} {so : Option Addr} {sn sc : Nat} (h : DmA w K r k n s lo N lc vs so sn sc) : Mid w w K r k n lo N lc vs s.cs so sn sc s.P s.ws :=
 ⟨h.row, h.cells.wide (fun _ e => .inl e), fun u hu => h.pre u (hu.sub fun _ e => .inl e), Cf.refl _ _, h.nr, h.rl, h.kl⟩
theorem zk_agr {K : Nat → Prop} {w0 w w' : World} {r : Nat} (hr : r < w0.heap.size) (hn : ¬ K r) (hk : ∀ b, K b → b < w0.heap.size) (hs : w0.heap.size ≤ w.heap.size) (hc : Cf (· = r) w w') : Agr (Zk K w0 w) w w' :=
 Agr.cf (Zk.lt hk hs) hc (fun _ hx e => Zk.nr hn hr (e ▸ hx))
theorem zk_sub {K : Nat → Prop} {w0 w w' : World} (hs : w.heap.size ≤ w'.heap.size) : ∀ b, Zk K w0 w b → Zk K w0 w' b := by
 rintro b (e | e)
 ·exact .inl e
 ·exact .inr ⟨e.1, zO e.2 hs⟩
theorem Mid.set {w0 w w' : World} {K : Nat → Prop} {r : Nat} {k : Int} {n : Nat} {lo : Option Addr} {N lc : Nat} {vs : List Value} {cs : List Cl} {so : Option Addr} {sn sc : Nat} {P : List Int} {ws : Nat} (h : Mid w0 w K r k n lo N lc vs cs so sn sc P ws) (hc : Cf (· = r) w w') {ws' : Nat} (hq : QD w' r k n (.slice lo N lc) (.slice so sn sc) (ws' : Int)) : Mid w0 w' K r k n lo N lc vs cs so sn sc P ws' := by
 have ha := zk_agr h.rl h.nr h.kl h.cf.size hc
 exact ⟨hq, (h.cells.keep ha).wide (zk_sub hc.size), fun u hu => h.pre u (ha.trans (hu.sub (zk_sub hc.size))), h.cf.go hc, h.nr, h.rl, h.kl⟩
theorem Mid.go {w0 w w' : World} {K : Nat → Prop} {r : Nat} {k : Int} {n : Nat} {lo : Option Addr} {N lc : Nat} {vs : List Value} {cs : List Cl} {so : Option Addr} {sn sc : Nat} {P : List Int} {ws : Nat} (h : Mid w0 w K r k n lo N lc vs cs so sn sc P ws) (hb : Below w.heap.size w w') : Mid w0 w' K r k n lo N lc vs cs so sn sc P ws :=
 h.set (Cf.of_below hb) (zaf h.row hb)
theorem Mid.lt {w0 w : World} {K : Nat → Prop} {r : Nat} {k : Int} {n : Nat} {lo : Option Addr} {N lc : Nat} {vs : List Value} {cs : List Cl} {so : Option Addr} {sn sc : Nat} {P : List Int} {ws : Nat} (h : Mid w0 w K r k n lo N lc vs cs so sn sc P ws) : ∀ b, Zk K w0 w b → b < w.heap.size := Zk.lt h.kl h.cf.size
theorem Mid.dm {w0 w : World} {K : Nat → Prop} {r : Nat} {k : Int} {n : Nat} {lo : Option Addr} {N lc : Nat} {vs : List Value} {cs : List Cl} {so : Option Addr} {sn sc : Nat} {P : List Int} {ws : Nat} (h : Mid w0 w K r k n lo N lc vs cs so sn sc P ws) (hq : Qok k n ⟨P, cs, ws⟩) : Dm w (Zk K w0 w) r k n ⟨P, cs, ws⟩ :=
 ⟨lo, N, lc, vs, so, sn, sc, ⟨h.row, h.cells, h.pre, hq, Zk.nr h.nr h.rl, h.lt⟩⟩
theorem Mid.chg {w0 x u : World} {K : Nat → Prop} {r : Nat} {k : Int} {n : Nat} {lo : Option Addr} {N lc : Nat} {vs : List Value} {cs : List Cl} {so : Option Addr} {sn sc : Nat} {P : List Int} {ws : Nat} (h : Mid w0 x K r k n lo N lc vs cs so sn sc P ws) {i j : Nat} (hij : i ≤ j) (hj : j ≤ N) {c : Cl} (hw : c.Wf) (h1 : c.key.length ≤ 140737488355328) (h2 : c.val.length ≤ 140737488355328) {e : Ending} (hc : DchTo x i j N vs c e u) :
  ∃ lo' lc' vs', e = .returned (.slice lo' (i + 1 + (N - j)) lc') ∧ Hid (RwK u (Zk K w0 u) lo' (i + 1 + (N - j)) lc' vs' (spl cs i j c)) ∧ Hid (Below x.heap.size x u) := by
 obtain ⟨v, ao, a2, bo, b2, rfl, HO, HKV, HB⟩ := hc
 have ho := HO.out
 rcases ho.2 with ⟨_, h0⟩ | ⟨g, cap, cur, rfl, hg, hh, rr⟩
 ·omega
 ·refine ⟨some ⟨g, 0, none⟩, cap, _, rfl, zaa ⟨⟨ho.1, .inr ⟨g, cap, cur, rfl, Nat.zero_le _, hh, rr⟩⟩, ?_, ?_, ?_⟩, HB⟩
  ·rw [zbx _ _ _ _ (by have := h.cells.len; omega), h.cells.len]
  ·intro z hz
   simp only [Value.ownBlock] at hz
   injection hz with hz
   subst hz
   exact .inr ⟨zN h.cf.size hg, zag hh⟩
  ·intro y hy
   have hz : ∀ {v : Value} {l : List Int}, OwnB u x.heap.size v l → OwnB y x.heap.size v l := fun {v l} ho => ho.agr7 fun g e => hy g (.inr ⟨zN h.cf.size (ho.blk e).1, (ho.blk e).2⟩)
   have hr := h.cells.rows y ((Agr.below h.lt HB.out).trans (hy.sub (zk_sub HB.out.size)))
   refine Row5.append (hr.drop j) (Row5.append ?_ (hr.take i))
   exact ⟨ao, a2, bo, b2, [], rfl, OwnB.sl8 (hz HKV.out.1) hw.1 h1, OwnB.sl8 (hz HKV.out.2) hw.2 h2, rfl⟩
theorem Mid.hang {w0 w : World} {K : Nat → Prop} {r : Nat} {k : Int} {n : Nat} {lo : Option Addr} {N lc : Nat} {vs : List Value} {cs : List Cl} {so : Option Addr} {sn sc : Nat} {P : List Int} {ws : Nat} (h : Mid w0 w K r k n lo N lc vs cs so sn sc P ws) {lo' : Option Addr} {N' lc' : Nat} {vs' : List Value} {ds : List Cl} (hr : RwK w (Zk K w0 w) lo' N' lc' vs' ds) : Mid w0 (w.setCell ⟨r, 2, none⟩ (.slice lo' N' lc')) K r k n lo' N' lc' vs' ds so sn sc P ws := by
 have hc : Cf (· = r) w (w.setCell ⟨r, 2, none⟩ (.slice lo' N' lc')) := Cf.set _ _ _ _
 have ha := zk_agr h.rl h.nr h.kl h.cf.size hc
 exact ⟨h.row.set2 _, (hr.keep ha).wide (zk_sub hc.size), fun u hu => h.pre u (ha.trans (hu.sub (zk_sub hc.size))), h.cf.go hc, h.nr, h.rl, h.kl⟩
theorem Sl.qd {w w' : World} {r : Nat} {k : Int} {n : Nat} {lv sv : Value} {ws : Int} (hq : QD w r k n lv sv ws) (hl : (∃ a b c, lv = .slice a b c) ∧ ∃ a b c, sv = .slice a b c) (hc : Cf (· = r) w w') {ao : Option Addr} {m c : Nat} {l : List Int} (h : Sl w ao m c l) : Sl w' ao m c l := by
 refine ⟨h.hlen, h.hcap, h.hroom, h.wf, h.hnil, ?_⟩
 rcases h.hat with h0 | ⟨b, off, e, hb, hat⟩
 ·exact .inl h0
 ·by_cases h0 : m = 0
  ·exact .inl h0
  ·refine .inr ⟨b, off, e, zO hb hc.size, fun i hi => ?_⟩
   have hbr : ¬ b = r := by
    rintro rfl
    have h1 := hat 0 (by omega)
    unfold QD at hq
    rw [cell_of_row _ _ _ _ _ _ hq] at h1
    obtain ⟨⟨a1, b1, c1, rfl⟩, a2, b2, c2, rfl⟩ := hl
    match off, h1 with
    | 0, h1 => simp at h1
    | 1, h1 => simp at h1
    | 2, h1 => simp at h1
    | 3, h1 => simp at h1
    | 4, h1 => simp at h1
    | _ + 5, h1 => simp at h1
   rw [← hat i hi]
   simp only [World.cell?, hc.block b hb hbr]
end Go.Proofs.YtfgffajgfgifhaaGreatDoor
