import Derived.Test.YtbkhjeacmmbabaaGreatDoorJ31
import Derived.Handy
import Derived.Laws.EntriesVeiled
import Derived.WideLaws
namespace Go.Proofs.YtbkhjeacmmbabaaGreatDoor
set_option maxRecDepth 100000
set_option maxHeartbeats 4000000
open Go.RowKit
def KXt (w : World) (lo hi b off : Nat) (c : Cl) : Prop :=
 ∃ a1 c1 g2, w.cell? ⟨b, off, none⟩ = some (.slice a1 c.key.length c1) ∧ w.cell? ⟨b, off + 1, none⟩ = some (.int .i64 c.kd) ∧ w.cell? ⟨b, off + 2, none⟩ = some (.slice (some ⟨g2, 0, none⟩) c.val.length c.val.length) ∧ w.cell? ⟨b, off + 3, none⟩ = some (.int .i64 c.pg) ∧ w.cell? ⟨b, off + 4, none⟩ = some (.int .i64 c.ct) ∧ OwnB w lo (.slice a1 c.key.length c1) c.key ∧ Bk w g2 c.val ∧ (∀ z, (Value.slice a1 c.key.length c1).ownBlock = some z → z < hi) ∧ lo ≤ g2 ∧ g2 < hi ∧ (Value.slice a1 c.key.length c1).ownBlock ≠ some g2
theorem KXt.on {w w' : World} {lo hi b off : Nat} {c : Cl} (h : KXt w lo hi b off c) (hb : b < w.heap.size) (hB : Below w.heap.size w w') : KXt w' lo hi b off c := by
 obtain ⟨a1, c1, g2, h0, h1, h2, h3, h4, h5, h6, h7⟩ := h
 exact ⟨a1, c1, g2, (hB.cell (p := ⟨b, off, none⟩) hb).trans h0, (hB.cell (p := ⟨b, off + 1, none⟩) hb).trans h1, (hB.cell (p := ⟨b, off + 2, none⟩) hb).trans h2, (hB.cell (p := ⟨b, off + 3, none⟩) hb).trans h3, (hB.cell (p := ⟨b, off + 4, none⟩) hb).trans h4, h5.on Lr hB, h6.on hB, h7⟩
theorem KXt.put {w : World} {lo hi b N i j : Nat} {c : Cl} {vs : List Value} (h : KXt w lo hi b (i * 5) c) (hr : RowC w b N) (hij : i < j) : KXt (w.setCells b (j * 5) vs) lo hi b (i * 5) c := by
 obtain ⟨a1, c1, g2, h0, h1, h2, h3, h4, h5, h6, h7⟩ := h
 have ho : ∀ d, d < 5 → (w.setCells b (j * 5) vs).cell? ⟨b, i * 5 + d, none⟩ = w.cell? ⟨b, i * 5 + d, none⟩ := fun d hd => World.cell?_setCells_out b _ _ w _ (fun _ _ => .inl (by simp only; omega))
 exact ⟨a1, c1, g2, (ho 0 (by omega)).trans h0, (ho 1 (by omega)).trans h1, (ho 2 (by omega)).trans h2, (ho 3 (by omega)).trans h3, (ho 4 (by omega)).trans h4, h5.sets hr, h6.sets (hr.ne h6), h7⟩
theorem KXt.new {w : World} {lo hi b N j : Nat} {c : Cl} {a1 : Option Addr} {c1 g2 : Nat} (hr : RowC w b N) (hj : j * 5 + 5 ≤ 5 * N) (h1 : OwnB w lo (.slice a1 c.key.length c1) c.key) (hz : ∀ z, (Value.slice a1 c.key.length c1).ownBlock = some z → z < hi) (h2 : Bk w g2 c.val) (h3 : lo ≤ g2) (h5 : g2 < hi) (h4 : (Value.slice a1 c.key.length c1).ownBlock ≠ some g2) :
  KXt (w.setCells b (j * 5) [.slice a1 c.key.length c1, .int .i64 c.kd, .slice (some ⟨g2, 0, none⟩) c.val.length c.val.length, .int .i64 c.pg, .int .i64 c.ct]) lo hi b (j * 5) c := by
 have h := World.rangeAt_setCells_same w b (j * 5) [.slice a1 c.key.length c1, .int .i64 c.kd, .slice (some ⟨g2, 0, none⟩) c.val.length c.val.length, .int .i64 c.pg, .int .i64 c.ct] (hr.there hj)
 exact ⟨a1, c1, g2, h 0 _ rfl, h 1 _ rfl, h 2 _ rfl, h 3 _ rfl, h 4 _ rfl, h1.sets hr, h2.sets (hr.ne h2), hz, h3, h5, h4⟩
theorem sets_size7 : ∀ (vs : List Value) (w : World) (b j : Nat), (w.setCells b j vs).heap.size = w.heap.size
 | [], _, _, _ => rfl
 | v :: r, w, b, j => (sets_size7 r (w.setCell ⟨b, j, none⟩ v) b (j + 1)).trans (by simp)
def DecQo (l : List Int) (w : World) (e : Ending) (w' : World) : Prop :=
 ∃ k ao n cap c, e = .returned (.tuple #[.int .i64 k, .slice ao n cap, .int .i64 c]) ∧ Hid (Below w.heap.size w w') ∧
  Hid ((c = 60 ∧ k = 0 ∧ ao = none ∧ n = 0 ∧ cap = 0 ∧ ¬ ∃ cs, IsQ (l.getD 0 0) l.length cs l) ∨
   ∃ (cs : List Cl) (g : Nat) (P : Nat → Nat), c = 0 ∧ k = l.getD 0 0 ∧ ao = some ⟨g, 0, none⟩ ∧ n = cs.length ∧ cap = cs.length ∧ IsQ (l.getD 0 0) l.length cs l ∧ (∀ d ∈ cs, d.Wf) ∧ w.heap.size ≤ g ∧ RowC w' g cs.length ∧ (w.heap.size ≤ P 0 ∧ (∀ i, i < cs.length → P i ≤ P (i + 1)) ∧ P cs.length ≤ w'.heap.size) ∧ ∀ i d, cs[i]? = some d → KXt w' (P i) (P (i + 1)) g (i * 5) d)
theorem decodeQ_own (ao : Option Addr) (n cap : Nat) (l : List Int) (w : World) (hs : Sl w ao n cap l) (ht : Tab w) (h0 : 1 < w.heap.size) :
  Calls Tryz.prog 44 #[.slice ao n cap] w fun e w' => DecQo l w e w' := by
 obtain ⟨ic, hic, hz0, hz1, hz2⟩ := info_parts infoC
 have HO := zaa (openQ_any ao n cap l w hs ht h0)
 have HLEN := zaa hs.hlen
 clear hs ht
 go_enter Tryz.func44, Tryz.ntmps44
 go_wp2_with (go_at_call 49; refine HO.out.mono ?_; rintro e w1 ⟨po, ec, rfl, HB1, HQ⟩; refine Hid.out ?_)
 apply zaa
 clear HO
 rcases HQ.out with ⟨rfl, rfl, hno⟩ | ⟨a, qo, qn, qc, vb, vs, cs, rfl, rfl, his, hwf, hpo⟩
 ·have HNO := zaa hno
  clear HQ hno
  go_wp2
  go_ret3
  exact ⟨0, none, 0, 0, 60, rfl, HB1, zaa (.inl ⟨rfl, rfl, rfl, rfl, rfl, HNO.out⟩)⟩
 ·have HIS := zaa his
  have HWF := zaa hwf
  have hf := zda his.ok his.sz
  have HFIT := zaa hf
  have hz := zbn (l.getD 0 0) (shP (l.getD 0 0) cs).length cs
  have hfit := his.fit
  have hpn := zao his.sz
  obtain ⟨bo, bc, so, sc, rfl, rfl, hpg⟩ := hpo.pg (qbd_wf _ _ _ fun c hc => ⟨hwf c hc, hf c hc⟩) (by omega) (by rw [zbm]; omega)
  have HLAY := zaa (layQ_of (zce (l.getD 0 0) cs) hf)
  obtain ⟨sn, hsn⟩ : ∃ sn, (qst (shP (l.getD 0 0) cs).length (whl (l.getD 0 0)) 0 cs).length = sn := ⟨_, rfl⟩
  rw [hsn] at hpg
  have HPG := zaa hpg
  have HSN : Hid (sn = cs.length) := zaa (by rw [← hsn, zbm])
  have hs1 : sn ≤ 65536 := by rw [HSN.out]; omega
  have HL := zaa (zcz w1 a _ _ qo qn qc bo _ bc so sn sc 0 _ _ _ hpg)
  obtain ⟨c0, c1, c2, c3, c4, c5⟩ := hpg.cells
  clear hpg hpo his hwf HQ hsn hz hfit hpn hf
  go_wp2_with (first
   | (go_at_call 88; refine zac HL.out ?_)
   | (at_make; refine wpList_make_full _ rfl _ _ 29 rfl w.heap.size 50 ic _ 5 Tryz.underlying29 hic hz0 hz1 .i64 .i64 sn sn sn rfl rfl rfl rfl (by rw [hz2]; omega) (by unfold maxLen; omega) HB1.out.size ?_; refine Hid.out ?_))
  apply zaa
  intro w2 ho2 hg2
  have hb2 : Below w1.heap.size w1 w2 := Br.grown hg2 Lr (fun k hk => by cases hk)
  obtain ⟨g, hg⟩ : ∃ g, w1.heap.size = g := ⟨_, rfl⟩
  have HRW : Hid (RowC w2 g sn) := by
   rcases ho2.2 with ⟨h, _⟩ | ⟨q, c, cur, h, _, hh, _, _, hss, _⟩
   ·cases h
   ·cases h
    rw [← hg]
    exact zaa ⟨cur, hh, by rw [hss]; omega⟩
  have HB2 := zaa hb2
  have HWG : Hid (w.heap.size ≤ g) := zaa (by rw [← hg]; exact HB1.out.size)
  have hgs : Below g w1 w2 := by rw [← hg]; exact hb2
  have HGS := zaa hgs
  have HGW := zaa hg
  rw [hg]
  clear ho2 hg2 hb2 HL c0 c1 c2 c3 c4 c5 hgs
  go_wp2_with fail
  go_loopw [22] (fun i wr => ∃ (j : Nat) (P : Nat → Nat), j ≤ sn ∧ i = .int .i64 j ∧ Hid (RowC wr g sn) ∧ Hid (Below g w1 wr) ∧ Hid (∀ i d, i < j → cs[i]? = some d → KXt wr (P i) (P (i + 1)) g (i * 5) d) ∧ Hid (w.heap.size ≤ P 0 ∧ (∀ i, i < j → P i ≤ P (i + 1)) ∧ P j ≤ wr.heap.size)) (fun i _ => sn - (intOf i).toNat)
  case atStart => exact ⟨0, fun _ => w.heap.size, by omega, rfl, HRW, HGS, zaa fun i d hi => by omega, zaa ⟨Lr, fun i hi => by omega, zN HB1.out.size HB2.out.size⟩⟩
  case round =>
   obtain ⟨j, P, hj, rfl, HR, HG, HD, HP⟩ := hrel
   have HBE : Hid (Below w1.heap.size w1 wr) := zaa (by rw [HGW.out]; exact HG.out)
   have HPR := zaa (HPG.out.on HBE.out)
   have bj : (j : Int) ≤ 65536 := by omega
   clear HRW HGS
   by_cases hlt : j < sn
   ·have hltI : (j : Int) < (sn : Int) := by omega
    have hjc : j < cs.length := by rw [← HSN.out]; exact hlt
    obtain ⟨d, hd⟩ : ∃ d, cs[j]? = some d := ⟨_, zI hjc⟩
    have HDJ := zaa hd
    have HV := zaa (pentry_any wr a _ _ qo qn qc bo _ bc so sn sc 0 _ _ _ cs HPR.out HLAY.out j d hd wr.heap.size HPR.out.pre.lo HPR.out.body.lo)
    have hdf := HFIT.out d (List.mem_of_getElem? hd)
    have hdk := hdf.key
    have hdv := hdf.val
    clear hd hjc hdf
    go_wp2_with (go_at_call 89; refine HV.out.mono ?_; rintro e u1 ⟨ho, hn, hc, ko, kn, kc, vo, vn, vc, h, key, rfl, HQ, HB3⟩; refine Hid.out ?_)
    apply zaa
    obtain ⟨q1, q2, q3, q4, _⟩ := HQ.out
    have hkl : hn + kn = d.key.length := by rw [← q4, zG, q1.hlen, q2.hlen]
    have hvl : vn = d.val.length := q3.hlen.symm
    have HVL := zaa hvl
    have HC := zaa (ecopied_any ho hn hc ko kn kc d.kd vo vn vc d.pg d.ct h key d.val d.key.length u1 q1 q2 q3 hkl (by omega))
    rw [q4] at HC
    clear q1 q2 q3 q4 hkl hvl HV HQ
    go_wp2_with (go_at_call 90; refine HC.out.mono ?_; rintro e u2 ⟨a1, k1, g2, rfl, HGG, HB4⟩; refine Hid.out ?_)
    apply zaa
    have HBU : Hid (Below wr.heap.size wr u2) := zaa (zae HB3.out Lr HB4.out)
    have HR2 : Hid (RowC u2 g sn) := zaa (HR.out.on HBU.out)
    have HG2 : Hid (Below g w1 u2) := zaa (HG.out.trans (HBU.out.mono (Nat.le_of_lt HR.out.lt)))
    have hwg : wr.heap.size ≤ u1.heap.size := HB3.out.size
    have HU2S : Hid (wr.heap.size ≤ u2.heap.size) := zaa HBU.out.size
    clear HC
    go_wp2_with (refine put_cell (by rfl) _ _ (by rfl) g (j * 5) sn a1 (some ⟨g2, 0, none⟩) d.key.length k1 vn vn d.kd d.pg d.ct HR2.out (by rfl) (by rfl) (by omega) ?_; intro u3 HU3; refine Hid.out ?_)
    apply zaa
    have HR3 : Hid (RowC u3 g sn) := zaa (by rw [HU3.out]; exact RowC.sets _ _ _ HR2.out)
    have HG3 : Hid (Below g w1 u3) := zaa (by
     rw [HU3.out]
     simp only [World.setCells]
     refine ((((HG2.out.setCell ?_ _).setCell ?_ _).setCell ?_ _).setCell ?_ _).setCell ?_ _ <;> simp)
    obtain ⟨P3, hP3⟩ : ∃ P3 : Nat → Nat, P3 = fun i => if i ≤ j then P i else u2.heap.size := ⟨_, rfl⟩
    have HP3 : Hid (w.heap.size ≤ P3 0 ∧ (∀ i, i < j + 1 → P3 i ≤ P3 (i + 1)) ∧ P3 (j + 1) ≤ u3.heap.size) := zaa (by
     obtain ⟨q1, q2, q3⟩ := HP.out
     have q4 := HU2S.out
     rw [hP3]
     refine ⟨by simpa using q1, fun i hi => ?_, ?_⟩
     ·by_cases e : i = j
      ·simp only [e, Nat.le_refl, if_true, show ¬ j + 1 ≤ j by omega, if_false]
       omega
      ·simp only [show i ≤ j by omega, show i + 1 ≤ j by omega, if_true]
       exact q2 i (by omega)
     ·simp only [show ¬ j + 1 ≤ j by omega, if_false]
      rw [HU3.out, sets_size7]
      exact Lr)
    have HD3 : Hid (∀ i d, i < j + 1 → cs[i]? = some d → KXt u3 (P3 i) (P3 (i + 1)) g (i * 5) d) := by
     refine zaa fun i d' hi hd' => ?_
     rw [HU3.out, hP3]
     by_cases e : i = j
     ·subst e
      rw [HDJ.out] at hd'
      injection hd' with hd'
      subst hd'
      simp only [Nat.le_refl, if_true, show ¬ i + 1 ≤ i by omega, if_false]
      have hp := HP.out.2.2
      have := KXt.new (lo := P i) (hi := u2.heap.size) (c := d) (j := i) HR2.out (by omega) (HGG.out.1.low (by omega)) (fun z hz => (World.ownsRow.lt HGG.out.1 z hz).2) HGG.out.2.1 (by have := HGG.out.2.2.1; omega) (zaf HGG.out.2.1) HGG.out.2.2.2
      rw [← HVL.out] at this
      exact this
     ·simp only [show i ≤ j by omega, show i + 1 ≤ j by omega, if_true]
      exact ((HD.out i d' (by omega) hd').on HR.out.lt HBU.out).put HR2.out (by omega)
    clear hP3
    clear HU3 HR2 HG2 HR HG HD HGG HB3 HB4 HBU HPR HP HU2S
    go_wp2
    go_roundw
    case rel => exact ⟨j + 1, P3, by omega, by go_num, HR3, HG3, HD3, HP3⟩
    case measure => simp [intOf]; omega
   ·obtain rfl : j = sn := by omega
    have hlI : ¬ (j : Int) < (j : Int) := by omega
    obtain ⟨c0, c1, c2, c3, c4, c5⟩ := HPR.out.cells
    go_wp2
    go_ret3
    refine ⟨l.getD 0 0, some ⟨g, 0, none⟩, j, j, 0, rfl, zaa (zae HB1.out Lr HBE.out), zaa (.inr ⟨cs, g, P, rfl, rfl, rfl, HSN.out, HSN.out, HIS.out, HWF.out, HWG.out, ?_, ?_, ?_⟩)⟩
    ·rw [← HSN.out]; exact HR.out
    ·rw [← HSN.out]; exact HP.out
    ·intro i d hd
     refine HD.out i d ?_ hd
     have := (zH.1 hd).1
     rw [HSN.out]
     exact this
theorem zdx {P : Program} {fn : Func} {p u : Tmp} {ty : TypeId} (h : fn.results = #[.cell p ty, .tmp u]) (tmps : Array Value) (w : World) (g : Nat) (t : TypeId) (cs : Array Value) (fr : Nat × Nat) (d : TypeDesc) (v : Value)
  (hp : tmps.getD p undef = .pointer (some ⟨g, 0, none⟩)) (hv : tmps.getD u undef = v) (hg : w.heap[g]? = some (.cells cs t fr))
  (hu : P.underlying ty = some d) (hd : (match d with | .struct _ | .array _ _ => true | _ => false) = true) (hi : (P.info? ty).map (·.size) = some cs.size) :
  (results fn tmps).run P w = .ok (.tuple #[.agg cs, v]) w := by
 subst hv
 rw [results_cell_tmp h, hp]
 simp [asAddr, run_loadVar_row w g t ty cs fr d hg hu hd hi, Result.andThen]
abbrev fV (f : Nat) : Value := .func (.func f) #[] #[]
abbrev ly1 : Array Value := #[fV 34, fV 35, fV 36, fV 37, fV 40]
abbrev ly2 : Array Value := #[fV 42, fV 43, fV 44, fV 45, fV 48]
abbrev ly0 : Array Value := #[.nilFunc, .nilFunc, .nilFunc, .nilFunc, .nilFunc]
theorem sizeLy : (Tryz.prog.info? 61).map (·.size) = some 5 := by kernel_rfl
theorem layout_1 (w : World) : Calls Tryz.prog 17 #[.int .i64 1] w fun e w' => e = .returned (.tuple #[.agg ly1, .bool true]) ∧ Hid (Below w.heap.size w w') := by
 go_enter Tryz.func17, Tryz.ntmps17
 go_wp2
 refine bodyPost_ret (zdx rfl _ _ w.heap.size 61 ly1 (0, 0) _ (.bool true) (by rfl) (by rfl) (heap_alloc_last w _) Tryz.underlying61 rfl sizeLy) rfl ?_
 exact ⟨rfl, zaa (zad Br Lr _)⟩
theorem layout_2 (w : World) : Calls Tryz.prog 17 #[.int .i64 2] w fun e w' => e = .returned (.tuple #[.agg ly2, .bool true]) ∧ Hid (Below w.heap.size w w') := by
 go_enter Tryz.func17, Tryz.ntmps17
 go_wp2
 refine bodyPost_ret (zdx rfl _ _ w.heap.size 61 ly2 (0, 0) _ (.bool true) (by rfl) (by rfl) (heap_alloc_last w _) Tryz.underlying61 rfl sizeLy) rfl ?_
 exact ⟨rfl, zaa (zad Br Lr _)⟩
theorem layout_0 (w : World) (x : Int) (h1 : ¬ x = 1) (h2 : ¬ x = 2) : Calls Tryz.prog 17 #[.int .i64 x] w fun e w' => e = .returned (.tuple #[.agg ly0, .bool false]) ∧ Hid (Below w.heap.size w w') := by
 go_enter Tryz.func17, Tryz.ntmps17
 go_wp2
 refine bodyPost_ret (zdx rfl _ _ w.heap.size 61 ly0 (0, 0) _ (.bool false) (by rfl) (by rfl) (heap_alloc_last w _) Tryz.underlying61 rfl sizeLy) rfl ?_
 exact ⟨rfl, zaa (zad Br Lr _)⟩
abbrev iP (a : Nat) : Value := .iface 80 (.pointer (some ⟨a, 0, none⟩))
abbrev iQ (a : Nat) : Value := .iface 85 (.pointer (some ⟨a, 0, none⟩))
theorem asP_yes (a : Nat) (w : World) : Calls Tryz.prog 38 #[.pointer (some ⟨a, 0, none⟩), .int .i64 0] w fun e w' => e = .returned (.tuple #[iP a, .int .i64 0]) ∧ w' = w := by
 go_enter Tryz.func38, Tryz.ntmps38
 go_wp2
 go_ret2
 exact ⟨rfl, rfl⟩
theorem asP_no (p : Option Addr) (c : Int) (hc : ¬ c = 0) (w : World) : Calls Tryz.prog 38 #[.pointer p, .int .i64 c] w fun e w' => e = .returned (.tuple #[.nilIface, .int .i64 c]) ∧ w' = w := by
 go_enter Tryz.func38, Tryz.ntmps38
 go_wp2
 go_ret2
 exact ⟨rfl, rfl⟩
theorem asQ_yes (a : Nat) (w : World) : Calls Tryz.prog 46 #[.pointer (some ⟨a, 0, none⟩), .int .i64 0] w fun e w' => e = .returned (.tuple #[iQ a, .int .i64 0]) ∧ w' = w := by
 go_enter Tryz.func46, Tryz.ntmps46
 go_wp2
 go_ret2
 exact ⟨rfl, rfl⟩
theorem asQ_no (p : Option Addr) (c : Int) (hc : ¬ c = 0) (w : World) : Calls Tryz.prog 46 #[.pointer p, .int .i64 c] w fun e w' => e = .returned (.tuple #[.nilIface, .int .i64 c]) ∧ w' = w := by
 go_enter Tryz.func46, Tryz.ntmps46
 go_wp2
 go_ret2
 exact ⟨rfl, rfl⟩
theorem OwnN.lowN {w : World} {B C : Nat} {v : Value} {l : List Nat} (h : OwnN w C v l) (hB : B ≤ C) : OwnN w B v l := by
 unfold OwnN at *
 refine ⟨h.1, ?_⟩
 rcases h.2 with h2 | ⟨g, c, cur, e, hg, h4⟩
 ·exact .inl h2
 ·exact .inr ⟨g, c, cur, e, zN hB hg, h4⟩
def ReadPo (l : List Int) (w : World) (e : Ending) (w' : World) : Prop :=
 ∃ po, e = .returned (.pointer po) ∧ Hid (Below w.heap.size w w') ∧ Hid ((po = none ∧ zav l = none) ∨ ∃ a bo bn bc so sn sc cs, po = some ⟨a, 0, none⟩ ∧ w.heap.size ≤ a ∧ zav l = some cs ∧ (∃ gb, bo = some ⟨gb, 0, none⟩ ∧ w.heap.size ≤ gb) ∧ (PgAt w' a (l.getD 0 0) l.length bo bn bc so sn sc cs ∧ Po w' w.heap.size a (l.getD 0 0) l.length (.slice bo bn bc) (.slice so sn sc) cs))
theorem ReadPo.no {l : List Int} {w w' : World} (hb : Below w.heap.size w w') (h : zav l = none) : ReadPo l w (.returned (.pointer none)) w' := ⟨none, rfl, zaa hb, zaa (.inl ⟨rfl, h⟩)⟩
theorem read_tailP (ao : Option Addr) (n cap : Nat) (l : List Int) (w : World) (hs : Sl w ao n cap l) (hn : pw n) (hk : isKd (l.getD 0 0)) :
  Calls Tryz.prog 79 #[.slice ao n cap] w fun e w' => ReadPo l w e w' := by
 have hn2 := zao hn
 have hn3 := hn2.1
 have hn4 := hn2.2
 have hlen := hs.hlen
 have hcap := hs.hcap
 obtain ⟨b, off, rfl, hbl, hc⟩ : ∃ b off, ao = some ⟨b, off, none⟩ ∧ b < w.heap.size ∧ ∀ i, i < n → w.cell? ⟨b, off + i, none⟩ = some (.int .u8 (l.getD i 0)) := by
  rcases hs.hat with h | h
  ·omega
  ·exact h
 have c0 := hc 0 (by omega)
 rw [Nat.add_zero] at c0
 have hk0 := hs.wf.getD 0
 have HE : Hid (zav l = (if frst l < 4 + rdN l 2 2 * 2 ∨ (n : Int) - 4 < frst l then none else part (l.getD 0 0) n (rdN l 2 2).toNat none ((l.drop (frst l).toNat).take (n - 4 - (frst l).toNat)))) := by
  refine zaa ?_
  unfold zav
  rw [hlen, if_pos ⟨hn, hk⟩]
 have hN := zbh l hs.wf 2 2
 have hF4 := zbh l hs.wf 4 2
 obtain ⟨N, hNe⟩ := Int.eq_ofNat_of_zero_le hN.1
 obtain ⟨G, hGe⟩ := Int.eq_ofNat_of_zero_le hF4.1
 obtain ⟨E, hEe⟩ : ∃ E, n - 4 = E := ⟨_, rfl⟩
 have hEI : (n : Int) - 4 = (E : Int) := by omega
 obtain ⟨F, hFe⟩ : ∃ F : Nat, frst l = (F : Int) := by
  unfold frst
  rw [hlen]
  split
  ·exact ⟨G, hGe⟩
  ·exact ⟨E, hEI⟩
 have HFD : Hid (frst l = if 0 < N then (G : Int) else (E : Int)) := by
  refine zaa ?_
  unfold frst
  rw [hNe, hGe, hlen, hEI]
  simp
 rw [hNe, hFe, hEI, Int.toNat_natCast, Int.toNat_natCast] at HE
 rw [hFe] at HFD
 have hNb : N < 65536 := by omega
 have hGb : G < 65536 := by omega
 obtain ⟨k0, hk0e⟩ : ∃ k0, l.getD 0 0 = k0 := ⟨_, rfl⟩
 rw [hk0e] at c0 hk0 hk HE
 obtain ⟨a, ha⟩ : ∃ a, w.heap.size = a := ⟨_, rfl⟩
 have HS2 : Hid (∀ u, Rq w u a k0 n b off cap l → Calls Tryz.prog 121 #[.slice (some ⟨b, off, none⟩) n cap, .int .i64 2] u fun e u' => e = .returned (.int .i64 (N : Int)) ∧ Hid (Rq w u' a k0 n b off cap l)) := by
  refine zaa fun u hu => ?_
  have := zeb u (some ⟨b, off, none⟩) n cap 2 l hu.sl (by omega)
  rw [hNe] at this
  refine (show Calls Tryz.prog 121 #[.slice (some ⟨b, off, none⟩) n cap, .int .i64 2] u _ from this).mono ?_
  rintro e u' ⟨rfl, q, rfl⟩
  exact ⟨rfl, zaa (hu.on (zab Br _))⟩
 have HS4 : Hid (∀ u, Rq w u a k0 n b off cap l → Calls Tryz.prog 121 #[.slice (some ⟨b, off, none⟩) n cap, .int .i64 4] u fun e u' => e = .returned (.int .i64 (G : Int)) ∧ Hid (Rq w u' a k0 n b off cap l)) := by
  refine zaa fun u hu => ?_
  have := zeb u (some ⟨b, off, none⟩) n cap 4 l hu.sl (by omega)
  rw [hGe] at this
  refine (show Calls Tryz.prog 121 #[.slice (some ⟨b, off, none⟩) n cap, .int .i64 4] u _ from this).mono ?_
  rintro e u' ⟨rfl, q, rfl⟩
  exact ⟨rfl, zaa (hu.on (zab Br _))⟩
 have HR0 : Hid (Rq w (w.alloc (.cells #[.int .i64 k0, .int .i64 (n : Int), .slice none 0 0, .slice none 0 0] 118)) a k0 n b off cap l) := by
  refine zaa ⟨?_, hs.on Lr (zad Br Lr _), zad Br Lr _⟩
  rw [← ha]
  exact heap_alloc_last w _
 have d1 : decide (pw (n : Int)) = true := decide_eq_true hn
 have d2 : decide (isKd k0) = true := decide_eq_true hk
 have hw0 : IntKind.i64.wrap k0 = k0 := by rw [IntKind.wrap_i64]; omega
 have HKD := zaa hk
 have HPW := zaa hn
 have HWFL := zaa hs.wf
 have HKE := zaa hk0e
 have HLEN := zaa hlen
 have HEE := zaa hEe
 have bN : (N : Int) < 65536 := by omega
 have bE : (E : Int) ≤ 65536 := by omega
 have k01 := hk0.1
 have k02 := hk0.2
 have hn0 : (0 : Int) < (n : Int) := by omega
 clear hs hc hk hn hNe hGe hN hF4 hFe hk0e hlen hEe hk0 hn2
 go_enter Tryz.func79, Tryz.ntmps79
 go_wp2_with (first | (go_at_call 31; refine zac (zbi _ _) ?_; rw [d1]) | (go_at_call 78; refine zac (zbv _ _) ?_; rw [d2]) | (go_at_call 121; refine (HS2.out _ HR0.out).mono ?_; rintro e u1 ⟨rfl, HR1⟩; refine Hid.out ?_))
 apply zaa
 clear HS2 HR0 c0 hbl
 go_upto_if 36 with fail
 go_cut [5] (fun v u => v = .int .i64 (F : Int) ∧ Hid (Rq w u a k0 n b off cap l))
 case first =>
  by_cases h0 : 0 < N
  ·have h0I : 0 < (N : Int) := by omega
   have HFG : Hid ((F : Int) = (G : Int)) := zaa (by rw [HFD.out, if_pos h0])
   have C4 := zaa (HS4.out _ HR1.out)
   clear h0I HS4 HR1 HE HFD ha d1 d2 hEI bN bE hNb hn0
   obtain ⟨M, rfl⟩ : ∃ M, N = M + 1 := ⟨N - 1, by omega⟩
   clear h0
   go_wp2_with (go_at_call 121; refine C4.out.mono ?_; rintro e u2 ⟨rfl, HR2⟩; refine Hid.out ?_)
   apply zaa
   go_wp2
   go_meet
   exact ⟨by rw [HFG.out], HR2⟩
  ·obtain rfl : N = 0 := by omega
   have HFG : Hid ((F : Int) = (E : Int)) := zaa (by rw [HFD.out]; simp)
   go_wp2
   go_meet
   exact ⟨by rw [HFG.out], HR1⟩
 obtain ⟨rfl, HR2⟩ := hcut
 obtain ⟨u2, hu2⟩ : ∃ u2, u2 = wc := ⟨_, rfl⟩
 subst hu2
 have bF : (F : Int) ≤ 65536 := by
  have := HFD.out
  split at this <;> omega
 clear HR1 HS4 HFD
 by_cases h1 : (F : Int) < 4 + (N : Int) * 2
 ·have HNO : Hid (zav l = none) := zaa (by rw [HE.out, if_pos (.inl h1)])
  go_wp2
  go_ret
  exact ReadPo.no HR2.out.be HNO.out
 ·by_cases h2 : (E : Int) < (F : Int)
  ·have HNO : Hid (zav l = none) := zaa (by rw [HE.out, if_pos (.inr h2)])
   go_wp2
   go_ret
   exact ReadPo.no HR2.out.be HNO.out
  ·have HRM : Hid (zav l = part k0 n N none ((l.drop F).take (E - F))) := zaa (by rw [HE.out, if_neg (by omega), HEE.out])
   clear HE
   have e1 : F ≤ E := by omega
   have e2 : (F : Int) ≤ (E : Int) := by omega
   have e3 : E ≤ cap := by omega
   have e4 : (E : Int) ≤ (cap : Int) := by omega
   have e5 : ¬ cap = F := by omega
   have HCB := zaa (zea (some ⟨b, off + F, none⟩) (E - F) (cap - F) _ u2 (HR2.out.sl.piece F (E - F) (cap - F) (by omega) (by omega)))
   obtain ⟨bn, hbn⟩ : ∃ bn, E - F = bn := ⟨_, rfl⟩
   obtain ⟨BD, hBD⟩ : ∃ BD, (l.drop F).take (E - F) = BD := ⟨_, rfl⟩
   rw [hBD] at HCB HRM
   have HBL : Hid (BD.length = bn) := zaa (by rw [← hBD, zJ, zK, HLEN.out]; omega)
   have HBW : Hid (Wf BD) := zaa (by rw [← hBD]; exact (HWFL.out.drop _).take _)
   rw [hbn] at HCB
   have hbn2 : bn ≤ 65536 := by omega
   obtain ⟨x0, x1, x2, x3⟩ := HR2.out.row.cells
   clear hBD
   go_wp2_with (go_at_call 119; refine HCB.out.mono ?_; rintro e u3 ⟨rfl, HBK, HB3⟩; refine Hid.out ?_)
   apply zaa
   clear HCB x0 x1 x2 x3
   have HRW3 : Hid (PR u3 a k0 n (.slice none 0 0) (.slice none 0 0)) := zaa (zag HR2.out.row HB3.out)
   obtain ⟨x0, x1, x2, x3⟩ := HRW3.out.cells
   have x4 := HRW3.out.free 2
   obtain ⟨gb, hgb⟩ : ∃ gb, u2.heap.size = gb := ⟨_, rfl⟩
   have HGW : Hid (w.heap.size ≤ gb) := zaa (by rw [← hgb]; exact HR2.out.be.size)
   rw [hgb] at HBK ⊢
   have hga : ¬ gb = a := by
    have := zaf HR2.out.row
    omega
   have HRW4 : Hid (PR (u3.setCell ⟨a, 2, none⟩ (.slice (some ⟨gb, 0, none⟩) bn bn)) a k0 n (.slice (some ⟨gb, 0, none⟩) bn bn) (.slice none 0 0)) := zaa (HRW3.out.set2 _)
   have HBK4 : Hid (Bk (u3.setCell ⟨a, 2, none⟩ (.slice (some ⟨gb, 0, none⟩) bn bn)) gb BD) := zaa (HBK.out.cf (Cf.set _ _ _ _) hga)
   have HBE4 : Hid (Below w.heap.size w (u3.setCell ⟨a, 2, none⟩ (.slice (some ⟨gb, 0, none⟩) bn bn))) := zaa ((zae HR2.out.be Lr HB3.out).setCell (p := ⟨a, 2, none⟩) (by simp only; omega) _)
   have HPT := zaa (parted_any N _ a k0 n gb bn BD _ HRW4.out HBK4.out HBL.out HBW.out HPW.out hbn2 (by omega))
   clear HRW3 HBK HB3 HR2 hgb hbn
   go_wp2_with (go_at_call 122; refine HPT.out.mono ?_; rintro e u5 ⟨bb, rfl, HC5, HP5⟩; refine Hid.out ?_)
   apply zaa
   have HBE5 : Hid (Below w.heap.size w u5) := zaa (HBE4.out.trans (HC5.out.below HBE4.out.size (by intro i hi e; omega)))
   have hws : w.heap.size ≤ (u3.setCell ⟨a, 2, none⟩ (.slice (some ⟨gb, 0, none⟩) bn bn)).heap.size := HBE4.out.size
   cases bb with
   | true =>
    go_wp2
    go_ret
    rcases HP5.out with ⟨_, cs, vs, h3, h4, h5, h6⟩ | ⟨h3, _⟩
    ·have hcl := (part_inv _ _ _ _ HBW.out h3).1
     have hb2 := (part_inv _ _ _ _ HBW.out h3).2.1
     obtain ⟨so, sc, rfl, hsn⟩ := h5.sln (by rw [zak, hcl]; omega)
     have hbl0 := HBL.out
     have hlen0 := HLEN.out
     refine ⟨some ⟨a, 0, none⟩, rfl, HBE5, zaa (.inr ⟨a, some ⟨gb, 0, none⟩, bn, bn, so, (sts 0 cs).length, sc, cs, rfl, by omega, HRM.out.trans h3, ⟨gb, rfl, HGW.out⟩, ?_⟩)⟩
     rw [HKE.out, HLEN.out]
     refine ⟨⟨h4, by rw [← hb2]; exact h6.sl HBL.out HBW.out (by omega), hsn⟩, ⟨h4, ?_, h5.lowN (by omega)⟩⟩
     rw [← hb2]
     have h7 := zct h6 HGW.out (by rw [HBL.out]; unfold maxLen; omega)
     rw [HBL.out] at h7
     exact h7
    ·cases h3
   | false =>
    go_wp2
    go_ret
    rcases HP5.out with ⟨h3, _⟩ | ⟨_, h3⟩
    ·cases h3
    ·exact ReadPo.no HBE5.out (HRM.out.trans h3)
theorem read_po (ao : Option Addr) (n cap : Nat) (l : List Int) (w : World) (hs : Sl w ao n cap l) :
  Calls Tryz.prog 79 #[.slice ao n cap] w fun e w' => ReadPo l w e w' := by
 by_cases hn : pw n
 ·by_cases hk : isKd (l.getD 0 0)
  ·exact read_tailP ao n cap l w hs hn hk
  ·have hn2 := zao hn
   have hlen := hs.hlen
   obtain ⟨b, off, rfl, hbl, hc⟩ : ∃ b off, ao = some ⟨b, off, none⟩ ∧ b < w.heap.size ∧ ∀ i, i < n → w.cell? ⟨b, off + i, none⟩ = some (.int .u8 (l.getD i 0)) := by
    rcases hs.hat with h | h
    ·omega
    ·exact h
   have c0 := hc 0 (by omega)
   rw [Nat.add_zero] at c0
   have hk0 := hs.wf.getD 0
   have HNO : Hid (zav l = none) := zaa (by unfold zav; rw [if_neg (fun h => hk h.2)])
   have d1 : decide (pw (n : Int)) = true := decide_eq_true hn
   have d2 : decide (isKd (l.getD 0 0)) = false := decide_eq_false hk
   generalize l.getD 0 0 = k0 at *
   have hw0 : IntKind.i64.wrap k0 = k0 := by rw [IntKind.wrap_i64]; omega
   have hn0 : (0 : Int) < (n : Int) := by omega
   have k01 := hk0.1
   have k02 := hk0.2
   clear hs hc hk hn
   go_enter Tryz.func79, Tryz.ntmps79
   go_wp2_with (first | (go_at_call 31; refine zac (zbi _ _) ?_; rw [d1]) | (go_at_call 78; refine zac (zbv _ _) ?_; rw [d2]))
   go_ret
   exact ReadPo.no Br HNO.out
 ·have hlen := hs.hlen
  have HNO : Hid (zav l = none) := zaa (by unfold zav; rw [hlen, if_neg (fun h => hn h.1)])
  have d1 : decide (pw (n : Int)) = false := decide_eq_false hn
  clear hs hn
  go_enter Tryz.func79, Tryz.ntmps79
  go_wp2_with (go_at_call 31; refine zac (zbi _ _) ?_; rw [d1])
  go_ret
  exact ReadPo.no Br HNO.out
def OpenPo (l : List Int) (w : World) (e : Ending) (w' : World) : Prop :=
 ∃ po k, e = .returned (.tuple #[.pointer po, .int .i64 k]) ∧ Hid (Below w.heap.size w w') ∧ Hid ((po = none ∧ k = 60 ∧ ¬ ∃ cs, Is (l.getD 0 0) l.length cs l) ∨ ∃ a bo bn bc so sn sc cs, po = some ⟨a, 0, none⟩ ∧ k = 0 ∧ w.heap.size ≤ a ∧ Is (l.getD 0 0) l.length cs l ∧ (∀ c ∈ cs, c.Wf) ∧ (∃ gb, bo = some ⟨gb, 0, none⟩ ∧ w.heap.size ≤ gb) ∧ (PgAt w' a (l.getD 0 0) l.length bo bn bc so sn sc cs ∧ Po w' w.heap.size a (l.getD 0 0) l.length (.slice bo bn bc) (.slice so sn sc) cs))
theorem open_po (ao : Option Addr) (n cap : Nat) (l : List Int) (w : World) (hs : Sl w ao n cap l) (ht : Tab w) (h0 : 1 < w.heap.size) :
  Calls Tryz.prog 41 #[.slice ao n cap] w fun e w' => OpenPo l w e w' := by
 have HR := zaa (read_po ao n cap l w hs)
 have HS := zaa hs
 have HT := zaa ht
 clear hs ht
 go_enter Tryz.func41, Tryz.ntmps41
 go_wp2_with (go_at_call 79; refine HR.out.mono ?_; rintro e w1 ⟨po, rfl, HB1, HQ⟩; refine Hid.out ?_)
 apply zaa
 clear HR
 rcases HQ.out with ⟨rfl, hno⟩ | ⟨a, bo, bn, bc, so, sn, sc, cs, rfl, hal, hrm, hbo, hpg⟩
 ·have HNO : Hid (¬ ∃ cs, Is (l.getD 0 0) l.length cs l) := zaa (by
   rintro ⟨cs, h⟩
   have := (readM_of h).1
   rw [hno] at this
   cases this)
  clear HQ hno
  go_wp2
  go_ret2
  exact ⟨none, 60, rfl, HB1, zaa (.inl ⟨rfl, rfl, HNO.out⟩)⟩
 ·have HRM := zaa hrm
  have HPG := zaa hpg
  have HBO := zaa hbo
  have HAL := zaa hal
  obtain ⟨i1, i2, i3, i4, i5, _⟩ := readM_inv HS.out.wf hrm
  have HI := zaa (And.intro i1 (And.intro i2 (And.intro i3 (And.intro i4 i5))))
  have HBY := zaa (bytes_any w1 a _ _ bo bn bc so sn sc cs hpg.1 i1 i2 i4 (HT.out.on HB1.out h0) (zO h0 HB1.out.size) i5)
  clear hrm hpg hal hbo HQ i1 i2 i3 i4 i5
  have hlen := HS.out.hlen
  have HLEN := zaa hlen
  rw [hlen] at HBY
  clear hlen
  have HPL : Hid ((pgB (l.getD 0 0) n cs).length = n) := zaa (by have := HI.out.2.2.2.1; rw [HLEN.out] at this; exact zdq _ _ _ this)
  have HPWF : Hid (Wf (pgB (l.getD 0 0) n cs)) := zaa (pgB_wf (by have := HI.out.1; unfold isKd at this; omega) HI.out.2.2.2.2)
  have hnr := HS.out.hroom
  obtain ⟨PB, hPB⟩ : ∃ PB, pgB (l.getD 0 0) n cs = PB := ⟨_, rfl⟩
  rw [hPB] at HBY HPL HPWF
  have HPB := zaa hPB
  clear hPB
  cases hd : decide (PB = l) with
  | true =>
   have hpl : PB = l := by simpa using hd
   go_wp2_with (first | (go_at_call 74; refine HBY.out.mono ?_; rintro e w2 ⟨g, rfl, hg, HBK, HB2⟩) | (go_at_call 80; refine zac (equal6 _ _ _ _ _ _ PB l _ (HBK.out.sl HPL.out HPWF.out hnr) (HS.out.on Lr (zae HB1.out Lr HB2.out))) ?_; rw [hd]))
   go_ret2
   refine ⟨some ⟨a, 0, none⟩, 0, rfl, zaa (zae HB1.out Lr HB2.out), zaa (.inr ⟨a, bo, bn, bc, so, sn, sc, cs, rfl, rfl, HAL.out, ?_, HI.out.2.2.2.2, HBO.out, HPG.out.1.on HB2.out, HPG.out.2.on HB2.out⟩)⟩
   refine (is_iff HS.out.wf cs).2 ⟨HRM.out, ?_⟩
   rw [HLEN.out, HPB.out]
   exact hpl
  | false =>
   have hpl : ¬ PB = l := by simpa using hd
   have HNO : Hid (¬ ∃ cs, Is (l.getD 0 0) l.length cs l) := zaa (by
    rintro ⟨ds, h⟩
    obtain ⟨h1, h2⟩ := (is_iff HS.out.wf ds).1 h
    rw [HRM.out] at h1
    injection h1 with h1
    subst h1
    rw [HLEN.out, HPB.out] at h2
    exact hpl h2)
   go_wp2_with (first | (go_at_call 74; refine HBY.out.mono ?_; rintro e w2 ⟨g, rfl, hg, HBK, HB2⟩) | (go_at_call 80; refine zac (equal6 _ _ _ _ _ _ PB l _ (HBK.out.sl HPL.out HPWF.out hnr) (HS.out.on Lr (zae HB1.out Lr HB2.out))) ?_; rw [hd]))
   go_ret2
   exact ⟨none, 60, rfl, zaa (zae HB1.out Lr HB2.out), zaa (.inl ⟨rfl, rfl, HNO.out⟩)⟩
def NNewP (k n : Int) (w : World) (e : Ending) (w' : World) : Prop :=
 ∃ v c, e = .returned (.tuple #[v, .int .i64 c]) ∧ Hid (Below w.heap.size w w') ∧ Hid ((v = .nilIface ∧ c = 1 ∧ ¬ (isKd k ∧ pw n)) ∨ ∃ a, v = iP a ∧ c = 0 ∧ isKd k ∧ pw n ∧ w.heap.size ≤ a ∧ PR w' a k n.toNat (.slice none 0 0) (.slice none 0 0))
theorem NNewP.from {k n : Int} {w u w' : World} {e : Ending} (h : NNewP k n u e w') (hb : Below w.heap.size w u) : NNewP k n w e w' := by
 obtain ⟨v, c, rfl, HB, HQ⟩ := h
 refine ⟨v, c, rfl, zaa (zae hb Lr HB.out), zaa ?_⟩
 rcases HQ.out with h | ⟨a, h1, h2, h3, h4, h5, h6⟩
 ·exact .inl h
 ·exact .inr ⟨a, h1, h2, h3, h4, zN hb.size h5, h6⟩
theorem makeP_any (k n : Int) (w : World) : Calls Tryz.prog 37 #[.int .i64 k, .int .i64 n] w (NNewP k n w) := by
 have HN := zaa (new_any k n w)
 go_enter Tryz.func37, Tryz.ntmps37
 go_wp2_with (go_at_call 39; refine HN.out.mono ?_; rintro e w1 ⟨po, c, rfl, HB, HQ⟩; refine Hid.out ?_)
 apply zaa
 clear HN
 rcases HQ.out with ⟨rfl, rfl, hn⟩ | ⟨rfl, rfl, hk, hn, hh⟩
 ·have H1 := zaa hn
  clear HQ hn
  go_wp2_with (go_at_call 38; refine zac (asP_no _ _ (by decide) _) ?_)
  go_ret2
  exact ⟨_, _, rfl, HB, zaa (.inl ⟨rfl, rfl, H1.out⟩)⟩
 ·have H1 := zaa (And.intro hk (And.intro hn hh))
  clear HQ hk hn hh
  go_wp2_with (go_at_call 38; refine zac (asP_yes _ _) ?_)
  go_ret2
  obtain ⟨h1, h2, h3⟩ := H1.out
  have e : n = ((n.toNat : Nat) : Int) := by have := pw_le h2; omega
  refine ⟨_, _, rfl, HB, zaa (.inr ⟨_, rfl, rfl, h1, h2, Lr, ?_⟩)⟩
  unfold PR
  rw [← e]
  exact h3
theorem nnew_1 (k n : Int) (w : World) : Calls Tryz.prog 13 #[.int .i64 1, .int .i64 k, .int .i64 n] w (NNewP k n w) := by
 have HL := zaa (layout_1 w)
 have HM := zaa (fun u => makeP_any k n u)
 go_enter Tryz.func13, Tryz.ntmps13
 go_wp2_with (first | (go_at_call 17; refine HL.out.mono ?_; rintro e w1 ⟨rfl, HB1⟩) | (go_at_call 37; refine (HM.out _).mono ?_; rintro e w2 ⟨v, c, rfl, HB2, HQ2⟩; refine Hid.out ?_))
 apply zaa
 go_wp2
 go_ret2
 exact NNewP.from ⟨v, c, rfl, HB2, HQ2⟩ (zad HB1.out Lr _)
theorem nnew_0 (x k n : Int) (h1 : ¬ x = 1) (h2 : ¬ x = 2) (w : World) : Calls Tryz.prog 13 #[.int .i64 x, .int .i64 k, .int .i64 n] w fun e w' => e = .returned (.tuple #[.nilIface, .int .i64 80]) ∧ Hid (Below w.heap.size w w') := by
 have HL := zaa (layout_0 w x h1 h2)
 clear h1 h2
 go_enter Tryz.func13, Tryz.ntmps13
 go_wp2_with (go_at_call 17; refine HL.out.mono ?_; rintro e w1 ⟨rfl, HB1⟩)
 go_ret2
 exact ⟨rfl, zaa (zad HB1.out Lr _)⟩
def egO (l : List Int) : Int := if l.length < 2 then 0 else l.getD 1 0
theorem zds (ao : Option Addr) (n cap : Nat) (l : List Int) (w : World) (hs : Sl w ao n cap l) :
  Calls Tryz.prog 18 #[.slice ao n cap] w fun e w' => e = .returned (.int .i64 (egO l)) ∧ w' = w := by
 have hlen := hs.hlen
 have hnr := hs.hroom
 unfold egO
 rw [hlen]
 by_cases h : n < 2
 ·rw [if_pos h]
  have hI : (n : Int) < 2 := by omega
  clear hs hlen
  go_enter Tryz.func18, Tryz.ntmps18
  go_wp2
  go_ret
  exact ⟨rfl, rfl⟩
 ·rw [if_neg h]
  have hI : ¬ (n : Int) < 2 := by omega
  have h1 : 1 < n := by omega
  obtain ⟨g, off, rfl, hc⟩ : ∃ g off, ao = some ⟨g, off, none⟩ ∧ w.cell? ⟨g, off + 1, none⟩ = some (.int .u8 (l.getD 1 0)) := by
   rcases hs.hat with h0 | ⟨g, off, e, _, hc⟩
   ·omega
   ·exact ⟨g, off, e, hc 1 h1⟩
  have hb := hs.wf.getD 1
  generalize l.getD 1 0 = x at *
  clear hs hlen
  go_enter Tryz.func18, Tryz.ntmps18
  go_wp2
  go_ret
  exact ⟨rfl, rfl⟩
def cellE (cs : List Cl) (x : Int) : Cl := if 0 ≤ x ∧ x < (cs.length : Int) then (cs[x.toNat]?).getD ⟨[], 0, [], 0, 0⟩ else ⟨[], 0, [], 0, 0⟩
def CelO (c : Cl) (E : Int) (w : World) (e : Ending) (w' : World) : Prop :=
 ∃ ao a2 bo b2, e = .returned (.tuple #[.agg #[.slice ao c.key.length a2, .int .i64 c.kd, .slice bo c.val.length b2, .int .i64 c.pg, .int .i64 c.ct], .int .i64 E]) ∧ Hid (OwnB w' w.heap.size (.slice ao c.key.length a2) c.key ∧ OwnB w' w.heap.size (.slice bo c.val.length b2) c.val ∧ ∀ z, (Value.slice ao c.key.length a2).ownBlock = some z → ¬ (Value.slice bo c.val.length b2).ownBlock = some z) ∧ Hid (Below w.heap.size w w')
theorem cellO_any (w : World) (B a : Nat) (k : Int) (n : Nat) (vb vs : Value) (cs : List Cl) (x : Int) (hp : Po w B a k n vb vs cs) (hw : ∀ c ∈ cs, c.Wf) (hft : ∀ c ∈ cs, c.fit) (hz : szN cs ≤ n) (hn : n ≤ 65536) :
  Calls Tryz.prog 216 #[.pointer (some ⟨a, 0, none⟩), .int .i64 x] w (CelO (cellE cs x) (remE cs x) w) := by
 have hzc := zbb cs
 obtain ⟨s, hs⟩ : ∃ s, w.heap.size = s := ⟨_, rfl⟩
 obtain ⟨y, hy⟩ : ∃ y, w.alloc (.cells #[.slice none 0 0, .int .i64 0, .slice none 0 0, .int .i64 0, .int .i64 0] 50) = y := ⟨_, rfl⟩
 have hby : Below w.heap.size w y := by rw [← hy]; exact zad Br Lr _
 have HRES : Hid (C5 y s (.slice none 0 0) (.int .i64 0) (.slice none 0 0) (.int .i64 0) (.int .i64 0)) := by rw [← hy, ← hs]; exact zaa (C5.box _ _ _ _ _ _)
 have HBY := zaa hby
 have hpy := hp.on hby
 obtain ⟨bo, bc, rfl⟩ := hpy.body.slice
 obtain ⟨so, sc, rfl⟩ := hpy.starts.shape
 rw [zak] at hpy
 obtain ⟨sn, hsn⟩ : ∃ sn, cs.length = sn := ⟨_, rfl⟩
 have hys : s + 1 ≤ y.heap.size := by rw [← hy, ← hs]; simp
 have hpg := hpy.pg hw (by omega)
 have hrow := hpy.row
 unfold remE cellE
 rw [hsn] at hpg hrow ⊢
 by_cases hx : 0 ≤ x ∧ x < (sn : Int)
 ·rw [if_pos hx, if_pos hx]
  obtain ⟨i, rfl⟩ : ∃ i : Nat, x = (i : Int) := ⟨x.toNat, by omega⟩
  rw [Int.toNat_natCast]
  have hi : i < cs.length := by omega
  obtain ⟨c, hci⟩ : ∃ c, cs[i]? = some c := ⟨_, zI hi⟩
  rw [hci, Option.getD_some]
  have HH := zaa (has_any y a k n _ so sn sc hrow (i : Int) true ⟨fun _ => hx, fun _ => rfl⟩)
  have HVW := zaa (view_any y a k n bo _ bc so sn sc cs hpg hft i hi c hci (by omega))
  obtain ⟨key, kd, val, pg, ct⟩ := c
  simp only at HVW ⊢
  have HYS := zaa hys
  have HSW := zaa hs
  have hiI : (i : Int) < (sn : Int) := hx.2
  clear hp hpy hpg hrow hci hw hft hby hsn hys hx hz hzc hi
  go_enter Tryz.func216, Tryz.ntmps216
  go_wp2_with (first
   | (go_at_call 223; refine zac HH.out ?_)
   | (go_at_call 77; refine HVW.out.mono ?_; rintro e u1 ⟨ko, kn, kc, vo, vn, vc, rfl, HK, HV, HU1⟩; refine Hid.out ?_))
  apply zaa
  have HC := zaa (copied_any ko kn kc kd vo vn vc pg ct key val u1 HK.out HV.out)
  have HKL := zaa HK.out.hlen
  have HVL := zaa HV.out.hlen
  have HKR := zaa HK.out.hroom
  have HVR := zaa HV.out.hroom
  clear HH HVW
  go_wp2_with (go_at_call 76; refine HC.out.mono ?_; rintro e u2 ⟨g1, g2, rfl, HG, HU2⟩; refine Hid.out ?_)
  apply zaa
  have hres1 : C5 u2 s (.slice none 0 0) (.int .i64 0) (.slice none 0 0) (.int .i64 0) (.int .i64 0) := zag (zag HRES.out HU1.out) HU2.out
  have HR2 := zaa hres1
  obtain ⟨b0, b1, b2', b3, b4⟩ := hres1.cells
  obtain ⟨h0, h1, h2, h3, h4⟩ := hres1.free
  clear hres1 HC
  go_wp2
  refine bodyPost_ret (zdx rfl _ _ s 50 #[.slice (some ⟨g1, 0, none⟩) kn kn, .int .i64 kd, .slice (some ⟨g2, 0, none⟩) vn vn, .int .i64 pg, .int .i64 ct] (0, 0) _ (.int .i64 0) (by rfl) (by rfl) (HR2.out.put _ _ _ _ _) Tryz.underlying50 rfl zal) rfl ?_
  have hf := zas u2 s (.slice (some ⟨g1, 0, none⟩) kn kn) (.int .i64 kd) (.slice (some ⟨g2, 0, none⟩) vn vn) (.int .i64 pg) (.int .i64 ct)
  have hys := HYS.out
  have hsw := HSW.out
  have hkl := HKL.out
  have hvl := HVL.out
  have hkr := HKR.out
  have hvr := HVR.out
  have hu1 := HU1.out.size
  obtain ⟨hg1, hg2, hg3, hg4, hg5⟩ := HG.out
  have hbu := zae (zae HBY.out Lr HU1.out) Lr HU2.out
  subst hkl
  subst hvl
  refine ⟨some ⟨g1, 0, none⟩, key.length, some ⟨g2, 0, none⟩, val.length, rfl, zaa ⟨?_, ?_, ?_⟩, zaa (hbu.trans (hf.below hbu.size (by intro i hi e; omega)))⟩
  ·exact zct (l := key) (hg1.cf hf (hg1.apart5 HR2.out)) (by omega) (zN hkr (by unfold maxLen; decide))
  ·exact zct (l := val) (hg2.cf hf (hg2.apart5 HR2.out)) (by omega) (zN hvr (by unfold maxLen; decide))
  ·intro z h1 h2
   have e1 : g1 = z := by simpa [Value.ownBlock] using h1
   have e2 : g2 = z := by simpa [Value.ownBlock] using h2
   exact hg5 (e1.trans e2.symm)
 ·rw [if_neg hx, if_neg hx]
  have HH := zaa (has_any y a k n _ so sn sc hrow x false ⟨fun h => (by cases h), fun h => absurd h hx⟩)
  obtain ⟨b0, b1, b2', b3, b4⟩ := HRES.out.cells
  obtain ⟨h0, h1, h2, h3, h4⟩ := HRES.out.free
  have hf := zas y s (.slice none 0 0) (.int .i64 0) (.slice none 0 0) (.int .i64 0) (.int .i64 0)
  have HF := zaa hf
  have HS := zaa hs
  clear hp hpy hpg hrow hw hft hby hsn hys hf hx hz hzc
  go_enter Tryz.func216, Tryz.ntmps216
  go_wp2_with (go_at_call 223; refine zac HH.out ?_)
  refine bodyPost_ret (zdx rfl _ _ s 50 #[.slice none 0 0, .int .i64 0, .slice none 0 0, .int .i64 0, .int .i64 0] (0, 0) _ (.int .i64 64) (by rfl) (by rfl) (HRES.out.put _ _ _ _ _) Tryz.underlying50 rfl zal) rfl ?_
  exact ⟨none, 0, none, 0, rfl, zaa ⟨OwnB.nil _ _, OwnB.nil _ _, fun z h1 => (by simp [Value.ownBlock] at h1)⟩, zaa (HBY.out.trans (HF.out.below HBY.out.size (by intro i hi e; have := HS.out; omega)))⟩
end Go.Proofs.YtbkhjeacmmbabaaGreatDoor
