import Derived.Test.YtfgffajgfgifhaaGreatDoorJ09
import Derived.BigQuiet
namespace Go.Proofs.YtfgffajgfgifhaaGreatDoor
set_option maxRecDepth 100000
set_option maxHeartbeats 4000000
open Go.RowKit
def Cd (w : World) (v u : Value) (l : List Int) : Prop := ∀ C m g, OwnB w C v m → u.ownBlock = some g → v.ownBlock = some g → l <+: m
structure Gs (w : World) (v : Value) (w' : World) (v' : Value) : Prop extends Gr w v w' v' where
 old : ∀ B u l, OwnB w B u l → Cd w v u l → OwnB w' B u l ∧ Cd w' v' u l
theorem OwnB.ltk7 {w : World} {B : Nat} {v : Value} {l : List Int} {g : Nat} (h : OwnB w B v l) (hg : v.ownBlock = some g) : B ≤ g ∧ g < w.heap.size := by
 unfold OwnB at h
 exact h.lt g hg
theorem OwnB.keep7 {w w' : World} {B : Nat} {v : Value} {l : List Int} (h : OwnB w B v l) (hb : ∀ g, v.ownBlock = some g → w'.heap[g]? = w.heap[g]?) : OwnB w' B v l := by
 unfold OwnB at *
 refine ⟨h.1, ?_⟩
 rcases h.2 with h0 | ⟨g, cap, cur, e, hg, hh, r⟩
 ·exact .inl h0
 ·exact .inr ⟨g, cap, cur, e, hg, (hb g (by rw [e]; rfl)).trans hh, r⟩
theorem By_inj7 {a b : List Int} (h : By a = By b) : a = b := by
 unfold By at h
 exact (List.map_inj_right (fun x y e => by injection e)).1 h
theorem OwnB.one7 {w : World} {B C : Nat} {v : Value} {l m : List Int} (h : OwnB w B v l) (k : OwnB w C v m) : l = m := by
 unfold OwnB at *
 rcases h.2 with ⟨e, h0⟩ | ⟨g, cap, cur, e, hg, hh, _, _, _, ht⟩
 ·rcases k.2 with ⟨_, k0⟩ | ⟨g', cap', cur', e', _⟩
  ·have a : l = [] := List.eq_nil_of_length_eq_zero h0
   have b : m = [] := List.eq_nil_of_length_eq_zero k0
   rw [a, b]
  ·rw [e] at e'
   cases e'
 ·rcases k.2 with ⟨e', _⟩ | ⟨g', cap', cur', e', _, hh', _, _, _, ht'⟩
  ·rw [e] at e'
   cases e'
  ·rw [e] at e'
   injection e' with e1 e2 e3
   injection e1 with e1
   injection e1 with e1
   subst e1
   rw [hh] at hh'
   injection hh' with hh'
   injection hh' with hc
   subst hc
   rw [e2, ht'] at ht
   exact (By_inj7 ht).symm
theorem Gs.ofBelow {w w' : World} (v : Value) (h : Below w.heap.size w w') : Gs w v w' v := by
 refine ⟨Gr.ofBelow v h, fun B u l hu hc => ⟨hu.on Lr h, fun C m g hm h1 h2 => ?_⟩⟩
 have hg := (hu.ltk7 h1).2
 refine hc C m g (hm.keep7 (fun k hk => ?_)) h1 h2
 rw [h2] at hk
 injection hk with hk
 subst hk
 exact (h.block g hg).symm
theorem Gs.trans {a b c : World} {u v x : Value} (h : Gs a u b v) (k : Gs b v c x) : Gs a u c x := by
 refine ⟨h.toGr.trans k.toGr, fun B y l hy hc => ?_⟩
 obtain ⟨h1, h2⟩ := h.old B y l hy hc
 exact k.old B y l h1 h2
theorem run_app2 (w : World) (ty : TypeId) (B : Nat) (l news : List Int) (v : Value) (ao : Option Addr) (n c : Nat) (hown : OwnB w B v l) (hsl : Sl w ao n c news) (hb : l.length + n ≤ 140737488355328) (hbase : B ≤ w.heap.size) :
  ∃ v' w', (Builtin.append_ #[37, 37] ty #[v, .slice ao n c]).run Tryz.prog w = .ok v' w' ∧ OwnB w' B v' (l ++ news) ∧ Gs w v w' v' := by
 obtain ⟨i0, hi, hz0, hz1, hz2⟩ := info_parts info5
 obtain ⟨v', w', hr, h2, h3⟩ := run_app_sl w ty B l news v ao n c hown hsl hb hbase
 refine ⟨v', w', hr, h2, h3, fun C u lu hu hc => ?_⟩
 have hlen := hsl.hlen
 have fresh : (∀ k, k < w.heap.size → w'.heap[k]? = w.heap[k]?) → (∀ g, v'.ownBlock = some g → w.heap.size ≤ g) → OwnB w' C u lu ∧ Cd w' v' u lu := fun hk hg => by
  refine ⟨hu.keep7 (fun g e => hk g (hu.ltk7 e).2), fun D m g _ e1 e2 => ?_⟩
  have := hg g e2
  have := (hu.ltk7 e1).2
  omega
 cases ao with
 | none =>
  have : n = 0 := by have := hsl.hnil rfl; have := hsl.hcap; omega
  subst this
  have hc0 := hsl.hnil rfl
  subst hc0
  have hr2 := run_append_owned_none (P := Tryz.prog) (w := w) B 37 ty 5 i0 1 Tryz.underlying37 hi v l.length (By l) hown
  rw [hr] at hr2
  injection hr2 with e1 e2
  subst e1 e2
  exact ⟨hu, hc⟩
 | some ad =>
  have hnews : ∀ j x, (By news)[j]? = some x → w.cell? (ad.add j) = some x := fun j x hx => by
   obtain ⟨h1, h2⟩ := getElem?_By news j x hx
   rw [h2]
   rcases hsl.hat with h0 | ⟨b, off, e, _, hcc⟩
   ·omega
   ·injection e with e
    subst e
    rw [Addr.add_lit]
    exact hcc j (by omega)
  have hnl : (By news).length = n := by simp [By, hlen]
  have hown' := hown
  unfold OwnB at hown'
  rcases hown'.2 with ⟨rfl, h0⟩ | ⟨g, cap, cur, rfl, hg, hh, hnc, hm, hs, ht⟩
  ·by_cases hn0 : n = 0
   ·subst hn0
    obtain rfl : news = [] := List.eq_nil_of_length_eq_zero hlen
    obtain rfl : l = [] := List.eq_nil_of_length_eq_zero h0
    have hr2 : (Builtin.append_ #[37, 37] ty #[.slice none 0 0, .slice (some ad) 0 c]).run Tryz.prog w = .ok (.slice none 0 0) w := by
     simp [Builtin.append_, run_underlying Tryz.underlying37, sizeOf, typeInfo, hi, Builtin.lenOf, Builtin.firstCells, loadCells, loadCellsFrom]
    rw [hr] at hr2
    injection hr2 with e1 e2
    subst e1 e2
    exact ⟨hu, hc⟩
   ·have hr2 := run_append_nil (P := Tryz.prog) w 37 ty 5 i0 _ Tryz.underlying37 hi hz0 ad n c (By news) (by rw [hz1, hnl]; omega) hnews (by omega) (by omega) (by rw [hz2]; omega)
    rw [hr] at hr2
    injection hr2 with e1 e2
    exact fresh (fun k hk => by rw [e2]; exact (zac Br.drew Lr _).block k hk) (fun g hg => by rw [e1] at hg; simp [Value.ownBlock] at hg; omega)
  ·by_cases hroom : l.length + n ≤ cap
   ·have hr2 := run_append_room (P := Tryz.prog) w 37 ty 5 i0 Tryz.underlying37 hi g l.length cap cur hh ad n c (By news) (by rw [hz1, hnl]; omega) hnews (By_one news) hroom (by rw [hs, hz1, hnl]; omega)
    rw [hr] at hr2
    injection hr2 with e1 e2
    subst e1
    have hcd : ∀ gu, u.ownBlock = some gu → gu = g → lu <+: l := fun gu e1 e2 => hc B l gu hown e1 (by rw [e2]; rfl)
    refine ⟨?_, fun D m gg hm1 k1 k2 => ?_⟩
    ·have hu' := hu
     unfold OwnB at hu' ⊢
     rcases hu'.2 with h00 | ⟨q, capu, curu, rfl, hq, hhu, hncu, hmu, hsu, htu⟩
     ·exact ⟨hu'.1, .inl h00⟩
     ·by_cases hqg : q = g
      ·subst hqg
       have hpre := hcd q rfl rfl
       rw [hh] at hhu
       injection hhu with hhu
       injection hhu with hcu
       subst hcu
       have h2' := h2
       unfold OwnB at h2'
       rcases h2'.2 with ⟨e, _⟩ | ⟨q2, cap2, cur2, e, hq2, hh2, _, _, hs2, ht2⟩
       ·cases e
       ·injection e with e3 e4 e5
        injection e3 with e3
        injection e3 with e3
        subst e3
        subst e5
        refine ⟨hu'.1, .inr ⟨q, capu, cur2, rfl, hq, hh2, hncu, hmu, by omega, ?_⟩⟩
        obtain ⟨r, hr3⟩ := hpre
        have hlu : lu.length ≤ l.length := by rw [← hr3, zG]; omega
        have : cur2.toList.take (lu.length * 1) = (cur2.toList.take ((l ++ news).length * 1)).take (lu.length * 1) := by
         rw [List.take_take, Nat.min_eq_left (by rw [zG]; omega)]
        rw [this, ht2, ← hr3, zM, zcv, List.take_left' (by simp [By])]
      ·exact ⟨hu'.1, .inr ⟨q, capu, curu, rfl, hq, (by rw [← hhu]; exact h3.grow.block q (zag hhu) (by simp only [Value.ownBlock]; intro e; injection e with e; exact hqg e)), hncu, hmu, hsu, htu⟩⟩
    ·simp only [Value.ownBlock] at k2
     injection k2 with k2
     have h5 := hcd gg k1 k2.symm
     have h6 := hm1.one7 h2
     rw [h6]
     exact h5.trans (List.prefix_append _ _)
   ·have hr2 := run_append_grow (P := Tryz.prog) w 37 ty 5 i0 _ Tryz.underlying37 hi hz0 ⟨g, 0, none⟩ l.length cap (By l) (by rw [hz1]; simp [By]) (World.ownsRow.cells hown' (g := g) rfl) ad n c (By news) (by rw [hz1, hnl]; omega) hnews (by omega) (by omega) (growslice_fits (by omega) (by rw [hz2]; omega))
    rw [hr] at hr2
    injection hr2 with e1 e2
    exact fresh (fun k hk => by rw [e2]; exact (zac Br.drew Lr _).block k hk) (fun g hg => by rw [e1] at hg; simp [Value.ownBlock] at hg; omega)
theorem zcl {ops : Array Oper} {rest : List Oper} {o : Oper} {a : Act} {Q : Exit → Act → World → Prop} (w : World) (hgd : o.guard = none) (s x : Operand)
  (ho : o.op = .call { callee := .builtin .append, args := #[s, x], argTypes := #[37, 37] }) (B : Nat) (l news : List Int) (v : Value) (ao : Option Addr) (n c : Nat) (hs : a.eval s = v) (hx : a.eval x = .slice ao n c)
  (hown : OwnB w B v l) (hsl : Sl w ao n c news) (hb : l.length + n ≤ 140737488355328) (hbase : B ≤ w.heap.size)
  (h : ∀ v' w', OwnB w' B v' (l ++ news) → Gs w v w' v' → wpList Tryz.prog ops Q rest (a.put o.dst v') w') : wpList Tryz.prog ops Q (o :: rest) a w := by
 obtain ⟨v', w', hr, h2, h3⟩ := run_app2 w o.type B l news v ao n c hown hsl hb hbase
 refine wpList_plain hgd fun K hK => ?_
 unfold Oper.wp execOp
 simp only [ho, resolve, invoke, builtin, Sem.run_bind, Sem.run_pure, Result.andThen_ok, List.map_toArray, List.map_cons, List.map_nil, hs, hx, hr]
 exact hK _ _ (h v' w' h2 h3)
theorem eappended2 (v : Value) (B : Nat) (l : List Int) (ho : Option Addr) (hn hc : Nat) (ko : Option Addr) (kn kc : Nat) (kd : Int) (vo : Option Addr) (vn vc : Nat) (pg ct : Int) (h key val : List Int) (n : Nat) (w : World) (hown : OwnB w B v l) (hB : B ≤ w.heap.size)
  (hh : Sl w ho hn hc h) (hk : Sl w ko kn kc key) (hv : Sl w vo vn vc val) (fh : Far ho hn v) (fk : Far ko kn v) (fv : Far vo vn v) (hnl : n ≤ hn + kn) (hl : l.length + hn + kn + vn ≤ 35184372088832) :
  Calls Tryz.prog 94 #[.agg (eV ho hn hc ko kn kc kd vo vn vc pg ct), v, .int .i64 (n : Int)] w fun e w' => ∃ v', e = .returned v' ∧ Hid (OwnB w' B v' (l ++ qB n ⟨h ++ key, kd, val, pg, ct⟩)) ∧ Hid (Gs w v w' v') := by
 obtain ⟨x, hx⟩ : ∃ x, w.alloc (.cells #[.slice ho hn hc, .slice ko kn kc, .int .i64 kd, .slice vo vn vc, .int .i64 pg, .int .i64 ct] 78) = x := ⟨_, rfl⟩
 have hbx : Below w.heap.size w x := by rw [← hx]; exact zac Br Lr _
 have hb6 : E6 x w.heap.size (.slice ho hn hc) (.slice ko kn kc) (.int .i64 kd) (.slice vo vn vc) (.int .i64 pg) (.int .i64 ct) := by rw [← hx]; exact E6.box w _ _ _ _ _ _
 obtain ⟨s, hs⟩ : ∃ s, w.heap.size = s := ⟨_, rfl⟩
 rw [hs] at hb6
 have HB6 := zaa hb6
 obtain ⟨b0, b1, b2, b3, b4, b5⟩ := hb6.cells
 have HO : Hid (OwnB x B v l) := zaa (hown.on Lr hbx)
 have HK : Hid (Sl x ko kn kc key) := zaa (hk.on Lr hbx)
 have HH : Hid (Sl x ho hn hc h) := zaa (hh.on Lr hbx)
 have HV : Hid (Sl x vo vn vc val) := zaa (hv.on Lr hbx)
 have HG : Hid (Gs w v x v) := zaa (Gs.ofBelow v hbx)
 have hBx : B ≤ x.heap.size := zN hB hbx.size
 have HFH := zaa fh
 have HFK := zaa fk
 have HFV := zaa fv
 have HR := zaa (erest_any ho hn hc ko kn kc kd vo vn vc pg ct h key n x HH.out HK.out hnl)
 have HLK : Hid (h.length = hn ∧ key.length = kn ∧ val.length = vn) := zaa ⟨hh.hlen, hk.hlen, hv.hlen⟩
 clear hown hh hk hv fh fk fv hbx hb6
 unfold eV at HR ⊢
 go_enter Tryz.func94, Tryz.ntmps94
 go_wp2_with (go_at_call 134; refine HR.out.mono ?_; rintro e w1 ⟨a1, n1, c1, a2, n2, c2, l1, l2, rfl, HB1, HQ⟩; refine Hid.out ?_)
 apply zaa
 obtain ⟨q1, q2, q3, q4, q5, q6, q7⟩ := HQ.out
 have G1 : Gs x v w1 v := Gs.ofBelow v HB1.out
 have HG1 : Hid (Gs w v w1 v) := zaa (HG.out.trans G1)
 have H61 : Hid (E6 w1 s (.slice ho hn hc) (.slice ko kn kc) (.int .i64 kd) (.slice vo vn vc) (.int .i64 pg) (.int .i64 ct)) := zaa (zaf HB6.out HB1.out)
 have HO1 : Hid (OwnB w1 B v l) := zaa (HO.out.on Lr HB1.out)
 have HV1 : Hid (Sl w1 vo vn vc val) := zaa (HV.out.on Lr HB1.out)
 have hB1 : B ≤ w1.heap.size := zN hBx HB1.out.size
 have F1 : Far a1 n1 v := RestTo.far (w := w) HFH.out q4 q6 rfl
 have F2 : Far a2 n2 v := RestTo.far (w := w) HFK.out q5 q7 rfl
 have HS1 := zaa q1
 have HS2 := zaa q2
 have HLL := zaa q3
 have HF1 := zaa F1
 have HF2 := zaa F2
 have hn1 : n1 + n2 ≤ hn + kn := by omega
 have j1 : (n1 : Int) ≤ 35184372088832 := by omega
 have j2 : (n2 : Int) ≤ 35184372088832 := by omega
 have HL12 : Hid (l1.length = n1 ∧ l2.length = n2) := zaa ⟨q1.hlen, q2.hlen⟩
 clear HR HQ q1 q2 q3 q4 q5 q6 q7 G1 F1 F2 HB1 HB6 HH HK HV HO HG b0 b1 b2 b3 b4 b5 hx
 obtain ⟨b0, b1, b2, b3, b4, b5⟩ := H61.out.cells
 obtain ⟨y, hy⟩ : ∃ y, w1.alloc (.cells #[.int .u8 (kd % 256)] 5) = y := ⟨_, rfl⟩
 have hby : Below w1.heap.size w1 y := by rw [← hy]; exact zac Br Lr _
 have HY1 : Hid (Sl y (some ⟨w1.heap.size, 0, none⟩) 1 1 [kd % 256]) := zaa (by rw [← hy]; exact sl_one w1 _ (by omega))
 have HYO : Hid (OwnB y B v l) := zaa (HO1.out.on Lr hby)
 have hBy : B ≤ y.heap.size := zN hB1 hby.size
 have HGY := zaa (Gs.ofBelow v hby)
 have HBY := zaa hby
 clear hby
 go_wp2_with (at_builtin; refine zcl _ rfl _ _ rfl B l [kd % 256] v (some ⟨w1.heap.size, 0, none⟩) 1 1 rfl rfl HYO.out HY1.out (by omega) hBy ?_; refine Hid.out ?_)
 apply zaa
 intro v2 w2 ho2 g2
 have G2 : Gs w1 v w2 v2 := HGY.out.trans g2
 have HG2 := zaa (HG1.out.trans G2)
 have H62 := zaa (H61.out.gr G2.toGr (HO1.out.apart6 H61.out))
 have HO2 := zaa ho2
 have HV2 := zaa (HV1.out.gr G2.toGr HFV.out)
 have HS12 := zaa (HS1.out.gr G2.toGr HF1.out)
 have HS22 := zaa (HS2.out.gr G2.toGr HF2.out)
 have HF12 := zaa (HF1.out.gr HS1.out G2.toGr)
 have HF22 := zaa (HF2.out.gr HS2.out G2.toGr)
 have HFV2 := zaa (HFV.out.gr HV1.out G2.toGr)
 have hB2 : B ≤ w2.heap.size := zN hB1 G2.grow.size
 clear ho2 g2 G2 HGY HY1 HYO HBY hBy b0 b1 b2 b3 b4 b5 H61 HO1 HV1 HS1 HS2 HF1 HF2 HFV HG1 hy
 obtain ⟨b0, b1, b2, b3, b4, b5⟩ := H62.out.cells
 obtain ⟨M, hM⟩ : ∃ M, n1 + n2 = M := ⟨_, rfl⟩
 have hMI : (n1 : Int) + (n2 : Int) = (M : Int) := by omega
 have hMb : (M : Int) ≤ 35184372088832 := by omega
 have hMw : IntKind.u64.wrap (M : Int) = (M : Int) := by rw [IntKind.wrap_u64]; omega
 have HU := zaa (zcf (M : Int) w2 (by omega) (by omega))
 have HML : Hid (((h ++ key).drop n).length = M) := zaa (by rw [← HLL.out, zG, HL12.out.1, HL12.out.2]; exact hM)
 clear hM
 go_wp2_with (go_at_call 135; refine HU.out.mono ?_; rintro e w3 ⟨u3, rfl, ho3, hb3⟩; refine Hid.out ?_)
 apply zaa
 obtain ⟨ua, um, uc, rfl, us3, hum⟩ := ho3.slu (by omega) (by omega)
 have G3 : Gs w2 v2 w3 v2 := Gs.ofBelow v2 hb3
 have HO3 : Hid (OwnB w3 B v2 (l ++ [kd % 256])) := zaa (HO2.out.on Lr hb3)
 have HU3 := zaa us3
 have hB3 : B ≤ w3.heap.size := zN hB2 hb3.size
 have HG3 := zaa G3
 clear ho3 us3 hb3 G3 HU
 go_wp2_with (at_builtin; refine zcl _ rfl _ _ rfl B (l ++ [kd % 256]) (uB (M : Int)) v2 ua um uc rfl rfl HO3.out HU3.out (by simp; omega) hB3 ?_; refine Hid.out ?_)
 apply zaa
 intro v4 w4 ho4 g4
 have G4 : Gs w2 v2 w4 v4 := HG3.out.trans g4
 have HG4 := zaa (HG2.out.trans G4)
 have H64 := zaa (H62.out.gr G4.toGr (HO2.out.apart6 H62.out))
 have HO4 := zaa ho4
 have HV4 := zaa (HV2.out.gr G4.toGr HFV2.out)
 have HS14 := zaa (HS12.out.gr G4.toGr HF12.out)
 have HS24 := zaa (HS22.out.gr G4.toGr HF22.out)
 have HF14 := zaa (HF12.out.gr HS12.out G4.toGr)
 have HF24 := zaa (HF22.out.gr HS22.out G4.toGr)
 have HFV4 := zaa (HFV2.out.gr HV2.out G4.toGr)
 have hB4 : B ≤ w4.heap.size := zN hB2 G4.grow.size
 clear ho4 g4 G4 HG3 HO3 HU3 hB3 b0 b1 b2 b3 b4 b5 H62 HO2 HV2 HS12 HS22 HF12 HF22 HFV2 HG2
 obtain ⟨b0, b1, b2, b3, b4, b5⟩ := H64.out.cells
 obtain ⟨L4, hL4⟩ : ∃ L, l ++ [kd % 256] ++ uB (M : Int) = L := ⟨_, rfl⟩
 have hll4 : L4.length ≤ l.length + 11 := by
  have := (zan (M : Int)).1
  rw [← hL4]
  simp only [zG, List.length_cons, List.length_nil]
  omega
 replace HO4 : Hid (OwnB w4 B v4 L4) := zaa (by rw [← hL4]; simpa using HO4.out)
 have HL4 := zaa hL4
 clear hL4
 go_wp2_with (at_builtin; refine zcl _ rfl _ _ rfl B L4 l1 v4 a1 n1 c1 rfl rfl HO4.out HS14.out (by omega) hB4 ?_; refine Hid.out ?_)
 apply zaa
 intro v5 w5 ho5 g5
 have HG5 := zaa (HG4.out.trans g5)
 have H65 := zaa (H64.out.gr g5.toGr (HO4.out.apart6 H64.out))
 have HO5 := zaa ho5
 have HV5 := zaa (HV4.out.gr g5.toGr HFV4.out)
 have HS25 := zaa (HS24.out.gr g5.toGr HF24.out)
 have HF25 := zaa (HF24.out.gr HS24.out g5.toGr)
 have HFV5 := zaa (HFV4.out.gr HV4.out g5.toGr)
 have hB5 : B ≤ w5.heap.size := zN hB4 g5.grow.size
 clear ho5 g5 b0 b1 b2 b3 b4 b5 H64 HO4 HV4 HS14 HS24 HF14 HF24 HFV4 HG4
 have hll5 : (L4 ++ l1).length + n2 ≤ 140737488355328 := by rw [zG, HL12.out.1]; omega
 go_wp2_with (at_builtin; refine zcl _ rfl _ _ rfl B (L4 ++ l1) l2 v5 a2 n2 c2 rfl rfl HO5.out HS25.out hll5 hB5 ?_; refine Hid.out ?_)
 apply zaa
 intro v6 w6 ho6 g6
 have HG6 := zaa (HG5.out.trans g6)
 have H66 := zaa (H65.out.gr g6.toGr (HO5.out.apart6 H65.out))
 have HO6 := zaa ho6
 have HV6 := zaa (HV5.out.gr g6.toGr HFV5.out)
 have HFV6 := zaa (HFV5.out.gr HV5.out g6.toGr)
 have hB6 : B ≤ w6.heap.size := zN hB5 g6.grow.size
 clear ho6 g6 H65 HO5 HV5 HS25 HF25 HFV5 HG5
 obtain ⟨b0, b1, b2, b3, b4, b5⟩ := H66.out.cells
 obtain ⟨L6, hL6⟩ : ∃ L, L4 ++ l1 ++ l2 = L := ⟨_, rfl⟩
 have hll6 : L6.length ≤ l.length + 11 + (hn + kn) := by
  rw [← hL6]
  simp only [zG, HL12.out.1, HL12.out.2]
  omega
 replace HO6 : Hid (OwnB w6 B v6 L6) := zaa (by rw [← hL6]; simpa using HO6.out)
 have HQB : Hid (∀ T, (if kd = 1 then uB (val.length : Int) ++ val else uB (pg % 18446744073709551616) ++ uB (ct % 18446744073709551616)) = T → l ++ qB n ⟨h ++ key, kd, val, pg, ct⟩ = L6 ++ T) := zaa (by
  intro T hT
  unfold qB
  simp only [hT]
  rw [← hL6, ← HL4.out, ← HLL.out]
  have e : (h ++ key).length - n = M := by have := HML.out; rwa [zK] at this
  rw [e]
  simp only [zM])
 clear hL6 HL4 HLL HL12 HML
 have hln : (vn : Int) ≤ 35184372088832 := by omega
 by_cases hk1 : kd = 1
 ·subst hk1
  have hVw : IntKind.u64.wrap (vn : Int) = (vn : Int) := by rw [IntKind.wrap_u64]; omega
  have HU := zaa (zcf (vn : Int) w6 (by omega) (by omega))
  go_wp2_with (go_at_call 135; refine HU.out.mono ?_; rintro e w7 ⟨u7, rfl, ho7, hb7⟩; refine Hid.out ?_)
  apply zaa
  obtain ⟨ua, um, uc, rfl, us7, hum⟩ := ho7.slu (by omega) (by omega)
  have HG7 := zaa (Gs.ofBelow v6 hb7)
  have HO7 : Hid (OwnB w7 B v6 L6) := zaa (HO6.out.on Lr hb7)
  have HU7 := zaa us7
  have hB7 : B ≤ w7.heap.size := zN hB6 hb7.size
  clear ho7 us7 hb7 HU
  go_wp2_with (at_builtin; refine zcl _ rfl _ _ rfl B L6 (uB (vn : Int)) v6 ua um uc rfl rfl HO7.out HU7.out (by omega) hB7 ?_; refine Hid.out ?_)
  apply zaa
  intro v8 w8 ho8 g8
  have G8 : Gs w6 v6 w8 v8 := HG7.out.trans g8
  have HG8 := zaa (HG6.out.trans G8)
  have H68 := zaa (H66.out.gr G8.toGr (HO6.out.apart6 H66.out))
  have HO8 := zaa ho8
  have HV8 := zaa (HV6.out.gr G8.toGr HFV6.out)
  have hB8 : B ≤ w8.heap.size := zN hB6 G8.grow.size
  clear ho8 g8 G8 HG7 HO7 HU7 b0 b1 b2 b3 b4 b5 H66 HO6 HV6 HFV6 HG6
  obtain ⟨b0, b1, b2, b3, b4, b5⟩ := H68.out.cells
  have hll8 : (L6 ++ uB (vn : Int)).length + vn ≤ 140737488355328 := by
   have := (zan (vn : Int)).1
   rw [zG]
   omega
  go_wp2_with (at_builtin; refine zcl _ rfl _ _ rfl B (L6 ++ uB (vn : Int)) val v8 vo vn vc rfl rfl HO8.out HV8.out hll8 hB8 ?_; refine Hid.out ?_)
  apply zaa
  intro v9 w9 ho9 g9
  have HG9 := zaa (HG8.out.trans g9)
  have HO9 : Hid (OwnB w9 B v9 (l ++ qB n ⟨h ++ key, 1, val, pg, ct⟩)) := zaa (by
   rw [HQB.out (uB (vn : Int) ++ val) (by simp [HLK.out.2.2])]
   simpa using ho9)
  clear ho9 g9
  go_wp2
  go_ret
  exact ⟨v9, rfl, HO9, HG9⟩
 ·obtain ⟨P, hP⟩ : ∃ P, pg % 18446744073709551616 = P := ⟨_, rfl⟩
  obtain ⟨C, hC⟩ : ∃ C, ct % 18446744073709551616 = C := ⟨_, rfl⟩
  have hPw : IntKind.u64.wrap pg = P := by rw [IntKind.wrap_u64, hP]
  have hCw : IntKind.u64.wrap ct = C := by rw [IntKind.wrap_u64, hC]
  have HT := zaa (HQB.out (uB P ++ uB C) (by rw [if_neg hk1, hP, hC]))
  have HU := zaa (zcf P w6 (by omega) (by omega))
  have hP1 : 0 ≤ P ∧ P < 18446744073709551616 := by omega
  have hC1 : 0 ≤ C ∧ C < 18446744073709551616 := by omega
  clear hP hC HQB
  have hk1b : (kd == 1) = false := by simpa using hk1
  go_wp2_with (go_at_call 135; refine HU.out.mono ?_; rintro e w7 ⟨u7, rfl, ho7, hb7⟩; refine Hid.out ?_)
  apply zaa
  obtain ⟨ua, um, uc, rfl, us7, hum⟩ := ho7.slu hP1.1 hP1.2
  have HG7 := zaa (Gs.ofBelow v6 hb7)
  have HO7 : Hid (OwnB w7 B v6 L6) := zaa (HO6.out.on Lr hb7)
  have HU7 := zaa us7
  have hB7 : B ≤ w7.heap.size := zN hB6 hb7.size
  clear ho7 us7 hb7 HU
  go_wp2_with (at_builtin; refine zcl _ rfl _ _ rfl B L6 (uB P) v6 ua um uc rfl rfl HO7.out HU7.out (by omega) hB7 ?_; refine Hid.out ?_)
  apply zaa
  intro v8 w8 ho8 g8
  have G8 : Gs w6 v6 w8 v8 := HG7.out.trans g8
  have HG8 := zaa (HG6.out.trans G8)
  have H68 := zaa (H66.out.gr G8.toGr (HO6.out.apart6 H66.out))
  have HO8 := zaa ho8
  have hB8 : B ≤ w8.heap.size := zN hB6 G8.grow.size
  clear ho8 g8 G8 HG7 HO7 HU7 b0 b1 b2 b3 b4 b5 H66 HO6 HV6 HFV6 HG6
  obtain ⟨b0, b1, b2, b3, b4, b5⟩ := H68.out.cells
  have HU := zaa (zcf C w8 hC1.1 hC1.2)
  go_wp2_with (go_at_call 135; refine HU.out.mono ?_; rintro e w9 ⟨u9, rfl, ho9, hb9⟩; refine Hid.out ?_)
  apply zaa
  obtain ⟨ua, um9, uc, rfl, us9, hum9⟩ := ho9.slu hC1.1 hC1.2
  have HG9 := zaa (HG8.out.trans (Gs.ofBelow v8 hb9))
  have HO9 : Hid (OwnB w9 B v8 (L6 ++ uB P)) := zaa (HO8.out.on Lr hb9)
  have HU9 := zaa us9
  have hB9 : B ≤ w9.heap.size := zN hB8 hb9.size
  clear ho9 us9 hb9 HU
  have hll9 : (L6 ++ uB P).length + um9 ≤ 140737488355328 := by
   have := (zan P).1
   rw [zG]
   omega
  go_wp2_with (at_builtin; refine zcl _ rfl _ _ rfl B (L6 ++ uB P) (uB C) v8 ua um9 uc rfl rfl HO9.out HU9.out hll9 hB9 ?_; refine Hid.out ?_)
  apply zaa
  intro vA wA hoA gA
  have HGA := zaa (HG9.out.trans gA)
  have HOA : Hid (OwnB wA B vA (l ++ qB n ⟨h ++ key, kd, val, pg, ct⟩)) := zaa (by
   rw [HT.out]
   simpa using hoA)
  clear hoA gA
  go_wp2
  go_ret
  exact ⟨vA, rfl, HOA, HGA⟩
theorem takenQ_any (w : World) (a : Nat) (k : Int) (n : Nat) (po : Option Addr) (pn pc : Nat) (bo : Option Addr) (bn bc : Nat) (so : Option Addr) (sn sc : Nat) (ws : Int) (P body : List Int) (st : List Nat) (cs : List Cl) (h : PgQ w a k n po pn pc bo bn bc so sn sc ws P body st) (hl : LayQ k P cs body st) (i : Nat) (c : Cl) (hci : cs[i]? = some c) (hbn : bn ≤ 65536) (T : Nat) (hT : (qB (if k = 3 ∧ i = 0 then 0 else P.length) c).length = T) :
  Calls Tryz.prog 48 #[.pointer (some ⟨a, 0, none⟩), .int .i64 (i : Int)] w fun e w' => e = .returned (.int .i64 (T : Int)) ∧ Hid (Below w.heap.size w w') := by
 obtain ⟨c0, c1, c2, c3, c4, c5⟩ := h.cells
 have hcf := hl.fit c (List.mem_of_getElem? hci)
 obtain ⟨r, hat⟩ := hl.at_ i c hci
 have hil : i < sn := by
  have := (zH.1 hci).1
  have := hl.len
  have := h.starts.hlen
  omega
 obtain ⟨m, hm⟩ : ∃ m, (if k = 3 ∧ i = 0 then 0 else P.length) = m := ⟨_, rfl⟩
 rw [hm] at hat hT
 have hpc : pC (body.drop (st.getD i 0)) = some (c.cut m, r) := by rw [hat, pC_mid m c r hcf]
 have hl1 := congrArg List.length hat
 rw [zK, zG, h.body.hlen, hT] at hl1
 have hTp : 0 < T := by rw [← hT]; exact qB_pos m c
 obtain ⟨s0, hst⟩ : ∃ s0, st.getD i 0 = s0 := ⟨_, rfl⟩
 rw [hst] at hpc hl1
 have hlen : s0 + T + r.length = bn := by omega
 obtain ⟨gb, off, rfl⟩ : ∃ gb off, bo = some ⟨gb, off, none⟩ := by
  rcases h.body.hat with h0 | ⟨b, off, e, _⟩
  ·omega
  ·exact ⟨b, off, e⟩
 obtain ⟨gs, offs, rfl, hgs, hcs⟩ : ∃ b off, so = some ⟨b, off, none⟩ ∧ b < w.heap.size ∧ ∀ j, j < sn → w.cell? ⟨b, off + j, none⟩ = some (.int .i64 ((st.getD j 0 : Nat) : Int)) := by
  rcases h.starts.hat with h0 | h0
  ·omega
  ·exact h0
 have cj := hcs i hil
 rw [hst] at cj
 have HPC := zaa hpc
 have HSL := zaa h.body
 have HPG := zaa h
 have HLEN := zaa (And.intro hlen h.body.hlen)
 have i0 : (i : Int) < (sn : Int) := by omega
 have i1 : i < sn := hil
 have hstb : s0 ≤ bn := by omega
 have hsI : (s0 : Int) ≤ 65536 := by omega
 have hbx : ∀ o, Below w.heap.size w (w.alloc o) := fun o => zac Br Lr _
 have HBXX := zaa hbx
 have d2 := fun o => (h.on (hbx o)).cells.2.2.2.1
 have d3 := fun o => (h.on (hbx o)).cells.2.2.2.2.1
 have dj := fun o => ((hbx o).cell (p := ⟨gs, offs + i, none⟩) hgs).trans cj
 have HCJ : Hid (∀ u, Below w.heap.size w u → u.cell? ⟨gs, offs + i, none⟩ = some (.int .i64 (s0 : Int)) ∧ PgQ u a k n po pn pc (some ⟨gb, off, none⟩) bn bc (some ⟨gs, offs, none⟩) sn sc ws P body st) := zaa fun u hu => ⟨(hu.cell (p := ⟨gs, offs + i, none⟩) hgs).trans cj, h.on hu⟩
 clear h hpc hcs hcf hbx hci hl hat hm hst hT hl1 hlen
 go_enter Tryz.func48, Tryz.ntmps48
 go_wp2_with fail
 go_region
 obtain ⟨g4, hg4⟩ : ∃ g4, w.heap.size = g4 := ⟨_, rfl⟩
 obtain ⟨x, hx⟩ : ∃ x, (w.alloc (.cells #[.slice (some ⟨gb, off, none⟩) bn bc, .int .i64 (s0 : Int), .bool false] 104)).drew = x := ⟨_, rfl⟩
 have hbx : Below w.heap.size w x := by rw [← hx]; exact (HBXX.out _).drew
 have HRD : Hid (Rdq x g4 (some ⟨gb, off, none⟩) bn bc s0 false) := by
  rw [← hx, ← hg4]
  exact zaa (heap_alloc_last w _)
 have HBX := zaa hbx
 rw [hx, hg4]
 have HCL := zaa (ucell_any body x g4 gb off bn bc s0 false HRD.out (HSL.out.on Lr hbx) hstb)
 have HG4 := zaa hg4
 clear hx hbx c0 c1 c2 c3 c4 c5 cj d2 d3 dj hg4
 go_wp2_with (go_at_call 90; refine HCL.out.mono ?_; rintro e w2 ⟨ko, kn, kc, kd, vo, vn, vc, pg, ct, q, en, key, val, rfl, HR2, HCF, HQ⟩; refine Hid.out ?_)
 apply zaa
 have HQT : Hid (q = s0 + T) := zaa (by
  obtain ⟨_, _, _, _, ⟨hq, _⟩, hcase⟩ := HQ.out
  rw [HPC.out] at hcase
  rcases hcase with ⟨hcase, _⟩ | ⟨hcase, _⟩
  ·injection hcase with hcase
   injection hcase with _ hc2
   have h1 := congrArg List.length hc2
   have h2 := HLEN.out
   rw [zK, h2.2] at h1
   omega
  ·cases hcase)
 have HBE : Hid (Below w.heap.size w w2) := zaa (HBX.out.trans (HCF.out.below HBX.out.size (by have := HG4.out; intro i hi e; omega)))
 obtain rfl := HQT.out
 have hz : ∀ z, PgQ (w2.drewN z) a k n po pn pc (some ⟨gb, off, none⟩) bn bc (some ⟨gs, offs, none⟩) sn sc ws P body st := fun z => (HCJ.out _ (zad HBE.out z)).2
 have e4 := fun z => (hz z).cells.2.2.2.2.1
 have ej := fun z => (HCJ.out _ (zad HBE.out z)).1
 have er : ∀ z, (w2.drewN z).cell? ⟨g4, 1, none⟩ = some (.int .i64 ((s0 : Int) + (T : Int))) := fun z => by
  have h := HR2.out
  unfold Rdq at h
  have := cell_of_row (w2.drewN z) g4 1 _ _ _ h
  simpa using this
 have e40 := e4 0
 have ej0 := ej 0
 have er0 := er 0
 have hTI : (T : Int) ≤ 65536 := by have := HLEN.out.1; omega
 have hwz : IntKind.i64.wrap ((s0 : Int) + (T : Int) - (s0 : Int)) = (T : Int) := by rw [IntKind.wrap_i64]; omega
 clear hz HCL HCF HR2 HRD HQ HQT
 go_wp2_with fail
 go_quiet (fail)
 go_wp2
 go_ret
 refine ⟨by first | rfl | (congr 2; omega) | (simp; try omega), zaa (by first | exact zad HBE.out _ | exact HBE.out)⟩
end Go.Proofs.YtfgffajgfgifhaaGreatDoor
