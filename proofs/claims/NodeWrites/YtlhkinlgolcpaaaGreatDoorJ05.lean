import Derived.Test.YtlhkinlgolcpaaaGreatDoorJ04
import Derived.Laws.AppendOwnNone
import Derived.Maps.AppendAt
namespace Go.Proofs.YtlhkinlgolcpaaaGreatDoor
set_option maxRecDepth 100000
open Go.RowKit
structure Gr (w : World) (v : Value) (w' : World) (v' : Value) : Prop where
 grow : w.grownBy w' v.ownBlock
 own : v'.ownBlock = v.ownBlock ∨ ∃ k, v'.ownBlock = some k ∧ w.heap.size ≤ k
theorem Gr.ofBelow {w w' : World} (v : Value) (h : Below w.heap.size w w') : Gr w v w' v := ⟨⟨h.os, h.tape, h.output, h.size, fun k hk _ => h.block k hk⟩, .inl rfl⟩
theorem Gr.refl (w : World) (v : Value) : Gr w v w v := Gr.ofBelow v (Below.refl _ _)
theorem Gr.alloc (w : World) (v : Value) (o : Obj) : Gr w v (w.alloc o) v := Gr.ofBelow v ((Below.refl _ _).alloc (Nat.le_refl _) o)
theorem Gr.trans {w w1 w2 : World} {v v1 v2 : Value} (a : Gr w v w1 v1) (b : Gr w1 v1 w2 v2) : Gr w v w2 v2 := by
 have hs := a.grow.size
 refine ⟨⟨b.grow.os.trans a.grow.os, b.grow.tape.trans a.grow.tape, b.grow.output.trans a.grow.output, Nat.le_trans hs b.grow.size, fun k hk hne => ?_⟩, ?_⟩
 ·refine (b.grow.block k (Nat.lt_of_lt_of_le hk hs) ?_).trans (a.grow.block k hk hne)
  rcases a.own with h | ⟨k', h, hk'⟩
  ·rw [h]; exact hne
  ·rw [h]; intro e; cases e; omega
 ·rcases b.own with h | ⟨k', h, hk'⟩
  ·rcases a.own with h' | ⟨k'', h', hk''⟩
   ·exact .inl (h.trans h')
   ·exact .inr ⟨k'', h.trans h', hk''⟩
  ·exact .inr ⟨k', h, by omega⟩
theorem Gr.below {w w' : World} {v v' : Value} {B : Nat} {l : List Int} (h : Gr w v w' v') (hown : OwnB w B v l) (hB : B ≤ w.heap.size) : Below B w w' := own_below hown hB h.grow
def Far (ao : Option Addr) (n : Nat) (v : Value) : Prop := n = 0 ∨ ∀ p, ao = some p → v.ownBlock ≠ some p.block
theorem Sl.gr {w w' : World} {v v' : Value} {ao : Option Addr} {n cap : Nat} {l : List Int} (h : Sl w ao n cap l) (hg : Gr w v w' v') (hf : Far ao n v) : Sl w' ao n cap l := by
 refine ⟨h.hlen, h.hcap, h.hroom, h.wf, h.hnil, ?_⟩
 rcases h.hat with h0 | ⟨b, off, e, hlt, hc⟩
 ·exact .inl h0
 ·rcases hf with h0 | hf
  ·exact .inl h0
  ·refine .inr ⟨b, off, e, Nat.lt_of_lt_of_le hlt hg.grow.size, fun i hi => ?_⟩
   rw [← hc i hi]
   exact World.cell?_of_block (hg.grow.block b hlt (fun e2 => hf _ e e2.symm))
theorem Far.gr {w w' : World} {v v' : Value} {ao : Option Addr} {n cap : Nat} {l : List Int} (hf : Far ao n v) (h : Sl w ao n cap l) (hg : Gr w v w' v') : Far ao n v' := by
 rcases hf with h0 | hf
 ·exact .inl h0
 ·rcases h.hat with h0 | ⟨b, off, rfl, hlt, hc⟩
  ·exact .inl h0
  ·right
   intro p hp
   injection hp with hp
   subst hp
   rcases hg.own with e | ⟨k, e, hk⟩
   ·rw [e]; exact hf _ rfl
   ·rw [e]; intro h; injection h with h; simp only at h; omega
theorem OwnB.low {w : World} {B C : Nat} {v : Value} {l : List Int} (h : OwnB w C v l) (hB : B ≤ C) : OwnB w B v l := by
 unfold OwnB at *
 rcases h.2 with h2 | ⟨g, cap, cur, e, hg, rest⟩
 ·exact ⟨h.1, .inl h2⟩
 ·exact ⟨h.1, .inr ⟨g, cap, cur, e, Nat.le_trans hB hg, rest⟩⟩
theorem OwnB.far {w : World} {B : Nat} {v : Value} {l : List Int} (h : OwnB w B v l) {ao : Option Addr} {n : Nat} (hb : ∀ p, ao = some p → p.block < B) : Far ao n v := by
 right
 intro p hp e
 have := hb p hp
 unfold OwnB at h
 have h2 := (h.lt p.block e).1
 omega
theorem app_sl {ops : Array Oper} {rest : List Oper} {o : Oper} {a : Act} {Q : Exit → Act → World → Prop} (w : World) (hgd : o.guard = none) (s x : Operand)
  (ho : o.op = .call { callee := .builtin .append, args := #[s, x], argTypes := #[25, 25] }) (B : Nat) (l news : List Int) (v : Value) (ao : Option Addr) (n c : Nat) (hs : a.eval s = v) (hx : a.eval x = .slice ao n c)
  (hown : OwnB w B v l) (hsl : Sl w ao n c news) (hb : l.length + n ≤ 140737488355328) (hbase : B ≤ w.heap.size)
  (h : ∀ v' w', OwnB w' B v' (l ++ news) → Gr w v w' v' → wpList Tryz.prog ops Q rest (a.put o.dst v') w') : wpList Tryz.prog ops Q (o :: rest) a w := by
 obtain ⟨i0, hi, hz0, hz1, hz2⟩ := info_parts info5
 have hlen := hsl.hlen
 cases ao with
 | none =>
  have : n = 0 := by have := hsl.hnil rfl; have := hsl.hcap; omega
  subst this
  have hc0 := hsl.hnil rfl
  subst hc0
  obtain rfl : news = [] := List.eq_nil_of_length_eq_zero hlen
  exact wpList_append_own_none hgd s x 25 ho B 5 i0 1 Tryz.underlying25 hi v l.length (By l) hs hown hx (h v w (by simpa using hown) (Gr.refl _ _))
 | some ad =>
  refine wpList_append_own_at w hgd s x 25 ho B 5 i0 (.int .u8 0) 1 1 Tryz.underlying25 hi hz0 hz1 hz2 rfl (by decide) v l.length (By l) hs hown ad n c (By news) hx (by simp [By, hlen])
   (fun j u hu => by
    obtain ⟨h1, h2⟩ := getElem?_By news j u hu
    rw [h2]
    rcases hsl.hat with h0 | ⟨b, off, e, _, hc⟩
    ·omega
    ·injection e with e
     subst e
     rw [Addr.add_lit]
     exact hc j (by omega)) (By_one news) (by unfold maxLen; omega) (by omega) hbase ?_
  intro v' w' h1 h2 _ h4
  refine h v' w' ?_ ⟨h2, h4.imp id fun e => ⟨_, e, Nat.le_refl _⟩⟩
  unfold OwnB
  rw [By_append, List.length_append, hlen]
  exact h1
set_option maxHeartbeats 400000 in
theorem copiedBytes_any (ao : Option Addr) (n cap : Nat) (l : List Int) (w : World) (hs : Sl w ao n cap l) :
  Calls Tryz.prog 121 #[.slice ao n cap] w fun e w' => e = .returned (.slice (some ⟨w.heap.size, 0, none⟩) n n) ∧ Hid (Bk w' w.heap.size l) ∧ Hid (Below w.heap.size w w') := by
 obtain ⟨i0, hi, hz0, hz1, hz2⟩ := info_parts info5
 obtain ⟨hlen, hcap, hroom, hwf, hnil, hat⟩ := hs
 have hsz : (Tryz.prog.info? 5).map (·.size) = some 1 := by rw [hi]; simp [hz1]
 go_enter Tryz.func121, Tryz.ntmps121
 go_wp2_with (at_make; refine wpList_make_full _ rfl _ _ 25 rfl w.heap.size 5 i0 (.int .u8 0) 1 Tryz.underlying25 hi hz0 hz1 .i64 .i64 n n n rfl rfl rfl rfl (by rw [hz2]; omega) (by unfold maxLen; omega) (Nat.le_refl _) ?_)
 intro w1 hown1 hg1
 have hb1 : Below w.heap.size w w1 := (Below.refl _ _).grown hg1 (Nat.le_refl _) (fun k hk => by cases hk)
 clear hg1
 obtain ⟨cur, hcur, hcs⟩ : ∃ cur : List Value, w1.heap[w.heap.size]? = some (.cells cur.toArray 5 (0, 0)) ∧ cur.length = n := by
  rcases hown1.2 with ⟨h, _⟩ | ⟨g, c, cur, h, _, hh, _, _, hs, _⟩
  ·cases h
  ·cases h
   exact ⟨cur.toList, by simpa using hh, by simpa using hs⟩
 clear hown1
 have HC := hidden hcur
 clear hcur
 have hpos : 0 < (By l).length → some (⟨w.heap.size, 0, none⟩ : Addr) = some ⟨w.heap.size, 0, none⟩ ∧ ∃ ad, ao = some ad ∧ ∀ j v, (By l)[j]? = some v → w1.cell? (ad.add j) = some v := by
  intro h
  rw [By_length] at h
  rcases hat with h0 | ⟨b, off, rfl, hbb, hc⟩
  ·omega
  ·refine ⟨rfl, _, rfl, fun j v hv => ?_⟩
   obtain ⟨h1, rfl⟩ := getElem?_By l j v hv
   rw [Addr.add_lit]
   exact (hb1.cell (p := ⟨b, off + j, none⟩) hbb).trans (hc j (by omega))
 have HP := hidden hpos
 clear hpos
 go_wp2_with (refine wpList_copy_splice rfl _ _ 25 25 rfl 5 Tryz.underlying25 hsz _ _ n n n cap rfl rfl w.heap.size 0 cur 5 HC.out (By l) (by rw [By_length, hlen]; exact (Nat.min_self n).symm) HP.out (by rw [By_length]; omega) (By_one l) w.heap.size w hb1 (Nat.le_refl _) ?_)
 intro w2 hh hb2
 have ho : Hid (Bk w2 w.heap.size l) := by
  have h' := hh.out
  rw [show splice cur 0 (By l) = By l from by simp [splice, By_length, hlen, hcs]] at h'
  exact hidden h'
 have HB2 := hidden hb2
 clear hh hb2
 go_wp2
 go_ret
 exact ⟨rfl, ho, HB2⟩
theorem ptaken_any (ka : Option Addr) (kn kc : Nat) (kd : Int) (va : Option Addr) (vn vc : Nat) (pg ct : Int) (w : World) (hk : kn ≤ 140737488355328) (hv : vn ≤ 140737488355328) :
  Calls Tryz.prog 80 #[.agg #[.slice ka kn kc, .int .i64 kd, .slice va vn vc, .int .i64 pg, .int .i64 ct]] w fun e w' => e = .returned (.int .i64 (if kd = 1 then 7 + (kn : Int) + (vn : Int) else 13 + (kn : Int))) ∧ Below w.heap.size w w' := by
 by_cases h : kd = 1
 ·subst h
  rw [if_pos rfl]
  go_enter Tryz.func80, Tryz.ntmps80
  go_wp2
  go_ret
  exact ⟨ret_int (by omega), (Below.refl _ _).alloc (Nat.le_refl _) _⟩
 ·rw [if_neg h]
  go_enter Tryz.func80, Tryz.ntmps80
  go_wp2
  go_ret
  exact ⟨ret_int (by omega), (Below.refl _ _).alloc (Nat.le_refl _) _⟩
set_option maxHeartbeats 400000 in
theorem appendedText_any (v : Value) (B : Nat) (l : List Int) (ao : Option Addr) (n c : Nat) (t : List Int) (w : World) (hown : OwnB w B v l) (hB : B ≤ w.heap.size) (hs : Sl w ao n c t) (hf : Far ao n v) (hl : l.length + n ≤ 70368744177664) :
  Calls Tryz.prog 140 #[v, .slice ao n c] w fun e w' => ∃ v', e = .returned v' ∧ Hid (OwnB w' B v' (l ++ (fB 2 (n : Int) ++ t))) ∧ Hid (Gr w v w' v') := by
 have hlen := hs.hlen
 have hw : IntKind.u64.wrap (n : Int) = (n : Int) := by rw [IntKind.wrap_u64]; omega
 have HF := hidden (fixed_yes (n : Int) 2 w (by omega) (by omega) (by omega))
 have HS := hidden hs
 have HO := hidden hown
 have HFAR := hidden hf
 clear hs hown hf
 go_enter Tryz.func140, Tryz.ntmps140
 go_wp2_with (first | (go_at_call 119; refine HF.out.mono ?_; rintro e w1 ⟨v1, rfl, ho1, hb1⟩; refine Hid.out ?_))
 apply hidden
 rw [show (2 : Int).toNat = 2 from rfl] at ho1
 obtain ⟨a1, c1, rfl, s1, _⟩ := ho1.sl (fB_wf _ _) (by rw [fB_length]; omega)
 rw [fB_length] at s1
 rw [fB_length]
 have HS1 := hidden s1
 have HO1 : Hid (OwnB w1 B v l) := hidden (HO.out.on (Nat.le_refl _) hb1)
 have G1 := hidden (Gr.ofBelow v hb1)
 have hB1 : B ≤ w1.heap.size := Nat.le_trans hB hb1.size
 have HSa : Hid (Sl w1 ao n c t) := hidden (HS.out.on (Nat.le_refl _) hb1)
 have HL : Hid ((fB 2 (n : Int)).length = 2) := hidden (fB_length _ _)
 obtain ⟨F, hF⟩ : ∃ F, fB 2 (n : Int) = F := ⟨_, rfl⟩
 have HFE := hidden hF
 rw [hF] at HL HS1
 clear hF
 clear s1 ho1 hb1 HF
 go_wp2_with (at_builtin; refine app_sl _ rfl _ _ rfl B l F v a1 2 c1 rfl rfl HO1.out HS1.out (by omega) hB1 ?_; refine Hid.out ?_)
 apply hidden
 intro v2 w2 ho2 g2
 have hB2 : B ≤ w2.heap.size := Nat.le_trans hB1 g2.grow.size
 have HSb : Hid (Sl w2 ao n c t) := hidden (HSa.out.gr g2 HFAR.out)
 have G2 := hidden (G1.out.trans g2)
 have HO2 := hidden ho2
 clear ho2 g2 HO1 HS1
 have hll : (l ++ F).length + n ≤ 140737488355328 := by rw [List.length_append, HL.out]; omega
 go_wp2_with (at_builtin; refine app_sl _ rfl _ _ rfl B (l ++ F) t v2 ao n c rfl rfl HO2.out HSb.out hll hB2 ?_; refine Hid.out ?_)
 apply hidden
 intro v3 w3 ho3 g3
 have HO3 := hidden ho3
 have G3 := hidden (G2.out.trans g3)
 clear ho3 g3
 go_wp2
 go_ret
 exact ⟨v3, rfl, hidden (by rw [HFE.out]; first | exact HO3.out | (rw [← List.append_assoc]; exact HO3.out)), G3⟩
theorem sl_one (w : World) (x : Int) (hx : 0 ≤ x ∧ x ≤ 255) : Sl (w.alloc (.cells #[.int .u8 x] 5)) (some ⟨w.heap.size, 0, none⟩) 1 1 [x] := by
 refine ⟨rfl, Nat.le_refl _, by omega, Wf.cons hx Wf.nil, (by intro h; cases h), .inr ⟨w.heap.size, 0, rfl, by simp, ?_⟩⟩
 intro i hi
 obtain rfl : i = 0 := by omega
 simp
theorem C5.box (w : World) (x0 x1 x2 x3 x4 : Value) : C5 (w.alloc (.cells #[x0, x1, x2, x3, x4] 41)) w.heap.size x0 x1 x2 x3 x4 := heap_alloc_last w _
theorem C5.gr {w w' : World} {v v' : Value} {g : Nat} {x0 x1 x2 x3 x4 : Value} (h : C5 w g x0 x1 x2 x3 x4) (hg : Gr w v w' v') (hv : v.ownBlock ≠ some g) : C5 w' g x0 x1 x2 x3 x4 := (hg.grow.block g (lt_some h) (fun e => hv e.symm)).trans h
theorem OwnB.apart5 {w : World} {B : Nat} {v : Value} {l : List Int} (h : OwnB w B v l) {g : Nat} {x0 x1 x2 x3 x4 : Value} (hc : C5 w g x0 x1 x2 x3 x4) : v.ownBlock ≠ some g := by
 intro e
 unfold OwnB at h
 rcases h.2 with ⟨rfl, _⟩ | ⟨q, cap, cur, rfl, _, hh, _⟩
 ·cases e
 ·simp only [Value.ownBlock, Option.some.injEq] at e
  subst e
  unfold C5 at hc
  rw [hc] at hh
  simp at hh
set_option maxHeartbeats 1000000 in
theorem appended_any (v : Value) (B : Nat) (l : List Int) (ka : Option Addr) (kn kc : Nat) (kd : Int) (va : Option Addr) (vn vc : Nat) (pg ct : Int) (key val : List Int) (w : World) (hown : OwnB w B v l) (hB : B ≤ w.heap.size)
  (hk : Sl w ka kn kc key) (hv : Sl w va vn vc val) (fk : Far ka kn v) (fv : Far va vn v) (hp : 0 ≤ pg ∧ pg < 4294967296) (hc : 0 ≤ ct ∧ ct < 4294967296) (hl : l.length + kn + vn ≤ 35184372088832) :
  Calls Tryz.prog 115 #[v, .agg #[.slice ka kn kc, .int .i64 kd, .slice va vn vc, .int .i64 pg, .int .i64 ct]] w fun e w' => ∃ v', e = .returned v' ∧ Hid (OwnB w' B v' (l ++ cB ⟨key, kd, val, pg, ct⟩)) ∧ Hid (Gr w v w' v') := by
 have HKL := hidden hk.hlen
 have HVL := hidden hv.hlen
 have hp0 := hp.1
 have hp1 := hp.2
 have hc0 := hc.1
 have hc1 := hc.2
 have hwp : IntKind.u64.wrap pg = pg := by rw [IntKind.wrap_u64]; omega
 have hwc : IntKind.u64.wrap ct = ct := by rw [IntKind.wrap_u64]; omega
 obtain ⟨s, hs⟩ : ∃ s, w.heap.size = s := ⟨_, rfl⟩
 obtain ⟨x, hx⟩ : ∃ x, (w.alloc (.cells #[.slice ka kn kc, .int .i64 kd, .slice va vn vc, .int .i64 pg, .int .i64 ct] 41)).alloc (.cells #[.int .u8 (kd % 256)] 5) = x := ⟨_, rfl⟩
 have hbx : Below w.heap.size w x := by rw [← hx]; exact bl_al (bl_al (Below.refl _ _) (Nat.le_refl _) _) (Nat.le_refl _) _
 have HBX : Hid (C5 x s (.slice ka kn kc) (.int .i64 kd) (.slice va vn vc) (.int .i64 pg) (.int .i64 ct)) := by
  rw [← hx, ← hs]
  exact hidden ((Below.heap_alloc _ _ _ (by simp)).trans (heap_alloc_last w _))
 have H1 : Hid (Sl x (some ⟨s + 1, 0, none⟩) 1 1 [kd % 256]) := by
  have := sl_one (w.alloc (.cells #[.slice ka kn kc, .int .i64 kd, .slice va vn vc, .int .i64 pg, .int .i64 ct] 41)) (kd % 256) (by omega)
  rw [hx] at this
  rw [← hs]
  exact hidden (by simpa using this)
 have HO : Hid (OwnB x B v l) := hidden (hown.on (Nat.le_refl _) hbx)
 have HK : Hid (Sl x ka kn kc key) := hidden (hk.on (Nat.le_refl _) hbx)
 have HV : Hid (Sl x va vn vc val) := hidden (hv.on (Nat.le_refl _) hbx)
 have HFK := hidden fk
 have HFV := hidden fv
 have HG : Hid (Gr w v x v) := hidden (Gr.ofBelow v hbx)
 have hBx : B ≤ x.heap.size := Nat.le_trans hB hbx.size
 clear hown hk hv fk fv hbx
 go_enter Tryz.func115, Tryz.ntmps115
 go_wp2_with (at_builtin; refine app_sl _ rfl _ _ rfl B l [kd % 256] v (some ⟨s + 1, 0, none⟩) 1 1 rfl rfl HO.out H1.out (by omega) hBx ?_; refine Hid.out ?_)
 apply hidden
 intro v1 w1 ho1 g1
 have HO1 := hidden ho1
 have HBX1 : Hid (C5 w1 s (.slice ka kn kc) (.int .i64 kd) (.slice va vn vc) (.int .i64 pg) (.int .i64 ct)) := hidden (HBX.out.gr g1 (HO.out.apart5 HBX.out))
 have HK1 : Hid (Sl w1 ka kn kc key) := hidden (HK.out.gr g1 HFK.out)
 have HV1 : Hid (Sl w1 va vn vc val) := hidden (HV.out.gr g1 HFV.out)
 have HFK1 : Hid (Far ka kn v1) := hidden (HFK.out.gr HK.out g1)
 have HFV1 : Hid (Far va vn v1) := hidden (HFV.out.gr HV.out g1)
 have HG1 : Hid (Gr w v w1 v1) := hidden (HG.out.trans g1)
 have hB1 : B ≤ w1.heap.size := Nat.le_trans hBx g1.grow.size
 clear ho1 g1 HO HBX HK HV HFK HFV HG H1 hx
 obtain ⟨c0, c1, c2, c3, c4⟩ := HBX1.out.cells
 have T1 := hidden (appendedText_any v1 B (l ++ [kd % 256]) ka kn kc key w1 HO1.out hB1 HK1.out HFK1.out (by rw [List.length_append]; simp; omega))
 go_wp2_with (first | (go_at_call 140; refine T1.out.mono ?_; rintro e w2 ⟨v2, rfl, HO2, HG2⟩; refine Hid.out ?_))
 apply hidden
 have HBX2 : Hid (C5 w2 s (.slice ka kn kc) (.int .i64 kd) (.slice va vn vc) (.int .i64 pg) (.int .i64 ct)) := hidden (HBX1.out.gr HG2.out (HO1.out.apart5 HBX1.out))
 have HV2 : Hid (Sl w2 va vn vc val) := hidden (HV1.out.gr HG2.out HFV1.out)
 have HFV2 : Hid (Far va vn v2) := hidden (HFV1.out.gr HV1.out HG2.out)
 have hB2 : B ≤ w2.heap.size := Nat.le_trans hB1 HG2.out.grow.size
 have HGG : Hid (Gr w v w2 v2) := hidden (HG1.out.trans HG2.out)
 clear c0 c1 c2 c3 c4 T1 HBX1 HK1 HV1 HFK1 HFV1 HG1 HO1 HG2
 obtain ⟨c0, c1, c2, c3, c4⟩ := HBX2.out.cells
 by_cases h1 : kd = 1
 ·subst h1
  have T2 := hidden (appendedText_any v2 B _ va vn vc val w2 HO2.out hB2 HV2.out HFV2.out (by simp only [List.length_append, fB_length, HKL.out]; simp; omega))
  go_wp2_with (first | (go_at_call 140; refine T2.out.mono ?_; rintro e w3 ⟨v3, rfl, HO3, HG3⟩))
  go_ret
  refine ⟨v3, rfl, hidden ?_, hidden (HGG.out.trans HG3.out)⟩
  have h := HO3.out
  simp only [List.append_assoc] at h
  rw [cB, HKL.out, HVL.out]
  simpa using h
 ·obtain ⟨L2, hL2⟩ : ∃ L2, l ++ [kd % 256] ++ (fB 2 (kn : Int) ++ key) = L2 := ⟨_, rfl⟩
  rw [hL2] at HO2
  have HL2 := hidden hL2
  have HLL : Hid (L2.length = l.length + 3 + kn) := by
   rw [← hL2]
   refine hidden ?_
   simp only [List.length_append, fB_length, HKL.out, List.length_cons, List.length_nil]
   omega
  clear hL2
  have F1 := hidden (fixed_yes pg 4 w2 (by omega) (by omega) (by omega))
  go_wp2_with (first | (go_at_call 119; refine F1.out.mono ?_; rintro e w3 ⟨p1, rfl, ho3, hb3⟩; refine Hid.out ?_))
  apply hidden
  rw [show (4 : Int).toNat = 4 from rfl] at ho3
  obtain ⟨a1, y1, rfl, s1, _⟩ := ho3.sl (fB_wf _ _) (by rw [fB_length]; omega)
  rw [fB_length] at s1
  rw [fB_length]
  have HS3 := hidden s1
  have HO3 : Hid (OwnB w3 B v2 L2) := hidden (HO2.out.on (Nat.le_refl _) hb3)
  have HG3 := hidden (HGG.out.trans (Gr.ofBelow v2 hb3))
  have HBX3 : Hid (C5 w3 s (.slice ka kn kc) (.int .i64 kd) (.slice va vn vc) (.int .i64 pg) (.int .i64 ct)) := hidden (box_on HBX2.out hb3)
  have hB3 : B ≤ w3.heap.size := Nat.le_trans hB2 hb3.size
  clear s1 ho3 hb3 F1 c0 c1 c2 c3 c4 HBX2 HO2 HGG HV2 HFV2
  have hl3 : L2.length + 4 ≤ 140737488355328 := by rw [HLL.out]; omega
  go_wp2_with (at_builtin; refine app_sl _ rfl _ _ rfl B L2 (fB 4 pg) v2 a1 4 y1 rfl rfl HO3.out HS3.out hl3 hB3 ?_; refine Hid.out ?_)
  apply hidden
  intro v4 w4 ho4 g4
  have HO4 := hidden ho4
  have HG4 := hidden (HG3.out.trans g4)
  have HBX4 : Hid (C5 w4 s (.slice ka kn kc) (.int .i64 kd) (.slice va vn vc) (.int .i64 pg) (.int .i64 ct)) := hidden (HBX3.out.gr g4 (HO3.out.apart5 HBX3.out))
  have hB4 : B ≤ w4.heap.size := Nat.le_trans hB3 g4.grow.size
  clear ho4 g4 HO3 HBX3 HG3 HS3
  obtain ⟨c0, c1, c2, c3, c4⟩ := HBX4.out.cells
  have F2 := hidden (fixed_yes ct 4 w4 (by omega) (by omega) (by omega))
  go_wp2_with (first | (go_at_call 119; refine F2.out.mono ?_; rintro e w5 ⟨p2, rfl, ho5, hb5⟩; refine Hid.out ?_))
  apply hidden
  rw [show (4 : Int).toNat = 4 from rfl] at ho5
  obtain ⟨a2, y2, rfl, s2, _⟩ := ho5.sl (fB_wf _ _) (by rw [fB_length]; omega)
  rw [fB_length] at s2
  rw [fB_length]
  have HS5 := hidden s2
  have HO5 : Hid (OwnB w5 B v4 (L2 ++ fB 4 pg)) := hidden (HO4.out.on (Nat.le_refl _) hb5)
  have HG5 := hidden (HG4.out.trans (Gr.ofBelow v4 hb5))
  have hB5 : B ≤ w5.heap.size := Nat.le_trans hB4 hb5.size
  have hl5 : (L2 ++ fB 4 pg).length + 4 ≤ 140737488355328 := by rw [List.length_append, HLL.out, fB_length]; omega
  clear s2 ho5 hb5 F2 c0 c1 c2 c3 c4 HBX4 HO4 HG4 hl3
  go_wp2_with (at_builtin; refine app_sl _ rfl _ _ rfl B (L2 ++ fB 4 pg) (fB 4 ct) v4 a2 4 y2 rfl rfl HO5.out HS5.out hl5 hB5 ?_; refine Hid.out ?_)
  apply hidden
  intro v6 w6 ho6 g6
  have HO6 := hidden ho6
  have HG6 := hidden (HG5.out.trans g6)
  clear ho6 g6 HO5 HG5 HS5
  go_wp2
  go_ret
  refine ⟨v6, rfl, hidden ?_, HG6⟩
  have h := HO6.out
  rw [← HL2.out] at h
  simp only [List.append_assoc] at h
  rw [cB, HKL.out]
  simpa [h1] using h
end Go.Proofs.YtlhkinlgolcpaaaGreatDoor

namespace Go.Proofs.YtlhkinlgolcpaaaGreatDoor
set_option maxRecDepth 100000
open Go.RowKit
structure SlN (w : World) (ao : Option Addr) (n cap : Nat) (l : List Nat) : Prop where
 hlen : l.length = n
 hcap : n ≤ cap
 hroom : n ≤ 140737488355328
 hnil : ao = none → cap = 0
 hat : n = 0 ∨ ∃ b off, ao = some ⟨b, off, none⟩ ∧ b < w.heap.size ∧ ∀ i, i < n → w.cell? ⟨b, off + i, none⟩ = some (.int .i64 ((l.getD i 0 : Nat) : Int))
theorem SlN.on {w w' : World} {ao : Option Addr} {n cap : Nat} {l : List Nat} (h : SlN w ao n cap l) (hb : Below w.heap.size w w') : SlN w' ao n cap l := by
 refine ⟨h.hlen, h.hcap, h.hroom, h.hnil, ?_⟩
 rcases h.hat with h0 | ⟨b, off, e, hlt, hc⟩
 ·exact .inl h0
 ·exact .inr ⟨b, off, e, Nat.lt_of_lt_of_le hlt hb.size, fun i hi => (hb.cell (p := ⟨b, off + i, none⟩) hlt).trans (hc i hi)⟩
structure PgAt (w : World) (a : Nat) (k : Int) (n : Nat) (bo : Option Addr) (bn bc : Nat) (so : Option Addr) (sn sc : Nat) (cs : List Cl) : Prop where
 row : w.heap[a]? = some (.cells #[.int .i64 k, .int .i64 (n : Int), .slice bo bn bc, .slice so sn sc] 95 (0, 0))
 body : Sl w bo bn bc (bdy cs)
 starts : SlN w so sn sc (sts 0 cs)
theorem PgAt.on {w w' : World} {a : Nat} {k : Int} {n : Nat} {bo : Option Addr} {bn bc : Nat} {so : Option Addr} {sn sc : Nat} {cs : List Cl} (h : PgAt w a k n bo bn bc so sn sc cs) (hb : Below w.heap.size w w') : PgAt w' a k n bo bn bc so sn sc cs :=
 ⟨box_on h.row hb, h.body.on (Nat.le_refl _) hb, h.starts.on hb⟩
theorem PgAt.cells {w : World} {a : Nat} {k : Int} {n : Nat} {bo : Option Addr} {bn bc : Nat} {so : Option Addr} {sn sc : Nat} {cs : List Cl} (h : PgAt w a k n bo bn bc so sn sc cs) :
  w.cell? ⟨a, 0, none⟩ = some (.int .i64 k) ∧ w.cell? ⟨a, 1, none⟩ = some (.int .i64 (n : Int)) ∧ w.cell? ⟨a, 2, none⟩ = some (.slice bo bn bc) ∧ w.cell? ⟨a, 3, none⟩ = some (.slice so sn sc) := by
 refine ⟨?_, ?_, ?_, ?_⟩
 ·rw [cell_of_row _ _ 0 _ _ _ h.row]; rfl
 ·rw [cell_of_row _ _ 1 _ _ _ h.row]; rfl
 ·rw [cell_of_row _ _ 2 _ _ _ h.row]; rfl
 ·rw [cell_of_row _ _ 3 _ _ _ h.row]; rfl
theorem PgAt.sn_eq {w : World} {a : Nat} {k : Int} {n : Nat} {bo : Option Addr} {bn bc : Nat} {so : Option Addr} {sn sc : Nat} {cs : List Cl} (h : PgAt w a k n bo bn bc so sn sc cs) : sn = cs.length ∧ bn = (bdy cs).length :=
 ⟨by rw [← h.starts.hlen, sts_length], h.body.hlen.symm⟩
theorem PgAt.lt {w : World} {a : Nat} {k : Int} {n : Nat} {bo : Option Addr} {bn bc : Nat} {so : Option Addr} {sn sc : Nat} {cs : List Cl} (h : PgAt w a k n bo bn bc so sn sc cs) : a < w.heap.size := lt_some h.row
theorem fB2 (x : Int) : fB 2 x = [x / 256 % 256, x % 256] := by simp [fB]
theorem putShort_any (w : World) (g n p : Nat) (L : List Int) (x : Int) (hb : Bk w g L) (hL : L.length = n) (hp : p + 2 ≤ n) (hn : n ≤ 65536) :
  Calls Tryz.prog 118 #[.slice (some ⟨g, 0, none⟩) n n, .int .i64 (p : Int), .int .i64 x] w fun e w' => e = .returned (.tuple #[]) ∧ w' = (w.setCell ⟨g, p, none⟩ (.int .u8 (x / 256 % 256))).setCell ⟨g, p + 1, none⟩ (.int .u8 (x % 256)) := by
 have c0 := hb.cell p (by omega)
 have c1 := hb.cell (p + 1) (by omega)
 have f0 := hb.free p
 have f1 := hb.free (p + 1)
 have p0 : (p : Int) < (n : Int) := by omega
 have p1 : (p : Int) + 1 < (n : Int) := by omega
 have p2 : p < n := by omega
 have p3 : p + 1 < n := by omega
 clear hb
 generalize L.getD p 0 = y0 at *
 generalize L.getD (p + 1) 0 = y1 at *
 go_enter Tryz.func118, Tryz.ntmps118
 go_wp2
 go_returns
 exact ⟨rfl, rfl⟩
theorem Bk.short {w : World} {g p : Nat} {L : List Int} (h : Bk w g L) (x y : Int) : Bk ((w.setCell ⟨g, p, none⟩ (.int .u8 x)).setCell ⟨g, p + 1, none⟩ (.int .u8 y)) g ((L.set p x).set (p + 1) y) := by
 unfold Bk at *
 have h1 := set_row (i := p) (u := .int .u8 x) h
 have h2 := set_row (i := p + 1) (u := .int .u8 y) h1
 rw [h2]
 simp [By, List.map_set]
theorem or_short (a b : Int) (ha : 0 ≤ a ∧ a ≤ 255) (hb : 0 ≤ b ∧ b ≤ 255) : bits .or .i64 (a * 256) b = a * 256 + b := by
 obtain ⟨x, rfl⟩ := Int.eq_ofNat_of_zero_le ha.1
 obtain ⟨y, rfl⟩ := Int.eq_ofNat_of_zero_le hb.1
 show IntKind.i64.wrap ((BitVec.ofInt 64 ((x : Int) * 256) ||| BitVec.ofInt 64 (y : Int)).toNat : Nat) = _
 have h1 : (BitVec.ofInt 64 ((x : Int) * 256)).toNat = 2 ^ 8 * x := by rw [BitVec.toNat_ofInt]; omega
 have h2 : (BitVec.ofInt 64 (y : Int)).toNat = y := by rw [BitVec.toNat_ofInt]; omega
 rw [BitVec.toNat_or, h1, h2, ← Nat.two_pow_add_eq_or_of_lt (show y < 2 ^ 8 by omega), IntKind.wrap_i64]
 omega
theorem rdN2 (l : List Int) (p : Nat) (h : p + 2 ≤ l.length) : rdN l p 2 = l.getD p 0 * 256 + l.getD (p + 1) 0 := by
 unfold rdN
 rw [drop_cons l p (by omega), drop_cons l (p + 1) (by omega)]
 simp [rdB]
theorem shortAt_any (w : World) (ao : Option Addr) (n cap p : Nat) (l : List Int) (hs : Sl w ao n cap l) (hp : p + 2 ≤ n) :
  Calls Tryz.prog 123 #[.slice ao n cap, .int .i64 (p : Int)] w fun e w' => e = .returned (.int .i64 (rdN l p 2)) ∧ ∃ q, w' = w.drewN q := by
 have hlen := hs.hlen
 have hr := hs.hroom
 rw [rdN2 l p (by omega)]
 rcases hs.hat with h | ⟨b, off, rfl, hb, hc⟩
 ·omega
 obtain ⟨p', hp'⟩ : ∃ p', p + 1 = p' := ⟨_, rfl⟩
 have hpI : (p : Int) + 1 = (p' : Int) := by omega
 have c0 := hc p (by omega)
 have c1 := hc p' (by omega)
 have y0 := hs.wf.getD p
 have y1 := hs.wf.getD p'
 have p0 : (p : Int) < (n : Int) := by omega
 have p1 : (p' : Int) < (n : Int) := by omega
 have p2 : p < n := by omega
 have p3 : p' < n := by omega
 clear hc hs
 rw [hp']
 clear hp'
 generalize l.getD p 0 = a at *
 generalize l.getD p' 0 = c at *
 have ho := or_short a c y0 y1
 have hw0 : IntKind.i64.wrap a = a := by rw [IntKind.wrap_i64]; omega
 have hw1 : IntKind.i64.wrap c = c := by rw [IntKind.wrap_i64]; omega
 have hw : IntKind.i64.wrap (a * 256) = a * 256 := by rw [IntKind.wrap_i64]; omega
 go_enter Tryz.func123, Tryz.ntmps123
 go_wp2_with fail
 go_quiet (fail)
 go_wp2
 go_ret
 exact ⟨rfl, _, rfl⟩
end Go.Proofs.YtlhkinlgolcpaaaGreatDoor
