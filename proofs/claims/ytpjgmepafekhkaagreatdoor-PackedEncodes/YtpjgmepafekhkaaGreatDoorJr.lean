/- packed.entry.copied: a cell in memory of its own. -/
import Derived.Test.YtpjgmepafekhkaaGreatDoorJq
import Derived.Lib.LazyBuf
namespace Go.Proofs.YtpjgmepafekhkaaGreatDoor
open Go.RowKit

/-- What copied comes to. -/
def CopQ (key val : List Int) (kn : Nat) (kd : Int) (vn : Nat) (pg ct : Int) (w : World) (e : Ending) (w' : World) : Prop :=
  ∃ a1 c1 g2, e = .returned (.agg #[.slice a1 kn c1, .int .i64 kd, .slice (some ⟨g2, 0, none⟩) vn vn, .int .i64 pg, .int .i64 ct]) ∧ Hid (OwnB w' w.heap.size (.slice a1 kn c1) key ∧ Bk w' g2 val ∧ w.heap.size ≤ g2 ∧ (Value.slice a1 kn c1).ownBlock ≠ some g2) ∧ Hid (Below w.heap.size w w')
set_option maxRecDepth 100000 in
theorem OwnB.same {w w' : World} {B : Nat} {v : Value} {l : List Int} (h : OwnB w B v l) (hb : ∀ k, v.ownBlock = some k → w'.heap[k]? = w.heap[k]?) : OwnB w' B v l := by
  unfold OwnB at *
  refine ⟨h.1, ?_⟩
  rcases h.2 with h2 | ⟨g, cap, cur, e, hg, hh, r⟩
  · exact .inl h2
  · exact .inr ⟨g, cap, cur, e, hg, (hb g (by rw [e]; rfl)).trans hh, r⟩
set_option maxRecDepth 100000 in
theorem Bk.cf {w w' : World} {g : Nat} {l : List Int} {F : Nat → Prop} (h : Bk w g l) (hc : Cf F w w') (hf : ¬ F g) : Bk w' g l := (hc.block g (lt_some h) hf).trans h
set_option maxRecDepth 100000 in
theorem OwnB.apart5 {w : World} {B : Nat} {v : Value} {l : List Int} (h : OwnB w B v l) {g : Nat} {x0 x1 x2 x3 x4 : Value} (hc : C5 w g x0 x1 x2 x3 x4) : v.ownBlock ≠ some g := by
  unfold C5 at hc
  exact h.apart hc (by decide)
set_option maxRecDepth 100000 in
theorem Bk.apart5 {w : World} {g h : Nat} {l : List Int} {x0 x1 x2 x3 x4 : Value} (hb : Bk w g l) (hc : C5 w h x0 x1 x2 x3 x4) : ¬ g = h := by
  rintro rfl
  unfold Bk at hb
  unfold C5 at hc
  rw [hb] at hc
  simp at hc

set_option maxRecDepth 100000 in
set_option maxHeartbeats 2000000 in
theorem ecopied_any (ho : Option Addr) (hn hc : Nat) (ko : Option Addr) (kn kc : Nat) (kd : Int) (vo : Option Addr) (vn vc : Nat) (pg ct : Int) (h key val : List Int) (K : Nat) (w : World) (hh : Sl w ho hn hc h) (hk : Sl w ko kn kc key) (hv : Sl w vo vn vc val) (hK : hn + kn = K) (hb : K ≤ 140737488355328) :
    Calls Tryz.prog 45 #[.agg #[.slice ho hn hc, .slice ko kn kc, .int .i64 kd, .slice vo vn vc, .int .i64 pg, .int .i64 ct]] w fun e w' => CopQ (h ++ key) val K kd vn pg ct w e w' := by
  obtain ⟨i0, hi, hz0, hz1, hz2⟩ := info_parts info5
  have hsz : (Tryz.prog.info? 5).map (·.size) = some 1 := by rw [hi]; simp [hz1]
  obtain ⟨s, hs⟩ : ∃ s, w.heap.size = s := ⟨_, rfl⟩
  have HSW := hidden hs
  obtain ⟨x, hx⟩ : ∃ x, ((w.alloc (.cells #[.slice ho hn hc, .slice ko kn kc, .int .i64 kd, .slice vo vn vc, .int .i64 pg, .int .i64 ct] 57)).alloc (.cells #[.slice none 0 0, .int .i64 0, .slice none 0 0, .int .i64 0, .int .i64 0] 47)).alloc (.cells #[.slice ko kn kc, .int .i64 kd, .slice vo vn vc, .int .i64 pg, .int .i64 ct] 47) = x := ⟨_, rfl⟩
  have hbx : Below w.heap.size w x := by rw [← hx]; exact bl_al (bl_al (bl_al (Below.refl _ _) (Nat.le_refl _) _) (Nat.le_refl _) _) (Nat.le_refl _) _
  have z1 : (w.alloc (.cells #[.slice ho hn hc, .slice ko kn kc, .int .i64 kd, .slice vo vn vc, .int .i64 pg, .int .i64 ct] 57)).heap.size = s + 1 := by rw [← hs]; simp
  have z2 : ((w.alloc (.cells #[.slice ho hn hc, .slice ko kn kc, .int .i64 kd, .slice vo vn vc, .int .i64 pg, .int .i64 ct] 57)).alloc (.cells #[.slice none 0 0, .int .i64 0, .slice none 0 0, .int .i64 0, .int .i64 0] 47)).heap.size = s + 2 := by rw [← hs]; simp
  have HE : Hid (E6 x s (.slice ho hn hc) (.slice ko kn kc) (.int .i64 kd) (.slice vo vn vc) (.int .i64 pg) (.int .i64 ct)) := by
    rw [← hx, ← hs]
    exact hidden (box_on (box_on (E6.box w _ _ _ _ _ _) (bl_al (Below.refl _ _) (Nat.le_refl _) _)) (bl_al (Below.refl _ _) (Nat.le_refl _) _))
  have HR : Hid (C5 x (s + 1) (.slice none 0 0) (.int .i64 0) (.slice none 0 0) (.int .i64 0) (.int .i64 0)) := by
    rw [← hx, ← z1]
    exact hidden (box_on (C5.box _ _ _ _ _ _) (bl_al (Below.refl _ _) (Nat.le_refl _) _))
  have HC : Hid (C5 x (s + 2) (.slice ko kn kc) (.int .i64 kd) (.slice vo vn vc) (.int .i64 pg) (.int .i64 ct)) := by
    rw [← hx, ← z2]
    exact hidden (C5.box _ _ _ _ _ _)
  have HXS : Hid (x.heap.size = s + 3) := hidden (by rw [← hx, ← hs]; simp)
  have HV := hidden (hv.on (Nat.le_refl _) hbx)
  have HBX := hidden hbx
  have HK := hidden (key_any ho hn hc ko kn kc kd vo vn vc pg ct h key x (hh.on (Nat.le_refl _) hbx) (hk.on (Nat.le_refl _) hbx) (by omega))
  unfold eV at HK
  have HKL : Hid ((h ++ key).length = K) := hidden (by rw [List.length_append, hh.hlen, hk.hlen, hK])
  have hvr := hv.hroom
  obtain ⟨c0, c1, c2, c3, c4, c5⟩ := HE.out.cells
  clear hh hk hv hbx z1 z2
  go_enter Tryz.func45, Tryz.ntmps45
  go_wp2_with (first | (go_at_call 79; refine HK.out.mono ?_; rintro e w1 ⟨v1, rfl, HO1, HB1⟩; refine Hid.out ?_))
  apply hidden
  have ho1 := HO1.out
  obtain ⟨a1, k1, rfl⟩ := ho1.shape
  rw [HKL.out] at ho1 ⊢
  have HO1 := hidden ho1
  clear ho1
  have HC1 : Hid (C5 w1 (s + 2) (.slice ko kn kc) (.int .i64 kd) (.slice vo vn vc) (.int .i64 pg) (.int .i64 ct)) := hidden (box_on HC.out HB1.out)
  have HE1 : Hid (E6 w1 s (.slice ho hn hc) (.slice ko kn kc) (.int .i64 kd) (.slice vo vn vc) (.int .i64 pg) (.int .i64 ct)) := hidden (box_on HE.out HB1.out)
  have HR1 : Hid (C5 w1 (s + 1) (.slice none 0 0) (.int .i64 0) (.slice none 0 0) (.int .i64 0) (.int .i64 0)) := hidden (box_on HR.out HB1.out)
  have HV1 : Hid (Sl w1 vo vn vc val) := hidden (HV.out.on (Nat.le_refl _) HB1.out)
  have hap := HO1.out.apart5 HC1.out
  obtain ⟨y, hy⟩ : ∃ y, w1.setCell ⟨s + 2, 0, none⟩ (.slice a1 K k1) = y := ⟨_, rfl⟩
  have hcy : Cf (· = s + 2) w1 y := by rw [← hy]; exact Cf.set _ _ _ _
  have HC2 : Hid (C5 y (s + 2) (.slice a1 K k1) (.int .i64 kd) (.slice vo vn vc) (.int .i64 pg) (.int .i64 ct)) := hidden (by rw [← hy]; exact (HC1.out.set _).1)
  have HE2 : Hid (E6 y s (.slice ho hn hc) (.slice ko kn kc) (.int .i64 kd) (.slice vo vn vc) (.int .i64 pg) (.int .i64 ct)) := hidden (HE1.out.cf hcy (by omega))
  have HR2 : Hid (C5 y (s + 1) (.slice none 0 0) (.int .i64 0) (.slice none 0 0) (.int .i64 0) (.int .i64 0)) := hidden (HR1.out.cf hcy (by omega))
  have HV2 : Hid (Sl y vo vn vc val) := hidden (HV1.out.cf hcy (HV1.out.apart5 HC1.out))
  have HO2 : Hid (OwnB y (s + 3) (.slice a1 K k1) (h ++ key)) := hidden (by rw [← HXS.out]; exact HO1.out.cf hcy hap)
  have HB2 : Hid (Below w.heap.size w y) := hidden ((bl_go HBX.out (Nat.le_refl _) HB1.out).trans (hcy.below (Nat.le_trans HBX.out.size HB1.out.size) (by intro i hi e; omega)))
  obtain ⟨f0, f1, f2, f3, f4⟩ := HC1.out.free
  obtain ⟨d0, d1, d2, d3, d4⟩ := HC1.out.cells
  clear c0 c1 c2 c3 c4 c5
  obtain ⟨c0, c1, c2, c3, c4, c5⟩ := HE2.out.cells
  clear hap hcy HC HE HR HV HC1 HE1 HR1 HV1 HO1 HB1 HK HBX
  go_wp2_with (at_make; refine wpList_make_full _ rfl _ _ 26 rfl y.heap.size 5 i0 (.int .u8 0) 1 Tryz.underlying26 hi hz0 hz1 .i64 .i64 vn vn vn rfl rfl rfl rfl (by rw [hz2]; omega) (by unfold maxLen; omega) (Nat.le_refl _) ?_; refine Hid.out ?_)
  apply hidden
  intro w3 hown3 hg3
  have hb3 : Below y.heap.size y w3 := (Below.refl _ _).grown hg3 (Nat.le_refl _) (fun k hk => by cases hk)
  obtain ⟨g, hg⟩ : ∃ g, y.heap.size = g := ⟨_, rfl⟩
  obtain ⟨cur, hcur, hcs⟩ : ∃ cur : List Value, w3.heap[y.heap.size]? = some (.cells cur.toArray 5 (0, 0)) ∧ cur.length = vn := by
    rcases hown3.2 with ⟨h, _⟩ | ⟨g, c, cur, h, _, hh, _, _, hs, _⟩
    · cases h
    · cases h
      exact ⟨cur.toList, by simpa using hh, by simpa using hs⟩
  have HGS : Hid (s + 3 ≤ g) := hidden (by
    have h1 := HB2.out.size
    have h2 := lt_some HC2.out
    omega)
  have HKB : Hid (∀ i, (Value.slice a1 K k1).ownBlock = some i → s + 3 ≤ i ∧ i < g) := hidden fun i e => by
    have := HO2.out
    unfold OwnB at this
    have h2 := this.lt i e
    omega
  rw [hg] at hcur ⊢
  have HC3 : Hid (C5 w3 (s + 2) (.slice a1 K k1) (.int .i64 kd) (.slice vo vn vc) (.int .i64 pg) (.int .i64 ct)) := hidden (box_on HC2.out hb3)
  have HE3 : Hid (E6 w3 s (.slice ho hn hc) (.slice ko kn kc) (.int .i64 kd) (.slice vo vn vc) (.int .i64 pg) (.int .i64 ct)) := hidden (box_on HE2.out hb3)
  have HR3 : Hid (C5 w3 (s + 1) (.slice none 0 0) (.int .i64 0) (.slice none 0 0) (.int .i64 0) (.int .i64 0)) := hidden (box_on HR2.out hb3)
  have hv3 : Sl w3 vo vn vc val := HV2.out.on (Nat.le_refl _) hb3
  have ho3 : OwnB w3 (s + 3) (.slice a1 K k1) (h ++ key) := HO2.out.on (Nat.le_refl _) hb3
  obtain ⟨t, ht⟩ : ∃ t, w3.setCell ⟨s + 2, 2, none⟩ (.slice (some ⟨g, 0, none⟩) vn vn) = t := ⟨_, rfl⟩
  have hct : Cf (· = s + 2) w3 t := by rw [← ht]; exact Cf.set _ _ _ _
  have HC4 : Hid (C5 t (s + 2) (.slice a1 K k1) (.int .i64 kd) (.slice (some ⟨g, 0, none⟩) vn vn) (.int .i64 pg) (.int .i64 ct)) := hidden (by rw [← ht]; exact (HC3.out.set _).2.2.1)
  have HE4 : Hid (E6 t s (.slice ho hn hc) (.slice ko kn kc) (.int .i64 kd) (.slice vo vn vc) (.int .i64 pg) (.int .i64 ct)) := hidden (HE3.out.cf hct (by omega))
  have HR4 : Hid (C5 t (s + 1) (.slice none 0 0) (.int .i64 0) (.slice none 0 0) (.int .i64 0) (.int .i64 0)) := hidden (HR3.out.cf hct (by omega))
  have hv4 : Sl t vo vn vc val := hv3.cf hct (hv3.apart5 HC3.out)
  have HO4 : Hid (OwnB t (s + 3) (.slice a1 K k1) (h ++ key)) := hidden (ho3.cf hct (ho3.apart5 HC3.out))
  have HB4 : Hid (Below w.heap.size w t) := hidden ((bl_go HB2.out (Nat.le_refl _) hb3).trans (hct.below (Nat.le_trans HB2.out.size hb3.size) (by intro i hi e; omega)))
  have HCU : Hid (t.heap[g]? = some (.cells cur.toArray 5 (0, 0))) := hidden ((hct.block g (lt_some hcur) (by have := HGS.out; omega)).trans hcur)
  have HP : Hid (0 < (By val).length → some (⟨g, 0, none⟩ : Addr) = some ⟨g, 0, none⟩ ∧ ∃ ad, vo = some ad ∧ ∀ j v, (By val)[j]? = some v → t.cell? (ad.add j) = some v) := hidden (by
    intro hp
    rw [By_length, hv4.hlen] at hp
    rcases hv4.hat with h0 | ⟨b, off, rfl, hbb, hc⟩
    · omega
    · refine ⟨rfl, _, rfl, fun j v hj => ?_⟩
      obtain ⟨h1, rfl⟩ := getElem?_By val j v hj
      rw [Addr.add_lit]
      exact hc j (by rw [← hv4.hlen]; exact h1))
  have HVL := hidden hv4.hlen
  obtain ⟨e0, e1, e2, e3, e4⟩ := HC3.out.cells
  obtain ⟨h0, h1, h2, h3, h4⟩ := HC3.out.free
  clear c0 c1 c2 c3 c4 c5 d0 d1 d2 d3 d4 f0 f1 f2 f3 f4 hy
  obtain ⟨c0, c1, c2, c3, c4, c5⟩ := HE4.out.cells
  obtain ⟨d0, d1, d2, d3, d4⟩ := HC4.out.cells
  have hbt : Below t.heap.size t t := Below.refl _ _
  have hgt : g < t.heap.size := lt_some HCU.out
  clear hown3 hg3 hb3 hcur hv3 ho3 hct hv4 HC2 HE2 HR2 HV2 HO2 HB2 HC3 HE3 HR3
  go_wp2_with (refine wpList_copy_splice rfl _ _ 26 26 rfl 5 Tryz.underlying26 hsz _ _ vn vn vn vc rfl rfl g 0 cur 5 HCU.out (By val) (by rw [By_length, HVL.out]; exact (Nat.min_self vn).symm) HP.out (by rw [By_length, HVL.out]; omega) (By_one val) g t (Below.refl _ _) (Nat.le_refl _) ?_; refine Hid.out ?_)
  apply hidden
  intro w5 hh5 hb5
  have HBK : Hid (Bk w5 g val) := by
    have h' := hh5.out
    rw [show splice cur 0 (By val) = By val from by simp [splice, By_length, HVL.out, hcs]] at h'
    exact hidden h'
  have hgs := HGS.out
  have HC5 : Hid (C5 w5 (s + 2) (.slice a1 K k1) (.int .i64 kd) (.slice (some ⟨g, 0, none⟩) vn vn) (.int .i64 pg) (.int .i64 ct)) := hidden ((hb5.block _ (by omega)).trans HC4.out)
  have HR5 : Hid (C5 w5 (s + 1) (.slice none 0 0) (.int .i64 0) (.slice none 0 0) (.int .i64 0) (.int .i64 0)) := hidden ((hb5.block _ (by omega)).trans HR4.out)
  have HB5 : Hid (Below w.heap.size w w5) := hidden (HB4.out.trans (hb5.mono (by have := HSW.out; omega)))
  have HO5 : Hid (OwnB w5 (s + 3) (.slice a1 K k1) (h ++ key)) := hidden (HO4.out.same fun i e => hb5.block i (HKB.out i e).2)
  clear c0 c1 c2 c3 c4 c5 d0 d1 d2 d3 d4 e0 e1 e2 e3 e4 h0 h1 h2 h3 h4 ht HC4 HR4 HE4 HB4 HO4 HCU HP hh5 hb5
  obtain ⟨d0, d1, d2, d3, d4⟩ := HC5.out.cells
  obtain ⟨b0, b1, b2, b3, b4⟩ := HR5.out.cells
  obtain ⟨f0, f1, f2, f3, f4⟩ := HR5.out.free
  go_wp2
  refine bodyPost_ret (results_cell_row rfl _ _ (s + 1) 47 #[.slice a1 K k1, .int .i64 kd, .slice (some ⟨g, 0, none⟩) vn vn, .int .i64 pg, .int .i64 ct] (0, 0) _ (by rfl) (HR5.out.put _ _ _ _ _) Tryz.underlying47 rfl sizeCell) rfl ?_
  have hf := put5_cf w5 (s + 1) (.slice a1 K k1) (.int .i64 kd) (.slice (some ⟨g, 0, none⟩) vn vn) (.int .i64 pg) (.int .i64 ct)
  have hws := HSW.out
  exact ⟨a1, k1, g, rfl, hidden ⟨(HO5.out.low (by omega)).cf hf (HO5.out.apart5 HR5.out), HBK.out.cf hf (HBK.out.apart5 HR5.out), by omega, fun e => by have := HKB.out g e; omega⟩, hidden (HB5.out.trans (hf.below HB5.out.size (by intro i hi e; omega)))⟩
end Go.Proofs.YtpjgmepafekhkaaGreatDoor

/- packed.shortAt, bytes.Clone. -/

namespace Go.Proofs.YtpjgmepafekhkaaGreatDoor
open Go.RowKit

set_option maxRecDepth 100000 in
theorem or_short (a b : Int) (ha : 0 ≤ a ∧ a ≤ 255) (hb : 0 ≤ b ∧ b ≤ 255) : bits .or .i64 (a * 256) b = a * 256 + b := by
  obtain ⟨x, rfl⟩ := Int.eq_ofNat_of_zero_le ha.1
  obtain ⟨y, rfl⟩ := Int.eq_ofNat_of_zero_le hb.1
  show IntKind.i64.wrap ((BitVec.ofInt 64 ((x : Int) * 256) ||| BitVec.ofInt 64 (y : Int)).toNat : Nat) = _
  have h1 : (BitVec.ofInt 64 ((x : Int) * 256)).toNat = 2 ^ 8 * x := by rw [BitVec.toNat_ofInt]; omega
  have h2 : (BitVec.ofInt 64 (y : Int)).toNat = y := by rw [BitVec.toNat_ofInt]; omega
  rw [BitVec.toNat_or, h1, h2, ← Nat.two_pow_add_eq_or_of_lt (show y < 2 ^ 8 by omega), IntKind.wrap_i64]
  omega
set_option maxRecDepth 100000 in
theorem rdN2 (l : List Int) (p : Nat) (h : p + 2 ≤ l.length) : rdN l p 2 = l.getD p 0 * 256 + l.getD (p + 1) 0 := by
  unfold rdN
  rw [drop_cons l p (by omega), drop_cons l (p + 1) (by omega)]
  simp [rdB]
set_option maxRecDepth 100000 in
theorem shortAt_any (w : World) (ao : Option Addr) (n cap p : Nat) (l : List Int) (hs : Sl w ao n cap l) (hp : p + 2 ≤ n) :
    Calls Tryz.prog 81 #[.slice ao n cap, .int .i64 (p : Int)] w fun e w' => e = .returned (.int .i64 (rdN l p 2)) ∧ ∃ q, w' = w.drewN q := by
  have hlen := hs.hlen
  have hr := hs.hroom
  rw [rdN2 l p (by omega)]
  rcases hs.hat with h | ⟨b, off, rfl, hb, hc⟩
  · omega
  obtain ⟨p', hp'⟩ : ∃ p', p + 1 = p' := ⟨_, rfl⟩
  have hpI : (p : Int) + 1 = (p' : Int) := by omega
  have c0 := hc p (by omega)
  have c1 := hc p' (by omega)
  have y0 := hs.wf.getD p
  have y1 := hs.wf.getD p'
  have p0 : (p : Int) < (n : Int) := by omega
  have p1 : (p' : Int) < (n : Int) := by omega
  have p2 : p < n := by omega
  have p3 : p' < n := by omega
  clear hc hs
  rw [hp']
  clear hp'
  generalize l.getD p 0 = a at *
  generalize l.getD p' 0 = c at *
  have ho := or_short a c y0 y1
  have hw0 : IntKind.i64.wrap a = a := by rw [IntKind.wrap_i64]; omega
  have hw1 : IntKind.i64.wrap c = c := by rw [IntKind.wrap_i64]; omega
  have hw : IntKind.i64.wrap (a * 256) = a * 256 := by rw [IntKind.wrap_i64]; omega
  go_enter Tryz.func81, Tryz.ntmps81
  go_wp2_with fail
  go_quiet (fail)
  go_wp2
  go_ret
  exact ⟨rfl, _, rfl⟩

set_option maxRecDepth 100000 in
set_option maxHeartbeats 1000000 in
theorem clone_any (a : Addr) (n cap : Nat) (l : List Int) (w : World) (hs : Sl w (some a) n cap l) :
    Calls Tryz.prog 82 #[.slice (some a) n cap] w fun e w' => ∃ g c, e = .returned (.slice (some ⟨g, 0, none⟩) n c) ∧ Hid (OwnB w' w.heap.size (.slice (some ⟨g, 0, none⟩) n c) l ∧ w.heap.size ≤ g ∧ g < w'.heap.size) ∧ Hid (Below w.heap.size w w') := by
  obtain ⟨x, hx⟩ : ∃ x, w.alloc (.cells #[] 5) = x := ⟨_, rfl⟩
  have hbx : Below w.heap.size w x := by rw [← hx]; exact bl_al (Below.refl _ _) (Nat.le_refl _) _
  have HS := hidden (hs.on (Nat.le_refl _) hbx)
  have hroom := hs.hroom
  have HLN := hidden hs.hlen
  have HO : Hid (OwnB x w.heap.size (.slice (some ⟨w.heap.size, 0, none⟩) 0 0) []) := hidden (by
    refine ⟨rfl, .inr ⟨w.heap.size, 0, #[], rfl, Nat.le_refl _, ?_, Nat.le_refl _, Nat.zero_le _, rfl, rfl⟩⟩
    rw [← hx]
    exact heap_alloc_last w _)
  have HBX := hidden hbx
  have hxs : w.heap.size ≤ x.heap.size := hbx.size
  have he : (binOp .eql 26 (.slice (some a) n cap) (.slice none 0 0)).run Tryz.prog w = .ok (.bool false) w := run_eql_slice_nil (P := Tryz.prog) w 26 5 (some a) n cap Tryz.underlying26
  clear hs hbx
  go_enter Tryz.func82, Tryz.ntmps82
  go_wp2_with (at_builtin; refine app_sl _ rfl _ _ rfl w.heap.size [] l _ (some a) n cap rfl rfl HO.out HS.out (by simp; omega) hxs ?_; refine Hid.out ?_)
  apply hidden
  intro v1 w1 ho1 g1
  replace ho1 : OwnB w1 w.heap.size v1 l := by simpa using ho1
  have HB : Hid (Below w.heap.size w w1) := hidden (HBX.out.trans (g1.below HO.out hxs))
  obtain ⟨g, c, rfl, hg, hgl⟩ : ∃ g c, v1 = .slice (some ⟨g, 0, none⟩) n c ∧ w.heap.size ≤ g ∧ g < w1.heap.size := by
    have hb := ho1
    unfold OwnB at hb
    rcases hb.2 with ⟨e, _⟩ | ⟨g, c, cur, e, hg, hh, _⟩
    · have := g1.own
      rw [e] at this
      simp [Value.ownBlock] at this
    · exact ⟨g, c, by rw [e, HLN.out], hg, lt_some hh⟩
  have HO1 := hidden ho1
  clear ho1 g1
  go_wp2
  go_ret
  exact ⟨g, c, rfl, hidden ⟨HO1.out, hg, hgl⟩, HB⟩
set_option maxRecDepth 100000 in
theorem riseQ_any (ao bo : Option Addr) (n m c d : Nat) (la lb : List Int) (w : World) (ha : Sl w ao n c la) (hb : Sl w bo m d lb) :
    Calls Tryz.prog 31 #[.slice ao n c, .slice bo m d] w fun e w' => e = .returned (.bool (decide (kl la lb))) ∧ w' = w := by
  have hr := compare_any ao bo n m c d la lb w ha hb
  have hq : decide (kl la lb) = decide (ordL la lb < 0) := by
    have := ordL_three la lb
    refine decide_eq_decide.2 ?_
    unfold kl
    omega
  rw [hq]
  clear ha hb hq
  generalize ordL la lb = x at *
  go_enter Tryz.func31, Tryz.ntmps31
  go_wp2_with (go_at_call 65; refine same_call hr ?_)
  go_ret
  exact ⟨rfl, rfl⟩
end Go.Proofs.YtpjgmepafekhkaaGreatDoor

/- packed.Page.parted: plain mathematics. -/

namespace Go.Proofs.YtpjgmepafekhkaaGreatDoor
open Go.RowKit

/-- The key of the cell ahead. -/
def prv (cs : List Cl) : Option (List Int) := cs.getLast?.map Cl.key
/-- What stands once for all and belongs to the key of the cell j. -/
def hdP (k : Int) (P : List Int) (j : Nat) : List Int := if k = 3 ∧ j = 0 then [] else P
set_option maxRecDepth 100000 in
theorem hdP_len (k : Int) (P : List Int) (j : Nat) : (hdP k P j).length = if k = 3 ∧ j = 0 then 0 else P.length := by
  unfold hdP
  split <;> rfl
set_option maxRecDepth 100000 in
theorem hdP_le (k : Int) (P : List Int) (j : Nat) : (hdP k P j).length ≤ P.length := by
  rw [hdP_len]
  split <;> omega
set_option maxRecDepth 100000 in
theorem hdP_wf {k : Int} {P : List Int} (h : Wf P) (j : Nat) : Wf (hdP k P j) := by
  unfold hdP
  split
  · exact Wf.nil
  · exact h
/-- Where the walk through the body stands. -/
structure PwQ (k : Int) (n m : Nat) (P body : List Int) (cs : List Cl) (j p : Nat) : Prop where
  len : cs.length = j
  at_ : p = (qbd P.length (whl k) cs).length
  eq : partQ k n P m (whl k) none body = (partQ k n P (m - j) (whl k && decide (j = 0)) (prv cs) (body.drop p)).map fun x => (cs ++ x.1, x.2)
set_option maxRecDepth 100000 in
theorem PwQ.start (k : Int) (n m : Nat) (P body : List Int) : PwQ k n m P body [] 0 0 := ⟨rfl, rfl, by simp [prv]⟩
set_option maxRecDepth 100000 in
theorem whl_hd (k : Int) (P : List Int) (j : Nat) : (if (whl k && decide (j = 0)) = true then [] else P) = hdP k P j := by
  unfold hdP whl
  simp
set_option maxRecDepth 100000 in
theorem PwQ.fail {k : Int} {n m : Nat} {P body : List Int} {cs : List Cl} {j p : Nat} (h : PwQ k n m P body cs j p) (hj : j < m) (hp : pC (body.drop p) = none) : partQ k n P m (whl k) none body = none := by
  rw [h.eq, show m - j = (m - j - 1) + 1 by omega, partQ, hp]
  rfl
set_option maxRecDepth 100000 in
theorem PwQ.bad {k : Int} {n m : Nat} {P body : List Int} {cs : List Cl} {j p q : Nat} {d : Cl} (h : PwQ k n m P body cs j p) (hj : j < m) (hp : pC (body.drop p) = some (d, body.drop q)) (hc : ¬ (mayP k n (d.pre (hdP k P j)) ∧ ahead (prv cs) (d.pre (hdP k P j)).key)) : partQ k n P m (whl k) none body = none := by
  rw [h.eq, show m - j = (m - j - 1) + 1 by omega, partQ, hp]
  simp only [whl_hd]
  rw [if_neg hc]
  rfl
set_option maxRecDepth 100000 in
theorem PwQ.next {k : Int} {n m : Nat} {P body : List Int} {cs : List Cl} {j p q : Nat} {d : Cl} (h : PwQ k n m P body cs j p) (hw : Wf body) (hj : j < m) (hq : q ≤ body.length) (hpl : p ≤ body.length) (hp : pC (body.drop p) = some (d, body.drop q)) (hc : mayP k n (d.pre (hdP k P j)) ∧ ahead (prv cs) (d.pre (hdP k P j)).key) :
    PwQ k n m P body (cs ++ [d.pre (hdP k P j)]) (j + 1) q ∧ qst P.length (whl k) 0 (cs ++ [d.pre (hdP k P j)]) = qst P.length (whl k) 0 cs ++ [p] := by
  have hi := (pC_inv (hw.drop p) hp).1
  have hl := congrArg List.length hi
  rw [List.length_append, List.length_drop, List.length_drop] at hl
  have ha := h.at_
  have hb : qB (cutn P.length (whl k) cs) (d.pre (hdP k P j)) = qB 0 d := by
    have hn : cs = [] ↔ j = 0 := by rw [← h.len]; exact List.length_eq_zero_iff.symm
    unfold cutn hdP whl
    by_cases e : k = 3 ∧ j = 0
    · rw [if_pos (by simp [hn, e]), if_pos e]
      obtain ⟨key, kd, val, pg, ct⟩ := d
      simp [Cl.pre]
    · rw [if_neg (by simpa [hn] using e), if_neg e]
      exact qB_pre P d
  refine ⟨⟨by simp [h.len], ?_, ?_⟩, ?_⟩
  · rw [qbd_snoc, List.length_append, ← ha, hb]
    omega
  · rw [h.eq, show m - j = (m - (j + 1)) + 1 by omega, partQ, hp]
    simp only [whl_hd]
    rw [if_pos hc, show prv (cs ++ [d.pre (hdP k P j)]) = some (d.pre (hdP k P j)).key from by simp [prv]]
    simp only [Nat.add_one_ne_zero, decide_false, Bool.and_false]
    cases partQ k (n : Int) P (m - (j + 1)) false (some (d.pre (hdP k P j)).key) (body.drop q) <;> simp
  · rw [qst_snoc, Nat.zero_add, ← ha]
set_option maxRecDepth 100000 in
theorem PwQ.done {k : Int} {n m : Nat} {P body : List Int} {cs : List Cl} {p : Nat} (h : PwQ k n m P body cs m p) : partQ k n P m (whl k) none body = some (cs, body.drop p) := by
  have he := h.eq
  rw [Nat.sub_self, partQ] at he
  simpa using he
set_option maxRecDepth 100000 in
/-- A part of what is one's own. -/
theorem OwnB.take {w : World} {B : Nat} {ao : Option Addr} {n cap : Nat} {l : List Int} (h : OwnB w B (.slice ao n cap) l) (k : Nat) (hk : k ≤ n) : OwnB w B (.slice ao k cap) (l.take k) := by
  unfold OwnB at *
  obtain ⟨h1, h2⟩ := h
  refine ⟨by simp [By], ?_⟩
  rcases h2 with ⟨e, hl⟩ | ⟨g, c, cur, e, hg, hh, hnc, hm, hs, ht⟩
  · injection e with e1 e2 e3
    subst e1 e2 e3
    obtain rfl : k = 0 := by omega
    exact .inl ⟨rfl, by simp⟩
  · injection e with e1 e2 e3
    subst e1 e2 e3
    have hkl : (l.take k).length = k := by rw [List.length_take]; omega
    refine .inr ⟨g, cap, cur, by rw [hkl], hg, hh, by rw [hkl]; omega, hm, hs, ?_⟩
    have := congrArg (List.take k) ht
    rw [hkl]
    simpa [By, List.take_take, List.map_take, Nat.min_eq_left hk] using this
end Go.Proofs.YtpjgmepafekhkaaGreatDoor
