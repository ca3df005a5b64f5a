/- Layer 6: the order of a page's cells, plain mathematics; what the document's put answers is what ours does. -/
import Derived.Test.YtphjnahmbdinmaaGreatDoorJ35
namespace Go.Proofs.YtphjnahmbdinmaaGreatDoor
open Go.RowKit

/-- The keys rise. -/
def risL (cs : List Cl) : Prop := ∀ t, t + 1 < cs.length → kl (kyL cs t) (kyL cs (t + 1))
/-- The cells with one put in. -/
def withL (cs : List Cl) (i j : Nat) (c : Cl) : List Cl := cs.take i ++ [c] ++ cs.drop j
set_option maxRecDepth 100000 in
theorem withL_len {cs : List Cl} {i j : Nat} {c : Cl} (hi : i ≤ cs.length) (hj : j ≤ cs.length) : (withL cs i j c).length = i + 1 + (cs.length - j) := by
  unfold withL
  simp
  omega
set_option maxRecDepth 100000 in
theorem kyL_lo {cs : List Cl} {i j t : Nat} {c : Cl} (hi : i ≤ cs.length) (ht : t < i) : kyL (withL cs i j c) t = kyL cs t := by
  unfold kyL withL
  rw [List.append_assoc, List.getElem?_append_left (by simp; omega), List.getElem?_take, if_pos ht]
set_option maxRecDepth 100000 in
theorem kyL_mid {cs : List Cl} {i j : Nat} {c : Cl} (hi : i ≤ cs.length) : kyL (withL cs i j c) i = c.key := by
  unfold kyL withL
  rw [List.append_assoc, List.getElem?_append_right (by simp; omega)]
  simp [Nat.min_eq_left hi]
set_option maxRecDepth 100000 in
theorem kyL_hi {cs : List Cl} {i j t : Nat} {c : Cl} (hi : i ≤ cs.length) : kyL (withL cs i j c) (i + 1 + t) = kyL cs (j + t) := by
  unfold kyL withL
  rw [List.getElem?_append_right (by simp; omega)]
  simp only [List.length_append, List.length_take, List.length_singleton, Nat.min_eq_left hi, List.getElem?_drop]
  rw [show i + 1 + t - (i + 1) = t by omega]
set_option maxRecDepth 100000 in
theorem risL_with {cs : List Cl} {i j : Nat} {c : Cl} (hr : risL cs) (hij : i ≤ j) (hj : j ≤ cs.length) : risL (withL cs i j c) ↔ ¬ badO cs i j c.key := by
  have hi : i ≤ cs.length := by omega
  unfold badO
  constructor
  · intro h hb
    rcases hb with ⟨h0, h1⟩ | ⟨h0, h1⟩
    · have := h (i - 1) (by rw [withL_len hi hj]; omega)
      rw [kyL_lo hi (by omega), show i - 1 + 1 = i by omega, kyL_mid hi] at this
      exact h1 this
    · have := h i (by rw [withL_len hi hj]; omega)
      have e := kyL_hi (j := j) (c := c) (t := 0) hi
      rw [kyL_mid hi, show i + 1 = i + 1 + 0 by omega, e, Nat.add_zero] at this
      exact h1 this
  · intro hb t ht
    rw [withL_len hi hj] at ht
    rcases Nat.lt_trichotomy (t + 1) i with h | h | h
    · rw [kyL_lo hi (by omega), kyL_lo hi h]
      exact hr t (by omega)
    · rw [kyL_lo hi (by omega), h, kyL_mid hi]
      by_cases hk : kl (kyL cs (i - 1)) c.key
      · rw [show t = i - 1 by omega]; exact hk
      · exact absurd (.inl ⟨by omega, hk⟩) hb
    · rcases Nat.lt_or_ge i t with h' | h'
      · obtain ⟨z, rfl⟩ : ∃ z, t = i + 1 + z := ⟨t - (i + 1), by omega⟩
        rw [kyL_hi hi, show i + 1 + z + 1 = i + 1 + (z + 1) by omega, kyL_hi hi]
        exact hr (j + z) (by omega)
      · obtain rfl : t = i := by omega
        have e := kyL_hi (j := j) (c := c) (t := 0) hi
        rw [kyL_mid hi, show t + 1 = t + 1 + 0 by omega, e, Nat.add_zero]
        by_cases hk : kl c.key (kyL cs j)
        · exact hk
        · exact absurd (.inr ⟨by omega, hk⟩) hb
set_option maxRecDepth 100000 in
theorem putE_may {k : Int} {n : Nat} {cs : List Cl} {i j : Nat} {c : Cl} (h : ¬ mayP k n c) : putE k n cs i j c = 62 := by
  unfold putE
  rw [if_pos h]
set_option maxRecDepth 100000 in
theorem putE_ord {k : Int} {n : Nat} {cs : List Cl} {i j : Nat} {c : Cl} (hr : risL cs) (hij : i ≤ j) (hj : j ≤ cs.length) (h1 : mayP k n c) (h2 : ¬ risL (withL cs i j c)) : putE k n cs i j c = 63 := by
  have hb : badO cs i j c.key := Classical.byContradiction fun h => h2 ((risL_with hr hij hj).2 h)
  unfold badO at hb
  unfold putE
  rw [if_neg (fun h => h h1), if_pos hb]
set_option maxRecDepth 100000 in
theorem putE_fit {k : Int} {n : Nat} {cs : List Cl} {i j : Nat} {c : Cl} (hr : risL cs) (hij : i ≤ j) (hj : j ≤ cs.length) (h1 : mayP k n c) (h2 : risL (withL cs i j c)) : putE k n cs i j c = if n < szN (withL cs i j c) then 61 else 0 := by
  have hb : ¬ badO cs i j c.key := (risL_with hr hij hj).1 h2
  unfold badO at hb
  unfold putE
  rw [if_neg (fun h => h h1), if_neg hb]
  rfl
set_option maxRecDepth 100000 in
/-- Behind a call that went through, the keys still rise. -/
theorem risL_put {k : Int} {n : Nat} {cs : List Cl} {i j : Nat} {c : Cl} (hr : risL cs) (hij : i ≤ j) (hj : j ≤ cs.length) (h0 : putE k n cs i j c = 0) : risL (withL cs i j c) := by
  by_cases h1 : mayP k n c
  · by_cases h2 : risL (withL cs i j c)
    · exact h2
    · rw [putE_ord hr hij hj h1 h2] at h0
      simp at h0
  · rw [putE_may h1] at h0
    simp at h0
set_option maxRecDepth 100000 in
theorem risL_rem {cs : List Cl} {i : Nat} (hk : ∀ a b c : List Int, kl a b → kl b c → kl a c) (hr : risL cs) (hi : i < cs.length) : risL (cs.take i ++ cs.drop (i + 1)) := by
  have hlo : ∀ t, t < i → kyL (cs.take i ++ cs.drop (i + 1)) t = kyL cs t := fun t ht => by
    unfold kyL
    rw [List.getElem?_append_left (by simp; omega), List.getElem?_take, if_pos ht]
  have hhi : ∀ t, kyL (cs.take i ++ cs.drop (i + 1)) (i + t) = kyL cs (i + 1 + t) := fun t => by
    unfold kyL
    rw [List.getElem?_append_right (by simp; omega)]
    simp only [List.length_take, Nat.min_eq_left (Nat.le_of_lt hi), List.getElem?_drop]
    rw [show i + t - i = t by omega]
  intro t ht
  simp at ht
  rcases Nat.lt_trichotomy (t + 1) i with h | h | h
  · rw [hlo t (by omega), hlo (t + 1) h]
    exact hr t (by omega)
  · have e : kyL (cs.take i ++ cs.drop (i + 1)) i = kyL cs (i + 1) := hhi 0
    rw [hlo t (by omega), h, e]
    refine hk _ _ _ (hr t (by omega)) ?_
    rw [h]
    exact hr i (by omega)
  · obtain ⟨z, rfl⟩ : ∃ z, t = i + z := ⟨t - i, by omega⟩
    rw [hhi z, show i + z + 1 = i + (z + 1) by omega, hhi (z + 1)]
    exact hr (i + 1 + z) (by omega)
end Go.Proofs.YtphjnahmbdinmaaGreatDoor

/- Layer 6: the document's put. -/

namespace Go.Proofs.YtphjnahmbdinmaaGreatDoor
open Go.RowKit

/-- How the document's page stands behind such a call. -/
def DpTo (w : World) (B : Nat) (K : Nat → Prop) (r : Nat) (k : Int) (n : Nat) (vl : Value) (cs new : List Cl) (R : Int) (e : Ending) (w' : World) : Prop :=
  e = .returned (.int .i64 R) ∧ Hid (∃ vl', Dp w' B K r k n vl' (if R = 0 then new else cs) ∧ (vl' = vl ∨ ∀ z, vl'.ownBlock = some z → w.heap.size ≤ z)) ∧ Hid (Cf (· = r) w w')
set_option maxRecDepth 100000 in
theorem DpTo.same {w w' : World} {B : Nat} {K : Nat → Prop} {r : Nat} {k : Int} {n : Nat} {vl : Value} {cs new : List Cl} {R : Int} (hp : Dp w B K r k n vl cs) (hb : Below w.heap.size w w') (hr : R ≠ 0) : DpTo w B K r k n vl cs new R (.returned (.int .i64 R)) w' :=
  ⟨rfl, hidden ⟨vl, by rw [if_neg hr]; exact hp.on hb, .inl rfl⟩, hidden (Cf.of_below hb)⟩
set_option maxRecDepth 100000 in
theorem R5B.cf {w w' : World} {B r : Nat} {k : Int} {n : Nat} {vl : Value} (hd : DR w r k n vl) (hc : Cf (· = r) w w') {vs : List Value} {cs : List Cl} (h : R5B w B vs cs) : R5B w' B vs cs :=
  h.keep fun v l ho => ho.cfX hc fun z hz e => by
    unfold OwnB at ho
    rcases ho.2 with ⟨rfl, _⟩ | ⟨g, c, cur, rfl, _, hh, _⟩
    · simp [Value.ownBlock] at hz
    · have : g = z := by simpa [Value.ownBlock] using hz
      have e3 : z = r := e
      subst this
      subst e3
      unfold DR at hd
      rw [hd] at hh
      simp at hh
set_option maxRecDepth 100000 in
theorem OwnR.cf {w w' : World} {C B : Nat} {K : Nat → Prop} {r : Nat} {k : Int} {n : Nat} {vl v : Value} {cs : List Cl} (hd : DR w r k n vl) (hc : Cf (· = r) w w') (h : OwnR w C B K v cs) : OwnR w' C B K v cs := by
  obtain ⟨vs, h1, h2, h3⟩ := h
  refine ⟨vs, ⟨h1.1, ?_⟩, h2.cf hd hc, h3⟩
  rcases h1.2 with h0 | ⟨g, c, cur, e, hb, hh, h4⟩
  · exact .inl h0
  · refine .inr ⟨g, c, cur, e, hb, (hc.block g (lt_some hh) (fun e2 => ?_)).trans hh, h4⟩
    subst e2
    unfold DR at hd
    rw [hd] at hh
    simp at hh
set_option maxRecDepth 100000 in
set_option maxHeartbeats 8000000 in
theorem rput_any (w : World) (B : Nat) (K : Nat → Prop) (r : Nat) (k : Int) (n : Nat) (vl : Value) (cs : List Cl) (i gone j : Nat) (ka : Option Addr) (kn kc : Nat) (kd : Int) (va : Option Addr) (vn vc : Nat) (pg ct : Int) (key val : List Int) (hp : Dp w B K r k n vl cs) (hn0 : 512 ≤ n) (hn : n ≤ 65536) (hj : i + gone = j) (hig : j ≤ cs.length) (hl : cs.length ≤ 100000) (hris : risL cs) (hw : ∀ c ∈ cs, c.Wf ∧ c.key.length ≤ 140737488355328 ∧ c.val.length ≤ 140737488355328) (hzl : mayP k n ⟨key, kd, val, pg, ct⟩ → szN (withL cs i j ⟨key, kd, val, pg, ct⟩) ≤ 1099511627776) (hk : Sl w ka kn kc key) (hv : Sl w va vn vc val) (hB : B ≤ w.heap.size) (hK : ∀ z, w.heap.size ≤ z → K z) :
    Calls Tryz.prog 78 #[.pointer (some ⟨r, 0, none⟩), .int .i64 (i : Int), .int .i64 (gone : Int), .agg #[.slice ka kn kc, .int .i64 kd, .slice va vn vc, .int .i64 pg, .int .i64 ct]] w (DpTo w B K r k n vl cs (withL cs i j ⟨key, kd, val, pg, ct⟩) (putE k n cs i j ⟨key, kd, val, pg, ct⟩)) := by
  obtain ⟨s, hs⟩ : ∃ s, w.heap.size = s := ⟨_, rfl⟩
  obtain ⟨x, hx⟩ : ∃ x, w.alloc (.cells #[.slice ka kn kc, .int .i64 kd, .slice va vn vc, .int .i64 pg, .int .i64 ct] 40) = x := ⟨_, rfl⟩
  have hbx : Below w.heap.size w x := by rw [← hx]; exact bl_al (Below.refl _ _) (Nat.le_refl _) _
  have HBOX : Hid (C5 x s (.slice ka kn kc) (.int .i64 kd) (.slice va vn vc) (.int .i64 pg) (.int .i64 ct)) := by rw [← hx, ← hs]; exact hidden (C5.box _ _ _ _ _ _)
  have hpx := hp.on hbx
  have hkl := hk.hlen
  have hvl' := hv.hlen
  have hkr := hk.hroom
  have hvr := hv.hroom
  have HK := hidden (hk.on (Nat.le_refl _) hbx)
  have HV := hidden (hv.on (Nat.le_refl _) hbx)
  have HBX := hidden hbx
  have HP := hidden hp
  have HPX := hidden hpx
  have HRI := hidden hris
  have HWF := hidden hw
  have HZ := hidden hzl
  have HJ := hidden hj
  have HIG := hidden hig
  have HBB := hidden hB
  have HKK := hidden hK
  obtain ⟨sn, hsn⟩ : ∃ sn, cs.length = sn := ⟨_, rfl⟩
  obtain ⟨so, sc, hvl⟩ : ∃ so sc, vl = .slice so sn sc := by
    rcases hpx.own.shape with ⟨rfl, rfl⟩ | ⟨g, c, rfl, _⟩
    · exact ⟨none, 0, by rw [← hsn]; rfl⟩
    · exact ⟨_, c, by rw [hsn]⟩
  subst hvl
  obtain ⟨p0, p1, p2⟩ := hpx.row.cells
  obtain ⟨q0, q1, q2, q3, q4⟩ := HBOX.out.cells
  have HMB : Hid (∀ u, Below x.heap.size x u → Calls Tryz.prog 83 #[.int .i64 k, .int .i64 (n : Int), .agg #[.slice ka kn kc, .int .i64 kd, .slice va vn vc, .int .i64 pg, .int .i64 ct]] u fun e u' => e = .returned (.bool (decide (mayP k (n : Int) ⟨key, kd, val, pg, ct⟩))) ∧ Hid (Below x.heap.size x u') ∧ (u'.cell? ⟨s, 0, none⟩ = some (.slice ka kn kc) ∧ u'.cell? ⟨s, 1, none⟩ = some (.int .i64 kd) ∧ u'.cell? ⟨s, 2, none⟩ = some (.slice va vn vc) ∧ u'.cell? ⟨s, 3, none⟩ = some (.int .i64 pg) ∧ u'.cell? ⟨s, 4, none⟩ = some (.int .i64 ct))) := by
    refine hidden fun u hu => ?_
    have h := rmay6_any k (n : Int) ⟨key, kd, val, pg, ct⟩ ka va kc vc u (by omega) (by omega) (by simp only; omega) (by simp only; omega)
    simp only [hkl, hvl'] at h
    refine h.mono ?_
    rintro e u' ⟨rfl, h2⟩
    have hb2 := bl_go hu (Nat.le_refl _) h2
    exact ⟨rfl, hidden hb2, (show C5 u' s (.slice ka kn kc) (.int .i64 kd) (.slice va vn vc) (.int .i64 pg) (.int .i64 ct) from box_on HBOX.out hb2).cells⟩
  obtain ⟨E, hE⟩ : ∃ E, putE k n cs i j ⟨key, kd, val, pg, ct⟩ = E := ⟨_, rfl⟩
  obtain ⟨nw, hnw⟩ : ∃ nw, withL cs i j ⟨key, kd, val, pg, ct⟩ = nw := ⟨_, rfl⟩
  rw [hE, hnw]
  have HE := hidden hE
  have HNW := hidden hnw
  clear hnw
  have hi0 : (0 : Int) ≤ (i : Int) := by omega
  have hsg : (sn : Int) - (gone : Int) = ((sn - gone : Nat) : Int) := by omega
  have hsl : (i : Int) ≤ ((sn - gone : Nat) : Int) := by omega
  have hwr : IntKind.i64.wrap ((sn : Int) - (gone : Int)) = ((sn - gone : Nat) : Int) := by rw [hsg]; exact wrap64n _ (by omega)
  have hsb : (sn : Int) ≤ 100000 := by omega
  clear hk hv hp hpx hbx hris hw hzl hE hj hig hB hK hkr hvr
  obtain ⟨bm, hbm⟩ : ∃ bm : Bool, decide (mayP k (n : Int) ⟨key, kd, val, pg, ct⟩) = bm := ⟨_, rfl⟩
  have HBM := hidden hbm
  rw [hbm] at HMB
  clear hbm
  go_enter Tryz.func78, Tryz.ntmps78
  go_upto_region 3 with fail
  go_cut [34] (fun v u => v = .bool (!bm) ∧ Hid (Below x.heap.size x u))
  case first =>
    go_wp2_with fail
    go_region_law (first
      | (go_simp; go_at_call 83; refine (HMB.out _ (by first | exact Below.refl _ _ | exact (Below.refl _ _).drew | exact bl_dr (Below.refl _ _) _)).mono ?_; rintro e u1 ⟨rfl, HU1⟩))
    all_goals (try go_wp2_with fail)
    all_goals go_meet
    all_goals exact ⟨rfl, HU1.1⟩
  obtain ⟨rfl, HU1⟩ := hcut
  obtain ⟨u1, hu1⟩ : ∃ u1, u1 = wc := ⟨_, rfl⟩
  subst hu1
  clear p0 p1 p2 q0 q1 q2 q3 q4 HMB
  cases bm with
  | false =>
    have hE2 : E = 62 := by rw [← HE.out]; exact putE_may (by simpa using HBM.out)
    subst hE2
    go_wp2
    go_ret
    exact DpTo.same HP.out (bl_go HBX.out (Nat.le_refl _) HU1.out) (by decide)
  | true =>
    have HMP : Hid (mayP k (n : Int) ⟨key, kd, val, pg, ct⟩) := hidden (by simpa using HBM.out)
    obtain ⟨q0, q1, q2, q3, q4⟩ := (show C5 u1 s (.slice ka kn kc) (.int .i64 kd) (.slice va vn vc) (.int .i64 pg) (.int .i64 ct) from box_on HBOX.out HU1.out).cells
    have HWI := hidden (rwith_any u1 B K r k n _ cs i gone j ka kn kc kd va vn vc pg ct key val (HPX.out.on HU1.out) HJ.out HIG.out (by omega) (HK.out.on (Nat.le_refl _) HU1.out) (HV.out.on (Nat.le_refl _) HU1.out) (by have := HBB.out; have := HBX.out.size; have := HU1.out.size; omega) (fun z hz => HKK.out z (by have := HBX.out.size; have := HU1.out.size; omega)))
    rw [show cs.take i ++ [⟨key, kd, val, pg, ct⟩] ++ cs.drop j = nw from HNW.out] at HWI
    go_wp2_with (first | (go_at_call 100; refine HWI.out.mono ?_; rintro e u2 ⟨v2, rfl, HO2, HU2⟩; refine Hid.out ?_))
    apply hidden
    have hsx := HBX.out.size
    have hsu := HU1.out.size
    have HB2 : Hid (Below x.heap.size x u2) := hidden (bl_go HU1.out (Nat.le_refl _) HU2.out)
    have hod : OwnR u2 B B K v2 nw := HO2.out.lowC (by have := HBB.out; omega)
    have hwn : ∀ c ∈ nw, c.Wf ∧ c.key.length ≤ 140737488355328 ∧ c.val.length ≤ 140737488355328 := by
      intro c hc
      rw [← HNW.out] at hc
      unfold withL at hc
      simp only [List.mem_append, List.mem_singleton] at hc
      rcases hc with (hc | rfl) | hc
      · exact HWF.out c (List.mem_of_mem_take hc)
      · exact ⟨⟨HK.out.wf, HV.out.wf⟩, by have := HK.out.hroom; have := HK.out.hlen; simp only; omega, by have := HV.out.hroom; have := HV.out.hlen; simp only; omega⟩
      · exact HWF.out c (List.mem_of_mem_drop hc)
    have hnl : nw.length = i + 1 + (sn - j) := by rw [← HNW.out, withL_len (by have := HIG.out; have := HJ.out; omega) HIG.out, hsn]
    have hnb : nw.length ≤ 100001 := by have := HIG.out; have := HJ.out; omega
    have hnew : ∀ z, v2.ownBlock = some z → w.heap.size ≤ z := fun z hz => by
      obtain ⟨us, h1, _⟩ := HO2.out
      have := (World.ownsRow.lt h1 z hz).1
      omega
    obtain ⟨lo, lc, rfl, hsl2⟩ := (hod.own (Nat.le_refl _)).slc hwn (by omega)
    obtain ⟨L, hL⟩ : ∃ L, nw.length = L := ⟨_, rfl⟩
    rw [hL] at hod hsl2 hnl hnb hnew ⊢
    have hLb : (L : Int) ≤ 200000 := by omega
    have hL1 : 1 ≤ L := by omega
    have HOD := hidden hod
    have HNB : Hid (∀ z, (Value.slice lo L lc).ownBlock = some z → w.heap.size ≤ z) := hidden hnew
    have HSL := hidden hsl2
    have HLL := hidden hL
    clear hod hwn hnl hnb hsl2 hnew HWI HO2 hL q0 q1 q2 q3 q4 hsx hsu hsg hsl hwr HK HV
    go_wp2_with fail
    go_loopw [10] (fun iv wr => ∃ t : Nat, 1 ≤ t ∧ t ≤ L ∧ iv = .int .i64 t ∧ Hid (∀ z, z + 1 < t → kl (kyL nw z) (kyL nw (z + 1))) ∧ Hid (Below u2.heap.size u2 wr)) (fun iv _ => L - (RowKit.intOf iv).toNat)
    case atStart => exact ⟨1, by omega, by omega, rfl, hidden (fun z hz => by omega), hidden (Below.refl _ _)⟩
    case round =>
      obtain ⟨t, ht1, htL, rfl, HC, HBW⟩ := hrel
      have bt : (t : Int) ≤ 200000 := by omega
      by_cases hlt : t < L
      · have hltI : (t : Int) < (L : Int) := by omega
        obtain ⟨m, hm⟩ : ∃ m, t = m + 1 := ⟨t - 1, by omega⟩
        obtain ⟨b, off, c, ka1, kc1, va1, vc1, rfl, hb, hci, c0, c1, c2, c3, c4, hkS, hvS⟩ := (HSL.out.on HBW.out).item t hlt
        obtain ⟨b', off', c', ka', kc', va', vc', hbo, hb', hci', e0, e1, e2, e3, e4, hk', hv'⟩ := (HSL.out.on HBW.out).item m (by omega)
        injection hbo with hbo
        injection hbo with hb1 hb2
        subst hb1 hb2
        have k3 : ∀ z, (convert 38 9 (.slice ka' c'.key.length kc')).run Tryz.prog (wr.drewN z) = .ok (.string (strOfNums c'.key)) (wr.drewN z) := fun z => conv_sl (hk'.drewN z)
        have k4 : ∀ z, (convert 38 9 (.slice ka1 c.key.length kc1)).run Tryz.prog (wr.drewN z) = .ok (.string (strOfNums c.key)) (wr.drewN z) := fun z => conv_sl (hkS.drewN z)
        have HLS := hidden (str_less hk'.wf hkS.wf)
        have HKY : Hid (kyL nw m = c'.key ∧ kyL nw (m + 1) = c.key) := hidden ⟨kyL_at hci', kyL_at (hm ▸ hci)⟩
        have i1 : (m : Int) < (L : Int) := by omega
        have i2 : m < L := by omega
        have i3 : (m : Int) ≤ 900000 := by omega
        have i4 : IntKind.i64.wrap ((t : Int) - 1) = (m : Int) := by rw [IntKind.wrap_i64]; omega
        have i7 : (t : Int) - 1 = (m : Int) := by omega
        have HM := hidden hm
        clear hkS hvS hk' hv' hci' hci e1 e2 e3 e4 c1 c2 c3 c4 hb' hm
        cases hkl : decide (kl c'.key c.key) with
        | true =>
          have HNX : Hid (∀ z, z + 1 < t + 1 → kl (kyL nw z) (kyL nw (z + 1))) := hidden (fun z hz => by
            by_cases hzt : z + 1 < t
            · exact HC.out z hzt
            · have hmz : z = m := by have := HM.out; omega
              rw [hmz, HKY.out.1, HKY.out.2]
              simpa using hkl)
          have hls : Op.bytesLess (strOfNums c'.key).toList (strOfNums c.key).toList = true := by rw [HLS.out]; exact hkl
          go_wp2_with fail
          go_quiet (fail)
          go_wp2
          go_roundw
          case rel => exact ⟨t + 1, by omega, by omega, by go_num, HNX, hidden (bl_dr HBW.out _)⟩
          case measure => simp [RowKit.intOf]; omega
        | false =>
          have hnr : ¬ risL nw := fun h => by
            have := h m (by rw [HLL.out, ← HM.out]; exact hlt)
            rw [HKY.out.1, HKY.out.2] at this
            simp [this] at hkl
          have hE2 : E = 63 := by rw [← HE.out]; exact putE_ord HRI.out (by have := HJ.out; omega) HIG.out HMP.out (by rw [HNW.out]; exact hnr)
          have hls : Op.bytesLess (strOfNums c'.key).toList (strOfNums c.key).toList = false := by rw [HLS.out]; exact hkl
          subst hE2
          go_wp2_with fail
          go_quiet (fail)
          go_wp2
          go_ret
          exact DpTo.same HP.out (bl_go HBX.out (Nat.le_refl _) (bl_go HB2.out (Nat.le_refl _) (bl_dr HBW.out _))) (by decide)
      · have htE : t = L := by omega
        have hris2 : risL nw := fun z hz => HC.out z (by rw [htE, ← HLL.out]; exact hz)
        have HE3 : Hid (E = if n < szN nw then 61 else 0) := hidden (by rw [← HE.out, putE_fit HRI.out (by have := HJ.out; omega) HIG.out HMP.out (by rw [HNW.out]; exact hris2), HNW.out])
        have hzn : szN nw ≤ 1099511627776 := by rw [← HNW.out]; exact HZ.out HMP.out
        have HBX2 : Hid (Below w.heap.size w u2) := hidden (bl_go HBX.out (Nat.le_refl _) HB2.out)
        have HZS : Hid (∀ u, Below u2.heap.size u2 u → Calls Tryz.prog 35 #[.int .i64 k, .slice lo L lc] u fun e u' => e = .returned (.int .i64 (szN nw : Int)) ∧ Hid (Below u2.heap.size u2 u') ∧ (u'.cell? ⟨r, 0, none⟩ = some (.int .i64 k) ∧ u'.cell? ⟨r, 1, none⟩ = some (.int .i64 (n : Int)) ∧ u'.cell? ⟨r, 2, none⟩ = some (.slice so sn sc))) := by
          refine hidden fun u hu => (rsize6_any k lo L lc nw u (HSL.out.on hu) hzn).mono ?_
          rintro e u' ⟨rfl, h2⟩
          have hb2 := bl_go hu (Nat.le_refl _) h2.out
          exact ⟨rfl, hidden hb2, (HP.out.row.on (bl_go HBX2.out (Nat.le_refl _) hb2)).cells⟩
        obtain ⟨Z, hZ⟩ : ∃ Z : Nat, szN nw = Z := ⟨_, rfl⟩
        rw [hZ] at HZS HE3 hzn
        obtain ⟨p0, p1, p2⟩ := (HP.out.row.on (bl_go HBX2.out (Nat.le_refl _) HBW.out)).cells
        have hZb : (Z : Int) ≤ 1099511627776 := by omega
        clear hris2 hZ hzn HC htE
        go_upto_region 11 with fail
        go_cut [70] (fun v u => v = .bool (decide (n < Z)) ∧ Hid (Below u2.heap.size u2 u))
        case first =>
          go_wp2_with fail
          go_region_law (first
            | (go_simp; go_at_call 35; refine (HZS.out _ (by first | exact HBW.out | exact HBW.out.drew | exact bl_dr HBW.out _)).mono ?_; rintro e u3 ⟨rfl, HU3, r0, r1, r2⟩))
          all_goals (try go_wp2_with fail)
          all_goals go_meet
          all_goals exact ⟨by first | rfl | congr 1 | (congr 1; simp), HU3⟩
        obtain ⟨rfl, HU3⟩ := hcut
        obtain ⟨u3, hu3⟩ : ∃ u3, u3 = wc := ⟨_, rfl⟩
        subst hu3
        have HW3 : Hid (Below w.heap.size w u3) := hidden (bl_go HBX2.out (Nat.le_refl _) HU3.out)
        clear p0 p1 p2 HZS
        by_cases hfit : n < Z
        · have hE2 : E = 61 := by rw [HE3.out, if_pos hfit]
          subst hE2
          have hfb : decide (n < Z) = true := by simpa using hfit
          rw [hfb]
          go_wp2
          go_ret
          exact DpTo.same HP.out HW3.out (by decide)
        · have hE2 : E = 0 := by rw [HE3.out, if_neg hfit]
          subst hE2
          have hfb : decide (n < Z) = false := by simpa using hfit
          rw [hfb]
          have hdr := HP.out.row.on HW3.out
          obtain ⟨p0, p1, p2⟩ := hdr.cells
          have f2 := hdr.free 2
          have HDR := hidden hdr
          have HFIN : Hid (DpTo w B K r k n (.slice so sn sc) cs nw 0 (.returned (.int .i64 0)) (u3.setCell ⟨r, 2, none⟩ (.slice lo L lc))) := by
            have hc := Cf.set u3 r 2 (.slice lo L lc)
            exact hidden ⟨rfl, hidden ⟨.slice lo L lc, by rw [if_pos rfl]; exact ⟨hdr.set2 _, (HOD.out.on HU3.out).cf hdr hc⟩, .inr HNB.out⟩, hidden ((Cf.of_below HW3.out).go hc)⟩
          clear hdr
          go_wp2
          go_ret
          exact HFIN.out
end Go.Proofs.YtphjnahmbdinmaaGreatDoor

/- Layer 6: the document's Insert and Set. -/

namespace Go.Proofs.YtphjnahmbdinmaaGreatDoor
open Go.RowKit

set_option maxRecDepth 100000 in
set_option maxHeartbeats 4000000 in
theorem rput_out (w : World) (r : Nat) (k : Int) (n : Nat) (so : Option Addr) (sn sc : Nat) (x gone : Int) (ka : Option Addr) (kn kc : Nat) (kd : Int) (va : Option Addr) (vn vc : Nat) (pg ct : Int) (hd : DR w r k n (.slice so sn sc)) (hsn : sn ≤ 100000) (hg0 : 0 ≤ gone) (hg : gone ≤ 1) (hx : x < 0 ∨ (sn : Int) - gone < x) :
    Calls Tryz.prog 78 #[.pointer (some ⟨r, 0, none⟩), .int .i64 x, .int .i64 gone, .agg #[.slice ka kn kc, .int .i64 kd, .slice va vn vc, .int .i64 pg, .int .i64 ct]] w fun e w' => e = .returned (.int .i64 64) ∧ Hid (Below w.heap.size w w') := by
  obtain ⟨y, hy⟩ : ∃ y, w.alloc (.cells #[.slice ka kn kc, .int .i64 kd, .slice va vn vc, .int .i64 pg, .int .i64 ct] 40) = y := ⟨_, rfl⟩
  have hby : Below w.heap.size w y := by rw [← hy]; exact bl_al (Below.refl _ _) (Nat.le_refl _) _
  have HBY := hidden hby
  obtain ⟨p0, p1, p2⟩ := (hd.on hby).cells
  have hsb : (sn : Int) ≤ 100000 := by omega
  have hwr : IntKind.i64.wrap ((sn : Int) - gone) = (sn : Int) - gone := by rw [IntKind.wrap_i64]; omega
  clear hd hby
  by_cases hx0 : x < 0
  · have hxb : decide (x < 0) = true := by simpa using hx0
    go_enter Tryz.func78, Tryz.ntmps78
    go_wp2_with fail
    go_ret
    exact ⟨rfl, HBY⟩
  · have hxb : decide (x < 0) = false := by simpa using hx0
    have hx1 : (sn : Int) - gone < x := by omega
    have hx2 : decide ((sn : Int) - gone < x) = true := by simpa using hx1
    clear hx
    go_enter Tryz.func78, Tryz.ntmps78
    go_wp2_with fail
    go_ret
    exact ⟨rfl, HBY⟩
/-- What the walks of Insert and Set ask of the page. -/
structure DpOk (k : Int) (n : Nat) (cs : List Cl) : Prop where
  n0 : 512 ≤ n
  n1 : n ≤ 65536
  len : cs.length ≤ 100000
  ris : risL cs
  wf : ∀ c ∈ cs, c.Wf ∧ c.key.length ≤ 140737488355328 ∧ c.val.length ≤ 140737488355328
set_option maxRecDepth 100000 in
theorem DpTo.wide {w x w' : World} {B : Nat} {K : Nat → Prop} {r : Nat} {k : Int} {n : Nat} {vl : Value} {cs new : List Cl} {R : Int} {e : Ending} (hb : Below w.heap.size w x) (h : DpTo x B K r k n vl cs new R e w') : DpTo w B K r k n vl cs new R e w' :=
  ⟨h.1, hidden (h.2.1.out.imp fun _ g => ⟨g.1, g.2.imp id fun g2 z hz => Nat.le_trans hb.size (g2 z hz)⟩), hidden ((Cf.of_below hb).go h.2.2.out)⟩
set_option maxRecDepth 100000 in
set_option maxHeartbeats 4000000 in
theorem rinsert_any (w : World) (B : Nat) (K : Nat → Prop) (r : Nat) (k : Int) (n : Nat) (vl : Value) (cs : List Cl) (x : Int) (ka : Option Addr) (kn kc : Nat) (kd : Int) (va : Option Addr) (vn vc : Nat) (pg ct : Int) (key val : List Int) (hp : Dp w B K r k n vl cs) (ho : DpOk k n cs) (hzl : mayP k n ⟨key, kd, val, pg, ct⟩ → ∀ i j, szN (withL cs i j ⟨key, kd, val, pg, ct⟩) ≤ 1099511627776) (hk : Sl w ka kn kc key) (hv : Sl w va vn vc val) (hB : B ≤ w.heap.size) (hK : ∀ z, w.heap.size ≤ z → K z) :
    Calls Tryz.prog 56 #[.pointer (some ⟨r, 0, none⟩), .int .i64 x, .agg #[.slice ka kn kc, .int .i64 kd, .slice va vn vc, .int .i64 pg, .int .i64 ct]] w (DpTo w B K r k n vl cs (cs.take x.toNat ++ [⟨key, kd, val, pg, ct⟩] ++ cs.drop x.toNat) (insE k n cs x ⟨key, kd, val, pg, ct⟩)) := by
  obtain ⟨s, hs⟩ : ∃ s, w.heap.size = s := ⟨_, rfl⟩
  obtain ⟨y, hy⟩ : ∃ y, w.alloc (.cells #[.slice ka kn kc, .int .i64 kd, .slice va vn vc, .int .i64 pg, .int .i64 ct] 40) = y := ⟨_, rfl⟩
  have hby : Below w.heap.size w y := by rw [← hy]; exact bl_al (Below.refl _ _) (Nat.le_refl _) _
  have HBOX : Hid (C5 y s (.slice ka kn kc) (.int .i64 kd) (.slice va vn vc) (.int .i64 pg) (.int .i64 ct)) := by rw [← hy, ← hs]; exact hidden (C5.box _ _ _ _ _ _)
  have hpy := hp.on hby
  have HBY := hidden hby
  have HP : Hid (Calls Tryz.prog 78 #[.pointer (some ⟨r, 0, none⟩), .int .i64 x, .int .i64 0, .agg #[.slice ka kn kc, .int .i64 kd, .slice va vn vc, .int .i64 pg, .int .i64 ct]] y (DpTo w B K r k n vl cs (cs.take x.toNat ++ [⟨key, kd, val, pg, ct⟩] ++ cs.drop x.toNat) (insE k n cs x ⟨key, kd, val, pg, ct⟩))) := by
    refine hidden ?_
    unfold insE
    by_cases hx : 0 ≤ x ∧ x ≤ (cs.length : Int)
    · rw [if_pos hx]
      obtain ⟨i, rfl⟩ : ∃ i : Nat, x = (i : Int) := ⟨x.toNat, by omega⟩
      rw [Int.toNat_natCast]
      exact (rput_any y B K r k n vl cs i 0 i ka kn kc kd va vn vc pg ct key val hpy ho.n0 ho.n1 (by omega) (by omega) ho.len ho.ris ho.wf (fun h => hzl h _ _) (hk.on (Nat.le_refl _) hby) (hv.on (Nat.le_refl _) hby) (Nat.le_trans hB hby.size) (fun z hz => hK z (Nat.le_trans hby.size hz))).mono (fun e w' h => h.wide hby)
    · rw [if_neg hx]
      obtain ⟨so, sc, rfl⟩ : ∃ so sc, vl = .slice so cs.length sc := by
        rcases hpy.own.shape with ⟨rfl, rfl⟩ | ⟨g, c, rfl, _⟩
        · exact ⟨none, 0, rfl⟩
        · exact ⟨_, c, rfl⟩
      refine (rput_out y r k n so cs.length sc x 0 ka kn kc kd va vn vc pg ct hpy.row ho.len (by omega) (by omega) (by omega)).mono ?_
      rintro e w' ⟨rfl, h⟩
      exact DpTo.same hp (bl_go hby (Nat.le_refl _) h.out) (by decide)
  obtain ⟨q0, q1, q2, q3, q4⟩ := HBOX.out.cells
  generalize insE k n cs x ⟨key, kd, val, pg, ct⟩ = R at *
  generalize cs.take x.toNat ++ [⟨key, kd, val, pg, ct⟩] ++ cs.drop x.toNat = nw at *
  clear hp ho hzl hk hv hby hpy hB hK
  go_enter Tryz.func56, Tryz.ntmps56
  go_wp2_with (first | (go_at_call 78; refine HP.out.mono ?_; rintro e u ⟨rfl, H1, H2⟩))
  go_ret
  exact ⟨rfl, H1, H2⟩
set_option maxRecDepth 100000 in
set_option maxHeartbeats 4000000 in
theorem rset_any (w : World) (B : Nat) (K : Nat → Prop) (r : Nat) (k : Int) (n : Nat) (vl : Value) (cs : List Cl) (x : Int) (ka : Option Addr) (kn kc : Nat) (kd : Int) (va : Option Addr) (vn vc : Nat) (pg ct : Int) (key val : List Int) (hp : Dp w B K r k n vl cs) (ho : DpOk k n cs) (hzl : mayP k n ⟨key, kd, val, pg, ct⟩ → ∀ i j, szN (withL cs i j ⟨key, kd, val, pg, ct⟩) ≤ 1099511627776) (hk : Sl w ka kn kc key) (hv : Sl w va vn vc val) (hB : B ≤ w.heap.size) (hK : ∀ z, w.heap.size ≤ z → K z) :
    Calls Tryz.prog 55 #[.pointer (some ⟨r, 0, none⟩), .int .i64 x, .agg #[.slice ka kn kc, .int .i64 kd, .slice va vn vc, .int .i64 pg, .int .i64 ct]] w (DpTo w B K r k n vl cs (cs.take x.toNat ++ [⟨key, kd, val, pg, ct⟩] ++ cs.drop (x.toNat + 1)) (setE k n cs x ⟨key, kd, val, pg, ct⟩)) := by
  obtain ⟨s, hs⟩ : ∃ s, w.heap.size = s := ⟨_, rfl⟩
  obtain ⟨y, hy⟩ : ∃ y, w.alloc (.cells #[.slice ka kn kc, .int .i64 kd, .slice va vn vc, .int .i64 pg, .int .i64 ct] 40) = y := ⟨_, rfl⟩
  have hby : Below w.heap.size w y := by rw [← hy]; exact bl_al (Below.refl _ _) (Nat.le_refl _) _
  have HBOX : Hid (C5 y s (.slice ka kn kc) (.int .i64 kd) (.slice va vn vc) (.int .i64 pg) (.int .i64 ct)) := by rw [← hy, ← hs]; exact hidden (C5.box _ _ _ _ _ _)
  have hpy := hp.on hby
  have HBY := hidden hby
  have HP : Hid (Calls Tryz.prog 78 #[.pointer (some ⟨r, 0, none⟩), .int .i64 x, .int .i64 1, .agg #[.slice ka kn kc, .int .i64 kd, .slice va vn vc, .int .i64 pg, .int .i64 ct]] y (DpTo w B K r k n vl cs (cs.take x.toNat ++ [⟨key, kd, val, pg, ct⟩] ++ cs.drop (x.toNat + 1)) (setE k n cs x ⟨key, kd, val, pg, ct⟩))) := by
    refine hidden ?_
    unfold setE
    by_cases hx : 0 ≤ x ∧ x < (cs.length : Int)
    · rw [if_pos hx]
      obtain ⟨i, rfl⟩ : ∃ i : Nat, x = (i : Int) := ⟨x.toNat, by omega⟩
      rw [Int.toNat_natCast]
      exact (rput_any y B K r k n vl cs i 1 (i + 1) ka kn kc kd va vn vc pg ct key val hpy ho.n0 ho.n1 (by omega) (by omega) ho.len ho.ris ho.wf (fun h => hzl h _ _) (hk.on (Nat.le_refl _) hby) (hv.on (Nat.le_refl _) hby) (Nat.le_trans hB hby.size) (fun z hz => hK z (Nat.le_trans hby.size hz))).mono (fun e w' h => h.wide hby)
    · rw [if_neg hx]
      obtain ⟨so, sc, rfl⟩ : ∃ so sc, vl = .slice so cs.length sc := by
        rcases hpy.own.shape with ⟨rfl, rfl⟩ | ⟨g, c, rfl, _⟩
        · exact ⟨none, 0, rfl⟩
        · exact ⟨_, c, rfl⟩
      refine (rput_out y r k n so cs.length sc x 1 ka kn kc kd va vn vc pg ct hpy.row ho.len (by omega) (by omega) (by omega)).mono ?_
      rintro e w' ⟨rfl, h⟩
      exact DpTo.same hp (bl_go hby (Nat.le_refl _) h.out) (by decide)
  obtain ⟨q0, q1, q2, q3, q4⟩ := HBOX.out.cells
  generalize setE k n cs x ⟨key, kd, val, pg, ct⟩ = R at *
  generalize cs.take x.toNat ++ [⟨key, kd, val, pg, ct⟩] ++ cs.drop (x.toNat + 1) = nw at *
  clear hp ho hzl hk hv hby hpy hB hK
  go_enter Tryz.func55, Tryz.ntmps55
  go_wp2_with (first | (go_at_call 78; refine HP.out.mono ?_; rintro e u ⟨rfl, H1, H2⟩))
  go_ret
  exact ⟨rfl, H1, H2⟩
end Go.Proofs.YtphjnahmbdinmaaGreatDoor
