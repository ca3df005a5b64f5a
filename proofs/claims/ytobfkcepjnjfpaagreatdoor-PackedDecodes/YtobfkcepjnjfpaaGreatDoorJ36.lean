/- Layer 7: the document's read, walked (written by mkread7.py). -/
import Derived.Test.YtobfkcepjnjfpaaGreatDoorJ35
import Derived.Test.YtobfkcepjnjfpaaGreatDoorJ18
namespace Go.Proofs.YtobfkcepjnjfpaaGreatDoor
open Go.RowKit

set_option maxRecDepth 100000 in
theorem results_row27 {P : Program} {fn : Func} {p u : Tmp} {ty : TypeId} (h : fn.results = #[.cell p ty, .tmp u]) (tmps : Array Value) (w : World) (g : Nat) (t : TypeId) (cs : Array Value) (fr : Nat × Nat) (d : TypeDesc) (v : Value)
    (hp : tmps.getD p undef = .pointer (some ⟨g, 0, none⟩)) (hv : tmps.getD u undef = v) (hg : w.heap[g]? = some (.cells cs t fr))
    (hu : P.underlying ty = some d) (hd : (match d with | .struct _ | .array _ _ => true | _ => false) = true) (hi : (P.info? ty).map (·.size) = some cs.size) :
    (results fn tmps).run P w = .ok (.tuple #[.agg cs, v]) w := by
  subst hv
  rw [results_cell_tmp h, hp]
  simp [asAddr, run_loadVar_row w g t ty cs fr d hg hu hd hi, Result.andThen]
set_option maxRecDepth 100000 in
theorem two_box7 (w : World) (y0 y1 y2 y3 y4 : Value) :
    C5 ((w.alloc (.cells #[.slice none 0 0, .int .i64 0, .slice none 0 0, .int .i64 0, .int .i64 0] 37)).alloc (.cells #[y0, y1, y2, y3, y4] 37)) w.heap.size (.slice none 0 0) (.int .i64 0) (.slice none 0 0) (.int .i64 0) (.int .i64 0) ∧ C5 ((w.alloc (.cells #[.slice none 0 0, .int .i64 0, .slice none 0 0, .int .i64 0, .int .i64 0] 37)).alloc (.cells #[y0, y1, y2, y3, y4] 37)) (w.heap.size + 1) y0 y1 y2 y3 y4 ∧ Below w.heap.size w ((w.alloc (.cells #[.slice none 0 0, .int .i64 0, .slice none 0 0, .int .i64 0, .int .i64 0] 37)).alloc (.cells #[y0, y1, y2, y3, y4] 37)) := by
  obtain ⟨y, hy⟩ : ∃ y, w.alloc (.cells #[.slice none 0 0, .int .i64 0, .slice none 0 0, .int .i64 0, .int .i64 0] 37) = y := ⟨_, rfl⟩
  have hz : y.heap.size = w.heap.size + 1 := by rw [← hy]; simp
  have h1 : C5 y w.heap.size (.slice none 0 0) (.int .i64 0) (.slice none 0 0) (.int .i64 0) (.int .i64 0) := by rw [← hy]; exact C5.box w _ _ _ _ _
  have hby : Below w.heap.size w y := by rw [← hy]; exact bl_al (Below.refl _ _) (Nat.le_refl _) _
  rw [hy]
  have h2 := C5.box y y0 y1 y2 y3 y4
  rw [hz] at h2
  have hbz : Below y.heap.size y (y.alloc (.cells #[y0, y1, y2, y3, y4] 37)) := bl_al (Below.refl _ _) (Nat.le_refl _) _
  exact ⟨box_on h1 hbz, h2, bl_go hby (Nat.le_refl _) hbz⟩
set_option maxRecDepth 100000 in
theorem own_shape7 {w : World} {B : Nat} {u : Value} {l : List Int} (h : OwnB w B u l) : ∃ ao c, u = .slice ao l.length c := by
  unfold OwnB at h
  rcases h.2 with ⟨rfl, h0⟩ | ⟨g, c, cur, rfl, _⟩
  · exact ⟨none, 0, by rw [h0]⟩
  · exact ⟨_, c, rfl⟩
set_option maxRecDepth 100000 in
theorem C5.gr7 {w w' : World} {v v' : Value} {g : Nat} {x0 x1 x2 x3 x4 : Value} (h : C5 w g x0 x1 x2 x3 x4) (hg : Gr w v w' v') (hv : v.ownBlock ≠ some g) : C5 w' g x0 x1 x2 x3 x4 := (hg.grow.block g (lt_some h) (fun e => hv e.symm)).trans h
set_option maxRecDepth 100000 in
theorem OwnB.c5 {w w' : World} {B k : Nat} {v x0 x1 x2 x3 x4 : Value} {l : List Int} (h : OwnB w B v l) (hc : Cf (· = k) w w') (h5 : C5 w k x0 x1 x2 x3 x4) : OwnB w' B v l := h.same fun z hz => by
  have := (World.ownsRow.lt h z hz).2
  exact hc.block z this fun e => h.apart5 h5 (by rw [hz]; exact congrArg some e)
/-- What of the prefix stands ahead of the key. -/
def pre7 (k : Int) (i : Nat) (P : List Int) : List Int := if k = 3 ∧ i = 0 then [] else P
/-- What read comes to. -/
def RdTo (l : List Int) (at_ : Nat) (k : Int) (i : Nat) (P : List Int) (w : World) (e : Ending) (w' : World) : Prop :=
  ∃ ao kn a2 kd bo vn b2 pg ct tz, e = .returned (.tuple #[.agg #[.slice ao kn a2, .int .i64 kd, .slice bo vn b2, .int .i64 pg, .int .i64 ct], .int .i64 tz]) ∧ Hid (Below w.heap.size w w') ∧
    Hid ((tz = 0 ∧ No7 l at_) ∨ ∃ (t : Nat) (c : Cl), tz = (t : Int) ∧ Is7 l at_ t c ∧ kn = (pre7 k i P ++ c.key).length ∧ vn = c.val.length ∧ kd = c.kd ∧ pg = c.pg ∧ ct = c.ct ∧ OwnB w' w.heap.size (.slice ao kn a2) (pre7 k i P ++ c.key) ∧ OwnB w' w.heap.size (.slice bo vn b2) c.val)
set_option maxRecDepth 100000 in
theorem RdTo.no {l : List Int} {at_ : Nat} {k : Int} {i : Nat} {P : List Int} {w w' : World} (hb : Below w.heap.size w w') (hno : No7 l at_) : RdTo l at_ k i P w (.returned (.tuple #[.agg #[.slice none 0 0, .int .i64 0, .slice none 0 0, .int .i64 0, .int .i64 0], .int .i64 0])) w' := ⟨none, 0, 0, 0, none, 0, 0, 0, 0, 0, rfl, hidden hb, hidden (.inl ⟨rfl, hno⟩)⟩
/-- The document's read while it goes on: both boxes, the key so far. -/
def Md7 (w u : World) (kk : Nat) (v : Value) (x : Int) (K : List Int) : Prop := C5 u kk (.slice none 0 0) (.int .i64 0) (.slice none 0 0) (.int .i64 0) (.int .i64 0) ∧ C5 u (kk + 1) v (.int .i64 x) (.slice none 0 0) (.int .i64 0) (.int .i64 0) ∧ OwnB u kk v K ∧ Below kk w u ∧ kk ≤ u.heap.size
set_option maxRecDepth 100000 in
theorem Md7.key {w u u1 : World} {kk : Nat} {v v1 : Value} {x : Int} {K K1 : List Int} (h : Md7 w u kk v x K) (ho : OwnB u1 kk v1 K1) (hg : Gr u v u1 v1) : Md7 w (u1.setCell ⟨kk + 1, 0, none⟩ v1) kk v1 x K1 := by
  obtain ⟨a1, a2, a3, a4, a5⟩ := h
  have b1 := a1.gr7 hg (a3.apart5 a1)
  have b2 := a2.gr7 hg (a3.apart5 a2)
  have hc := Cf.set u1 (kk + 1) 0 v1
  have hs := hg.grow.size
  refine ⟨b1.cf hc (by omega), (b2.set v1).1, ho.c5 hc b2, (a4.trans (hg.below a3 a5)).trans (hc.below (by omega) (fun j hj e => by omega)), Nat.le_trans (Nat.le_trans a5 hs) hc.size⟩
set_option maxRecDepth 100000 in
set_option maxHeartbeats 4000000 in
theorem rread_key (g off n cap : Nat) (l : List Int) (at_ : Nat) (k : Int) (i : Nat) (po : Option Addr) (pn pc : Nat) (P : List Int) (w : World) (hs : Sl w (some ⟨g, off, none⟩) n cap l) (hn : n ≤ 65536) (hP : Sl w po pn pc P) (_hpn : pn ≤ 65536) (_hi : i ≤ 65536) (ha : at_ < n) (he : (rUx l ((at_ + 1 : Nat) : Int)).2.2 ≠ 0) :
    Calls Tryz.prog 26 #[.slice (some ⟨g, off, none⟩) n cap, .int .i64 (at_ : Int), .int .i64 k, .int .i64 (i : Int), .slice po pn pc] w (RdTo l at_ k i P w) := by
  have HS := hidden hs
  have HP := hidden hP
  have hlen := hs.hlen
  have hcap := hs.hcap
  have hnI : (n : Int) ≤ 65536 := by omega
  obtain ⟨kk, hkk⟩ : ∃ kk, w.heap.size = kk := ⟨_, rfl⟩
  have hgl : g < kk := by
    rcases hs.hat with h0 | ⟨b, o, e, hb, _⟩
    · omega
    · cases e; omega
  have HGL := hidden hgl
  have hlt : at_ < l.length := by omega
  obtain ⟨x, hx⟩ : ∃ x, l.getD at_ 0 = x := ⟨_, rfl⟩
  have hby := hs.wf.getD at_
  rw [hx] at hby
  obtain ⟨hx0, hx1⟩ := hby
  have b0 : (w.alloc (.cells #[.slice none 0 0, .int .i64 0, .slice none 0 0, .int .i64 0, .int .i64 0] 37)).cell? ⟨g, off + at_, none⟩ = some (.int .u8 x) := by
    rcases hs.hat with h0 | ⟨b, o, e, hb, hc⟩
    · omega
    · cases e
      rw [← hx]
      exact ((bl_al (Below.refl w.heap.size w) (Nat.le_refl _) _).cell (p := ⟨g, off + at_, none⟩) hb).trans (hc at_ (by omega))
  have TB := two_box7 w (.slice none 0 0) (.int .i64 x) (.slice none 0 0) (.int .i64 0) (.int .i64 0)
  rw [hkk] at TB
  obtain ⟨y2, hy2⟩ : ∃ y2, (w.alloc (.cells #[.slice none 0 0, .int .i64 0, .slice none 0 0, .int .i64 0, .int .i64 0] 37)).alloc (.cells #[.slice none 0 0, .int .i64 x, .slice none 0 0, .int .i64 0, .int .i64 0] 37) = y2 := ⟨_, rfl⟩
  rw [hy2] at TB
  have HM0 : Hid (Md7 w y2 kk (.slice none 0 0) x []) := hidden ⟨TB.1, TB.2.1, OwnB.nil _ _, TB.2.2, by have := lt_some TB.1; omega⟩
  have haI : ¬ (n : Int) ≤ (at_ : Int) := by omega
  have haJ : (at_ : Int) < (n : Int) := by omega
  have h0 : ¬ (at_ : Int) < 0 := by omega
  have HSU : Hid (∀ u, Below kk w u → Sl u (some ⟨g, off, none⟩) n cap l) := hidden fun u hu => HS.out.on (by rw [hkk]; exact Nat.le_refl _) hu
  have HPU : Hid (∀ u, Below kk w u → Sl u po pn pc P) := hidden fun u hu => HP.out.on (by rw [hkk]; exact Nat.le_refl _) hu
  have HRU : Hid (∀ (p : Int) u, Below kk w u → Calls Tryz.prog 51 #[.slice (some ⟨g, off, none⟩) n cap, .int .i64 p] u fun e w' => e = .returned (.tuple #[.int .u64 (rUx l p).1, .int .i64 (rUx l p).2.1, .int .i64 (rUx l p).2.2]) ∧ w' = u) := hidden fun p u hu => refReadUint_all _ n cap l p u (HSU.out u hu)
  have HY2 : Hid (Below kk w y2) := hidden TB.2.2
  clear TB
  have HNO := hidden (no_key hlt he)
  obtain ⟨⟨r1, r2, r3⟩, hr⟩ : ∃ r, rUx l ((at_ + 1 : Nat) : Int) = r := ⟨_, rfl⟩
  have H1 := hidden ((HRU.out ((at_ + 1 : Nat) : Int) y2 HY2.out).mono fun e w' h => (And.intro h.1 (hidden h.2) : _ ∧ Hid (w' = y2)))
  rw [hr] at H1 he
  simp only at H1 he
  obtain ⟨s1, hs1⟩ : ∃ s1, at_ + 1 = s1 := ⟨_, rfl⟩
  have hsI : (at_ : Int) + 1 = (s1 : Int) := by omega
  rw [hs1] at H1
  clear hs hP hlen hcap hx hr hgl hlt hs1
  subst hy2
  go_enter Tryz.func26, Tryz.ntmps26
  go_wp2_with (first | (go_at_call 51; refine H1.out.mono ?_; rintro e w1 ⟨rfl, hw1⟩; refine Hid.out ?_))
  apply hidden
  have HM : Hid (Md7 w w1 kk (.slice none 0 0) x []) := hidden (by rw [hw1.out]; exact HM0.out)
  obtain ⟨c0, c1, c2, c3, c4⟩ := HM.out.1.cells
  obtain ⟨f0, f1, f2, f3, f4⟩ := HM.out.1.free
  clear HM0 hw1 H1 b0 HY2
  go_wp2
  refine bodyPost_ret (results_row27 rfl _ _ kk 37 #[.slice none 0 0, .int .i64 0, .slice none 0 0, .int .i64 0, .int .i64 0] (0, 0) _ (.int .i64 0) (by rfl) (by rfl) (HM.out.1.put _ _ _ _ _) Tryz.underlying37 rfl sizeCell) rfl ?_
  have hf := put5_cf w1 kk (.slice none 0 0) (.int .i64 0) (.slice none 0 0) (.int .i64 0) (.int .i64 0)
  refine RdTo.no ?_ HNO.out
  rw [hkk]
  exact HM.out.2.2.2.1.trans (hf.below HM.out.2.2.2.2 (fun j hj e => by omega))
set_option maxRecDepth 100000 in
set_option maxHeartbeats 4000000 in
theorem rread_rest (g off n cap : Nat) (l : List Int) (at_ : Nat) (k : Int) (i : Nat) (po : Option Addr) (pn pc : Nat) (P : List Int) (w : World) (hs : Sl w (some ⟨g, off, none⟩) n cap l) (hn : n ≤ 65536) (hP : Sl w po pn pc P) (_hpn : pn ≤ 65536) (_hi : i ≤ 65536) (ha : at_ < n) (he : (rUx l ((at_ + 1 : Nat) : Int)).2.2 = 0) (v t : Nat) (hvt : rUx l ((at_ + 1 : Nat) : Int) = ((v : Int), (t : Int), 0)) (hno : n < t + v) :
    Calls Tryz.prog 26 #[.slice (some ⟨g, off, none⟩) n cap, .int .i64 (at_ : Int), .int .i64 k, .int .i64 (i : Int), .slice po pn pc] w (RdTo l at_ k i P w) := by
  have HS := hidden hs
  have HP := hidden hP
  have hlen := hs.hlen
  have hcap := hs.hcap
  have hnI : (n : Int) ≤ 65536 := by omega
  obtain ⟨kk, hkk⟩ : ∃ kk, w.heap.size = kk := ⟨_, rfl⟩
  have hgl : g < kk := by
    rcases hs.hat with h0 | ⟨b, o, e, hb, _⟩
    · omega
    · cases e; omega
  have HGL := hidden hgl
  have hlt : at_ < l.length := by omega
  obtain ⟨x, hx⟩ : ∃ x, l.getD at_ 0 = x := ⟨_, rfl⟩
  have hby := hs.wf.getD at_
  rw [hx] at hby
  obtain ⟨hx0, hx1⟩ := hby
  have b0 : (w.alloc (.cells #[.slice none 0 0, .int .i64 0, .slice none 0 0, .int .i64 0, .int .i64 0] 37)).cell? ⟨g, off + at_, none⟩ = some (.int .u8 x) := by
    rcases hs.hat with h0 | ⟨b, o, e, hb, hc⟩
    · omega
    · cases e
      rw [← hx]
      exact ((bl_al (Below.refl w.heap.size w) (Nat.le_refl _) _).cell (p := ⟨g, off + at_, none⟩) hb).trans (hc at_ (by omega))
  have TB := two_box7 w (.slice none 0 0) (.int .i64 x) (.slice none 0 0) (.int .i64 0) (.int .i64 0)
  rw [hkk] at TB
  obtain ⟨y2, hy2⟩ : ∃ y2, (w.alloc (.cells #[.slice none 0 0, .int .i64 0, .slice none 0 0, .int .i64 0, .int .i64 0] 37)).alloc (.cells #[.slice none 0 0, .int .i64 x, .slice none 0 0, .int .i64 0, .int .i64 0] 37) = y2 := ⟨_, rfl⟩
  rw [hy2] at TB
  have HM0 : Hid (Md7 w y2 kk (.slice none 0 0) x []) := hidden ⟨TB.1, TB.2.1, OwnB.nil _ _, TB.2.2, by have := lt_some TB.1; omega⟩
  have haI : ¬ (n : Int) ≤ (at_ : Int) := by omega
  have haJ : (at_ : Int) < (n : Int) := by omega
  have h0 : ¬ (at_ : Int) < 0 := by omega
  have HSU : Hid (∀ u, Below kk w u → Sl u (some ⟨g, off, none⟩) n cap l) := hidden fun u hu => HS.out.on (by rw [hkk]; exact Nat.le_refl _) hu
  have HPU : Hid (∀ u, Below kk w u → Sl u po pn pc P) := hidden fun u hu => HP.out.on (by rw [hkk]; exact Nat.le_refl _) hu
  have HRU : Hid (∀ (p : Int) u, Below kk w u → Calls Tryz.prog 51 #[.slice (some ⟨g, off, none⟩) n cap, .int .i64 p] u fun e w' => e = .returned (.tuple #[.int .u64 (rUx l p).1, .int .i64 (rUx l p).2.1, .int .i64 (rUx l p).2.2]) ∧ w' = u) := hidden fun p u hu => refReadUint_all _ n cap l p u (HSU.out u hu)
  have HY2 : Hid (Below kk w y2) := hidden TB.2.2
  clear TB
  obtain ⟨v1, t1, hr1, hd1, ht1, ht1l, hv1⟩ := ru_ok hs.wf (by omega) he
  have H1 := hidden ((HRU.out ((at_ + 1 : Nat) : Int) y2 HY2.out).mono fun e w' h => (And.intro h.1 (hidden h.2) : _ ∧ Hid (w' = y2)))
  rw [hr1] at H1
  simp only at H1
  obtain ⟨s1, hs1⟩ : ∃ s1, at_ + 1 = s1 := ⟨_, rfl⟩
  have hsI : (at_ : Int) + 1 = (s1 : Int) := by omega
  rw [hs1] at H1
  have t1b : (t1 : Int) ≤ 65536 := by omega
  obtain ⟨rfl, rfl⟩ : v1 = v ∧ t1 = t := by
    rw [hvt] at hr1
    injection hr1 with q1 q2
    injection q2 with q2 _
    omega
  have HNO := hidden (no_rest hlt hv1 hd1 ht1l (by omega))
  have HPN : Hid (∀ u, Calls Tryz.prog 25 #[.slice (some ⟨g, off, none⟩) n cap, .int .i64 (t1 : Int), .int .u64 (v1 : Int)] u fun e w' => e = .returned (.tuple #[.slice none 0 0, .bool false]) ∧ w' = u) := hidden fun u => part_no (some ⟨g, off, none⟩) n cap t1 (v1 : Int) u (by omega) hn (by omega)
  clear hs hP hlen hcap hx hr1 hvt hgl hlt hs1 hd1 ht1 he hno ht1l
  subst hy2
  go_enter Tryz.func26, Tryz.ntmps26
  go_wp2_with (first | (go_at_call 51; refine H1.out.mono ?_; rintro e w1 ⟨rfl, hw1⟩; refine Hid.out ?_))
  apply hidden
  have HM : Hid (Md7 w w1 kk (.slice none 0 0) x []) := hidden (by rw [hw1.out]; exact HM0.out)
  have H2 := hidden (HPN.out w1)
  obtain ⟨c0, c1, c2, c3, c4⟩ := HM.out.1.cells
  obtain ⟨f0, f1, f2, f3, f4⟩ := HM.out.1.free
  clear HM0 hw1 H1 b0 HY2 HPN
  go_wp2_with (first | (go_at_call 25; refine same_call H2.out ?_))
  refine bodyPost_ret (results_row27 rfl _ _ kk 37 #[.slice none 0 0, .int .i64 0, .slice none 0 0, .int .i64 0, .int .i64 0] (0, 0) _ (.int .i64 0) (by rfl) (by rfl) (HM.out.1.put _ _ _ _ _) Tryz.underlying37 rfl sizeCell) rfl ?_
  have hf := put5_cf w1 kk (.slice none 0 0) (.int .i64 0) (.slice none 0 0) (.int .i64 0) (.int .i64 0)
  refine RdTo.no ?_ HNO.out
  rw [hkk]
  exact HM.out.2.2.2.1.trans (hf.below HM.out.2.2.2.2 (fun j hj e => by omega))
end Go.Proofs.YtobfkcepjnjfpaaGreatDoor
