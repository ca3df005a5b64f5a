import Derived.Test.YtoejadhlkamcjaaDoorJ36
import Derived.Deep.RegionHeld
import Derived.Deep.Cut
namespace Go.Proofs.YtoejadhlkamcjaaDoor
set_option maxRecDepth 100000
open Go.RowKit Go.Maps
variable {w u y w1 : World} {B x b m b2 m2 P T t : Nat} {rd rd2 rd' : Int} {M N : Int → Option Pf} {ct ct2 : Nat} {K : Nat → Prop} {rb : Nat → Value} {R : Nat → List Value}
def Pp9 (w : World) (B x b m b2 m2 P T t : Nat) : Prop :=
 ∃ rd M N ct K rb R FL its lss, Sq9 w B x b m b2 m2 P T rd rd M N ct ct K rb R ∧ con M = con N ∧ It9 w B K R FL its lss ∧ FL.length ≤ t ∧ its.length ≤ t ∧ lss.length ≤ t ∧ 0 ≤ rd ∧ rd ≤ 200000 * (t : Int)
def Sa9 (x i : Nat) (a : Value) (s : Nat) (n : Int) (u : World) : Prop := u.cell? ⟨x, i, none⟩ = some a ∧ u.cell? ⟨s, 2, none⟩ = some (.int .i64 n)
def Sb9 (x i : Nat) (a : Value) (s : Nat) (n fr to : Int) (u : World) : Prop := u.cell? ⟨x, i, none⟩ = some a ∧ u.cell? ⟨s, 2, none⟩ = some (.int .i64 n) ∧ u.cell? ⟨s, 3, none⟩ = some (.int .i64 fr) ∧ u.cell? ⟨s, 4, none⟩ = some (.int .i64 to)
def Sc9 (x i : Nat) (a : Value) (s : Nat) (v : Value) (u : World) : Prop := u.cell? ⟨x, i, none⟩ = some a ∧ u.cell? ⟨s, 5, none⟩ = some v
theorem thr_bad {M : Int → Option Pf} {pg n all : Int} : ∀ (k : Nat) (a : Int) (ps d : List Int) (r : Int), (thr M pg n all k a ps d r).1 ≠ 0 → (thr M pg n all k a ps d r).2.1 = [] ∧ (thr M pg n all k a ps d r).2.2.1 = []
 | 0, _, _, _, _, h => absurd rfl h
 | k + 1, a, ps, d, r, h => by
  simp only [thr] at h ⊢
  by_cases e1 : a ∈ ps
  ·rw [if_pos e1]
   exact ⟨rfl, rfl⟩
  ·rw [if_neg e1] at h ⊢
   cases e2 : ldM M pg a with
   | inl e => exact ⟨rfl, rfl⟩
   | inr x =>
    rw [e2] at h
    simp only at h ⊢
    by_cases e3 : (x.2.length : Int) ≠ min (pg - 16) (n - d.length) ∨ decide (((ps.length + 1 : Nat) : Int) = all) ≠ decide (x.1 = 0)
    ·rw [if_pos e3]
     exact ⟨rfl, rfl⟩
    ·rw [if_neg e3] at h ⊢
     exact thr_bad k _ _ _ _ h
theorem rdR_len {M : Int → Option Pf} {P first n rd : Int} (hp : pw P) (hw : ∀ k f, M k = some f → Wf f.l) : (rdR M P first n rd).2.2.1.length ≤ 65536 ∧ Wf (rdR M P first n rd).2.2.1 ∧ (rdR M P first n rd).2.1.length ≤ 65536 := by
 by_cases h : (rdR M P first n rd).1 = 0
 ·have h3 := (rdR_ok hp h).2.2
  unfold rdR at h h3 ⊢
  by_cases hn : 1 ≤ n ∧ n ≤ 65536
  ·rw [if_pos hn] at h h3 ⊢
   obtain ⟨_, a2, a3⟩ := thr_to (M := M) (first := first) (rd := rd) hp hw hn.1 (Int.le_refl n) hn.2 h
   exact ⟨a2, a3, h3⟩
  ·rw [if_neg hn] at h
   simp at h
 ·unfold rdR at h ⊢
  by_cases hn : 1 ≤ n ∧ n ≤ 65536
  ·rw [if_pos hn] at h ⊢
   obtain ⟨a1, a2⟩ := thr_bad _ _ _ _ _ h
   rw [a1, a2]
   exact ⟨by simp, Wf.nil, by simp⟩
  ·rw [if_neg hn]
   exact ⟨by simp, Wf.nil, by simp⟩
theorem slR_len {M : Int → Option Pf} {P first n fr to rd : Int} (hp : pw P) (hw : ∀ k f, M k = some f → Wf f.l) : (slR M P first n fr to rd).2.1.length ≤ 65536 ∧ Wf (slR M P first n fr to rd).2.1 := by
 unfold slR
 split
 ·exact ⟨by simp, Wf.nil⟩
 ·rename_i h1
  split
  ·exact ⟨by simp, Wf.nil⟩
  ·rename_i h2
   split
   ·exact ⟨by simp, Wf.nil⟩
   ·rename_i h3
    split
    ·rename_i h4
     obtain ⟨_, a2, a3⟩ := thr_to (M := M) (first := first) (rd := rd) (n := n) (to := to) hp hw (by omega) (by omega) (by omega) h4
     refine ⟨?_, (a3.drop _).take _⟩
     simp only [List.length_take, List.length_drop]
     omega
    ·exact ⟨by simp, Wf.nil⟩
theorem It9.told {K L : Nat → Prop} {FL : List Int} {its : List (Value × List Int)} {lss : List (Value × Value × List Int)} (h : It9 w B K R FL its lss) (a : Value) (l : List Int) (ho : OwnB w B a l) (hw : Wf l) (hl : l.length ≤ 65536) (hL : ∀ k, K k → L k) (ha : ∀ g, a.ownBlock = some g → L g ∧ ¬ K g) :
  It9 w B L (upd9 (upd9 R 1 (R 1 ++ [a])) 2 (R 2 ++ [.string (strOfNums l)])) FL (its ++ [(a, l)]) lss := by
 refine ⟨h.r0, ?_, ?_, h.r3, h.r4, h.fl, fun y hy => ?_, fun i j y y' hi hj hne => ?_, fun y hy => ?_, h.lN⟩
 ·show R 1 ++ [a] = _
  rw [h.r1, List.map_append]
  rfl
 ·show R 2 ++ [Value.string (strOfNums l)] = _
  rw [h.r2, List.map_append]
  rfl
 ·rcases List.mem_append.1 hy with e | e
  ·obtain ⟨a1, a2, a3, a4⟩ := h.i1 y e
   exact ⟨a1, a2, a3, fun g q => hL g (a4 g q)⟩
  ·obtain rfl : y = (a, l) := by simpa using e
   exact ⟨ho, hw, hl, fun g q => (ha g q).1⟩
 ·have key : ∀ (i : Nat) (y : Value × List Int), (its ++ [(a, l)])[i]? = some y → (i < its.length ∧ its[i]? = some y) ∨ (i = its.length ∧ y = (a, l)) := by
   intro i y hi
   by_cases e : i < its.length
   ·rw [List.getElem?_append_left e] at hi
    exact .inl ⟨e, hi⟩
   ·have hlt := (List.getElem?_eq_some_iff.1 hi).1
    rw [List.length_append] at hlt
    simp only [List.length_cons, List.length_nil] at hlt
    have e2 : i = its.length := by omega
    subst e2
    rw [List.getElem?_concat_length] at hi
    cases hi
    exact .inr ⟨rfl, rfl⟩
  rcases key i y hi with ⟨_, e1⟩ | ⟨e1, rfl⟩
  ·rcases key j y' hj with ⟨_, e2⟩ | ⟨e2, rfl⟩
   ·exact h.iN i j y y' e1 e2 hne
   ·cases e : y.1.ownBlock with
    | none => exact .inl rfl
    | some g => exact .inr fun q => (ha g q.symm).2 ((h.i1 y (List.mem_of_getElem? e1)).2.2.2 g e)
  ·rcases key j y' hj with ⟨_, e2⟩ | ⟨e2, rfl⟩
   ·cases e : a.ownBlock with
    | none => exact .inl rfl
    | some g => exact .inr fun q => (ha g e).2 ((h.i1 y' (List.mem_of_getElem? e2)).2.2.2 g q.symm)
   ·omega
 ·obtain ⟨a1, a2, a3, a4, a5⟩ := h.l1 y hy
  exact ⟨a1, a2, a3, fun g q => hL g (a4 g q), fun g q => hL g (a5 g q)⟩
theorem It9.list {K L : Nat → Prop} {FL : List Int} {its : List (Value × List Int)} {lss : List (Value × Value × List Int)} (h : It9 w B K R FL its lss) (a c : Value) (l : List Int) (ho : OwnJ w B a l) (ho2 : OwnJ w B c l) (hl : l.length ≤ 65536) (hL : ∀ k, K k → L k) (ha : ∀ g, a.ownBlock = some g → L g ∧ ¬ K g) (hc : ∀ g, c.ownBlock = some g → L g ∧ ¬ K g) (hac : a.ownBlock = none ∨ a.ownBlock ≠ c.ownBlock) :
  It9 w B L (upd9 (upd9 R 3 (R 3 ++ [a])) 4 (R 4 ++ [c])) FL its (lss ++ [(a, c, l)]) := by
 refine ⟨h.r0, h.r1, h.r2, ?_, ?_, h.fl, fun y hy => ?_, h.iN, fun y hy => ?_, fun i j y y' hi hj => ?_⟩
 ·show R 3 ++ [a] = _
  rw [h.r3, List.map_append]
  rfl
 ·show R 4 ++ [c] = _
  rw [h.r4, List.map_append]
  rfl
 ·obtain ⟨a1, a2, a3, a4⟩ := h.i1 y hy
  exact ⟨a1, a2, a3, fun g q => hL g (a4 g q)⟩
 ·rcases List.mem_append.1 hy with e | e
  ·obtain ⟨a1, a2, a3, a4, a5⟩ := h.l1 y e
   exact ⟨a1, a2, a3, fun g q => hL g (a4 g q), fun g q => hL g (a5 g q)⟩
  ·obtain rfl : y = (a, c, l) := by simpa using e
   exact ⟨ho, ho2, hl, fun g q => (ha g q).1, fun g q => (hc g q).1⟩
 ·have key : ∀ (i : Nat) (y : Value × Value × List Int), (lss ++ [(a, c, l)])[i]? = some y → (i < lss.length ∧ lss[i]? = some y) ∨ (i = lss.length ∧ y = (a, c, l)) := by
   intro i y hi
   by_cases e : i < lss.length
   ·rw [List.getElem?_append_left e] at hi
    exact .inl ⟨e, hi⟩
   ·have hlt := (List.getElem?_eq_some_iff.1 hi).1
    rw [List.length_append] at hlt
    simp only [List.length_cons, List.length_nil] at hlt
    have e2 : i = lss.length := by omega
    subst e2
    rw [List.getElem?_concat_length] at hi
    cases hi
    exact .inr ⟨rfl, rfl⟩
  rcases key i y hi with ⟨_, e1⟩ | ⟨e1, rfl⟩
  ·rcases key j y' hj with ⟨_, e2⟩ | ⟨e2, rfl⟩
   ·exact h.lN i j y y' e1 e2
   ·have hy := h.l1 y (List.mem_of_getElem? e1)
    refine ⟨fun _ => ?_, ?_⟩
    ·cases e : y.1.ownBlock with
     | none => exact .inl rfl
     | some g => exact .inr fun q => (ha g q.symm).2 (hy.2.2.2.1 g e)
    ·cases e : y.1.ownBlock with
     | none => exact .inl rfl
     | some g => exact .inr fun q => (hc g q.symm).2 (hy.2.2.2.1 g e)
  ·rcases key j y' hj with ⟨_, e2⟩ | ⟨e2, rfl⟩
   ·have hy := h.l1 y' (List.mem_of_getElem? e2)
    refine ⟨fun _ => ?_, ?_⟩
    ·cases e : a.ownBlock with
     | none => exact .inl rfl
     | some g => exact .inr fun q => (ha g e).2 (hy.2.2.2.1 g q.symm)
    ·cases e : a.ownBlock with
     | none => exact .inl rfl
     | some g => exact .inr fun q => (ha g e).2 (hy.2.2.2.2 g q.symm)
   ·exact ⟨fun q => absurd (e1.trans e2.symm) q, hac⟩
theorem It9.wrote {FL FL' : List Int} {its : List (Value × List Int)} {lss : List (Value × Value × List Int)} (h : It9 w B K R FL its lss) (hf : FL' = FL ∨ ∃ a, FL' = FL ++ [a] ∧ 2 ≤ a ∧ a < 65536) : It9 w B K (upd9 R 0 (IV FL')) FL' its lss :=
 ⟨upd9_at _ _ _, h.r1, h.r2, h.r3, h.r4, by
  rcases hf with rfl | ⟨a, rfl, ha⟩
  ·exact h.fl
  ·intro y hy
   rcases List.mem_append.1 hy with e | e
   ·exact h.fl y e
   ·obtain rfl : y = a := by simpa using e
    exact ha, h.i1, h.iN, h.l1, h.lN⟩
theorem It9.moreK {L : Nat → Prop} {FL : List Int} {its : List (Value × List Int)} {lss : List (Value × Value × List Int)} (h : It9 w B K R FL its lss) (hc : Cf (Mu x b m b2 m2 rb) w u) (hs : Sq9 w B x b m b2 m2 P T rd rd2 M N ct ct2 K rb R) (hL : ∀ k, K k → L k) : It9 u B L R FL its lss := h.cf hc (fun k hk => (hs.kl k hk).2) hL
theorem OwnJ.low9 {w : World} {B C : Nat} {v : Value} {l : List Int} (h : OwnJ w C v l) (hB : B ≤ C) : OwnJ w B v l := by
 refine ⟨h.1, ?_⟩
 rcases h.2 with h | ⟨g, c, cur, e, hg, hr⟩
 ·exact .inl h
 ·exact .inr ⟨g, c, cur, e, Nat.le_trans hB hg, hr⟩
theorem frP_ok {Q : Nat} {M : Int → Option Pf} {first n rd : Int} {ct : Nat} (hp : pw P) (hg : Gd9 M Q ct) : Gd9 (Go.Proofs.YtoejadhlkamcjaaDoor.delL M (frP (rdR M P first n rd))) Q (ct - (frP (rdR M P first n rd)).length) := by
 by_cases h : (rdR M P first n rd).1 = 0
 ·obtain ⟨g1, g2, _⟩ := rdR_ok hp h
  unfold frP
  rw [if_pos h]
  exact hg.delL g1 g2
 ·unfold frP
  rw [if_neg h, delL_nil]
  exact hg
theorem lay_dr9 {w1 u : World} (h : Sq9 w B x b m b2 m2 P T rd rd M N ct ct K rb R) (hc : con M = con N) (n : Int) (d : List Int) (h1 : LayTo9 w b m 2 P ((T : Int) + 2) rd M ct n d w1) {y : World} (hy : Below w1.heap.size w1 y) (h2 : LayTo9 y b2 m2 2 P ((T : Int) + 2) rd N ct n d u) :
  ∃ M' N' ct' K', Sq9 u B x b m b2 m2 P T rd rd M' N' ct' ct' K' rb R ∧ con M' = con N' ∧ (∀ k, K k → K' k) ∧ Cf (Mu x b m b2 m2 rb) w u := by
 rcases h1 with ⟨a1, rfl⟩ | ⟨a1, f, hf, hg, hb, hcf⟩
 ·rcases h2 with ⟨_, rfl⟩ | ⟨a2, _⟩
  ·exact ⟨M, N, ct, K, h.on hy, hc, fun _ e => e, Cf.of_below hy⟩
  ·exact absurd a2 a1
 ·rcases h2 with ⟨a2, _⟩ | ⟨_, f2, hf2, hg2, hb2, hcf2⟩
  ·exact absurd a1 a2
  ·have e : (N n).isSome = (M n).isSome := (con_iso hc n).symm
   have s1 := (h.actr hb (hcf.wide fun k e => .inr e) (h.gM.lay a1.1 a1.2) ((Zs.refl _ _).put hg)).on hy
   have s2 := s1.actd hb2 (hcf2.wide fun k e => .inr e) (h.gN.lay a1.1 a1.2) ((Zs.refl _ _).put hg2)
   rw [e] at s2
   exact ⟨_, _, _, _, s2, by rw [con_put, con_put, hc, hf, hf2], fun k hk => .inl (.inl hk), ((hcf.wide fun k e => Mu_r k (.inr e)).go (Cf.of_below hy)).go (hcf2.wide fun k e => Mu_d k (.inr e))⟩
theorem Cf.muB {F : Nat → Prop} (h : Sq9 w B x b m b2 m2 P T rd rd2 M N ct ct2 K rb R) (hc : Cf F w u) (hF : ∀ k, F k → Mu x b m b2 m2 rb k) : Cf (B ≤ ·) w u := hc.wide fun k e => (h.lts (hF k e)).2
end Go.Proofs.YtoejadhlkamcjaaDoor

namespace Go.Proofs.YtoejadhlkamcjaaDoor
set_option maxRecDepth 100000
open Go.RowKit Go.Maps
set_option maxHeartbeats 8000000 in
theorem play_0 {w : World} {B x b m b2 m2 P T t : Nat} (h : Pp9 w B x b m b2 m2 P T t) (ht : t ≤ 1100000) (_ : T ≤ 65534) (hp : pw P) (htb : Tab w) (hB0 : 0 < B) (k f n fr to : Int) (vo : Option Addr) (vn vc : Nat) (v : List Int)
  (hf : -9223372036854775808 ≤ f ∧ f ≤ 9223372036854775807) (hv : Sl w vo vn vc v) (hvb : vn = 0 ∨ ∀ p, vo = some p → p.block < B) (_ : vn ≤ 200000) (hk : k ≠ 1 ∧ k ≠ 2 ∧ k ≠ 3 ∧ k ≠ 4 ∧ k ≠ 5 ∧ k ≠ 6 ∧ k ≠ 7 ∧ k ≠ 8) :
  Calls Tryd.prog 6 #[.pointer (some ⟨x, 0, none⟩), opV k f n fr to vo vn vc] w fun e u => e = .returned (.bool true) ∧ Hid (Pp9 u B x b m b2 m2 P T (t + 1) ∧ Cf (B ≤ ·) w u) := by
 obtain ⟨rd, M, N, ct, K, rb, R, FL, its, lss, hs, hco, hit, l1, l2, l3, hr0, hr1⟩ := h
 have hwf := fsN_wf hit.fl (wf64 f hf.1 hf.2)
 obtain ⟨z, hz⟩ : ∃ z, w.alloc (.cells #[.int .i64 k, .int .i64 f, .int .i64 n, .int .i64 fr, .int .i64 to, .slice vo vn vc] 35) = z := ⟨_, rfl⟩
 have hbz : Below w.heap.size w z := by rw [← hz]; exact bl_al (Below.refl _ _) (Nat.le_refl _) _
 obtain ⟨s, hs0⟩ : ∃ s, w.heap.size = s := ⟨_, rfl⟩
 have g0 : z.cell? ⟨s, 0, none⟩ = some (.int .i64 k) := by rw [← hz, ← hs0]; simp
 have g1 : z.cell? ⟨s, 1, none⟩ = some (.int .i64 f) := by rw [← hz, ← hs0]; simp
 have g2 : z.cell? ⟨s, 2, none⟩ = some (.int .i64 n) := by rw [← hz, ← hs0]; simp
 have g3 : z.cell? ⟨s, 3, none⟩ = some (.int .i64 fr) := by rw [← hz, ← hs0]; simp
 have g4 : z.cell? ⟨s, 4, none⟩ = some (.int .i64 to) := by rw [← hz, ← hs0]; simp
 have g5 : z.cell? ⟨s, 5, none⟩ = some (.slice vo vn vc) := by rw [← hz, ← hs0]; simp
 have hzs : s < z.heap.size := by rw [← hz, ← hs0]; simp
 have HFI := hidden (first9 (hs.on hbz) FL hit.r0 (by omega) k f n fr to vo vn vc hf)
 obtain ⟨n0, hn0⟩ : ∃ n0, fsN FL f = n0 := ⟨_, rfl⟩
 rw [hn0] at HFI hwf
 have HN0 := hidden hwf
 have H := hidden hs
 have HCO := hidden hco
 have HIT := hidden hit
 have HLE := hidden (And.intro l1 (And.intro l2 (And.intro l3 (And.intro hr0 hr1))))
 have HBZ := hidden hbz
 have HSW := hidden hs0
 have HMS : Hid (∀ q, Mu x b m b2 m2 rb q → q < s ∧ B ≤ q) := hidden (fun q hq => by have := hs.lts hq; omega)
 have HKS : Hid (∀ q, K q → q < s) := hidden (fun q hq => by have := (hs.kl q hq).1; omega)
 have HG : Hid (∀ i v, z.cell? ⟨s, i, none⟩ = some v → ∀ u, Below z.heap.size z u → u.cell? ⟨s, i, none⟩ = some v) := hidden (fun i v e u hu => (hu.cell (p := ⟨s, i, none⟩) hzs).trans e)
 have HG0 := hidden (And.intro g0 (And.intro g1 (And.intro g2 (And.intro g3 (And.intro g4 g5)))))
 have HZS := hidden hzs
 have HV := hidden hv
 have HVB := hidden hvb
 have HTB := hidden htb
 have HPW := hidden hp
 have hBw : B ≤ w.heap.size := Nat.le_trans hs.hB.1 (Nat.le_of_lt (lt_some hs.row))
 have HBS := hidden hBw
 clear hs hco hit hwf hn0 hbz hzs l1 l2 l3 hv hvb htb hp hBw
 go_enter Tryd.func6, Tryd.ntmps6
 go_wp2_with (first
  | (go_at_call 19; refine HFI.out.mono ?_; rintro e v1 ⟨rfl, HV1⟩; refine Hid.out ?_))
 apply hidden
 have HB1 : Hid (Below w.heap.size w v1) := hidden (bl_go HBZ.out (Nat.le_refl _) HV1.out)
 have HS1 : Hid (Sq9 v1 B x b m b2 m2 P T rd rd M N ct ct K rb R) := hidden (H.out.on HB1.out)
 have HSV : Hid (s < v1.heap.size) := hidden (Nat.lt_of_lt_of_le HZS.out HV1.out.size)
 obtain ⟨y0, y1, y2, y3, y4, y5⟩ := HG0.out
 have j0 := HG.out 0 _ y0 v1 HV1.out
 have j1 := HG.out 1 _ y1 v1 HV1.out
 have j2 := HG.out 2 _ y2 v1 HV1.out
 have j3 := HG.out 3 _ y3 v1 HV1.out
 have j4 := HG.out 4 _ y4 v1 HV1.out
 have j5 := HG.out 5 _ y5 v1 HV1.out
 have HT1 : Hid (Tab v1) := hidden (HTB.out.on HB1.out (by have := HBS.out; omega))
 have h01 : 0 < v1.heap.size := Nat.lt_of_le_of_lt (Nat.zero_le _) HSV.out
 have HV9 : Hid (Sl v1 vo vn vc v) := hidden (HV.out.on (Nat.le_refl _) HB1.out)
 have hrd : rd < 2305843009213693952 := by have := HLE.out.2.2.2.2; omega
 have hrd0 : 0 ≤ rd := HLE.out.2.2.2.1
 have HJ : Hid (∀ (F : Nat → Prop) (u : World), Cf F v1 u → (∀ q, F q → Mu x b m b2 m2 rb q) → ∀ i v, v1.cell? ⟨s, i, none⟩ = some v → u.cell? ⟨s, i, none⟩ = some v) := hidden (fun F u hc hF i v e => (World.cell?_of_block (hc.block s HSV.out (fun q => by have := (HMS.out s (hF s q)).1; omega))).trans e)
 clear HFI HG HG0 HV1 y0 y1 y2 y3 y4 y5 g0 g1 g2 g3 g4 g5 hz HSW
 obtain ⟨c0, c1⟩ := HS1.out.cells
 have kn1 : (k == 1) = false := by simpa using hk.1
 have kn2 : (k == 2) = false := by simpa using hk.2.1
 have kn3 : (k == 3) = false := by simpa using hk.2.2.1
 have kn4 : (k == 4) = false := by simpa using hk.2.2.2.1
 have kn5 : (k == 5) = false := by simpa using hk.2.2.2.2.1
 have kn6 : (k == 6) = false := by simpa using hk.2.2.2.2.2.1
 have kn7 : (k == 7) = false := by simpa using hk.2.2.2.2.2.2.1
 have kn8 : (k == 8) = false := by simpa using hk.2.2.2.2.2.2.2
 have HF : Hid (Pp9 v1 B x b m b2 m2 P T (t + 1) ∧ Cf (B ≤ ·) w v1) := hidden (by
  have hcw : Cf (Mu x b m b2 m2 rb) w v1 := Cf.of_below HB1.out
  have q1 := HLE.out
  exact ⟨⟨rd, M, N, ct, K, rb, _, FL, its, lss, HS1.out, HCO.out, HIT.out.moreK hcw H.out (fun _ e => e), by omega, by omega, by omega, by omega, by omega⟩, Cf.muB H.out hcw (fun _ e => e)⟩)
 clear c0 c1 hk
 go_wp2
 go_ret
 exact ⟨rfl, HF⟩
end Go.Proofs.YtoejadhlkamcjaaDoor
