/- The walk of the law InkWrites. -/
import Derived.Test.YtfofkgdhepdjeaaDoorOwn
import Derived.Test.YtfofkgdhepdjeaaDoorRefWrites
namespace Go.Proofs.YtfofkgdhepdjeaaDoor
open Go.RowKit

/-- What Fixed comes to, of any width. -/
def fX (n x : Int) : List Int := if 1 ≤ x ∧ x ≤ 8 then fB x.toNat n else []
theorem fX_wf (n x : Int) : Wf (fX n x) := by unfold fX; split; exact fB_wf _ _; exact Wf.nil
theorem fX_length (n x : Int) : (fX n x).length ≤ 8 := by
  unfold fX
  split
  · rw [fB_length]; omega
  · simp
theorem fixed_all (n x : Int) (w : World) (h0 : 0 ≤ n) :
    Calls Tryd.prog 10 #[.int .u64 n, .int .i64 x] w fun e w' => ∃ v, e = .returned v ∧ OwnB w' w.heap.size v (fX n x) ∧ Below w.heap.size w w' := by
  unfold fX
  by_cases h : 1 ≤ x ∧ x ≤ 8
  · rw [if_pos h]
    exact fixed_yes n x w h0 h.1 h.2
  · rw [if_neg h]
    exact (fixed_no n x w (by omega)).mono fun e w' ⟨he, hw⟩ => ⟨_, he, by rw [hw]; exact OwnB.nil _ _, by rw [hw]; exact Below.refl _ _⟩
theorem refFixed_all (n x : Int) (w : World) (h0 : 0 ≤ n) (hn : n < 18446744073709551616) :
    Calls Tryd.prog 12 #[.int .u64 n, .int .i64 x] w fun e w' => ∃ v, e = .returned v ∧ OwnB w' w.heap.size v (fX n x) ∧ Below w.heap.size w w' := by
  unfold fX
  by_cases h : 1 ≤ x ∧ x ≤ 8
  · rw [if_pos h]
    exact refFixed_yes n x w h0 hn h.1 h.2
  · rw [if_neg h]
    exact (refFixed_no n x w (by omega)).mono fun e w' ⟨he, hw⟩ => ⟨_, he, by rw [hw]; exact OwnB.nil _ _, by rw [hw]; exact Below.refl _ _⟩
theorem same_yes (ao bo : Option Addr) (n m c d : Nat) (la : List Int) (w : World) (ha : Sl w ao n c la) (hb : Sl w bo m d la) :
    Calls Tryd.prog 14 #[.slice ao n c, .slice bo m d] w fun e w' => e = .returned (.bool true) ∧ w' = w := by
  have h := same_any ao bo n m c d la la w ha hb
  rw [decide_eq_true (rfl : la = la)] at h
  exact h
theorem OwnB.go {w w' : World} {B : Nat} {v : Value} {l : List Int} (h : OwnB w B v l) (hb : Below w.heap.size w w') : OwnB w' B v l := h.on (Nat.le_refl _) hb
/-- What lies in blocks from C on does not lie in the block of what is owned below C. -/
theorem apart_of {w : World} {B C : Nat} {v : Value} {l : List Int} (h : OwnB w B v l) (hC : w.heap.size ≤ C) {ao : Option Addr} (ha : ∀ a, ao = some a → C ≤ a.block) : ∀ a, ao = some a → some a.block ≠ v.ownBlock := by
  intro a e he
  have h1 := ha a e
  have h2 := World.ownsRow.lt h a.block he.symm
  omega
theorem OwnB.grown {w w' : World} {B : Nat} {v : Value} {l : List Int} {row : Option Nat} (h : OwnB w B v l) (hg : w.grownBy w' row) (hne : v.ownBlock = none ∨ v.ownBlock ≠ row) : OwnB w' B v l := World.ownsRow.kept h hg hne

set_option maxHeartbeats 2000000 in
theorem walk_InkWrites (n x o : Int) (w : World) (ht : Tab w) (h0 : 0 < w.heap.size) (hn : 0 ≤ n ∧ n ≤ 18446744073709551615) (_hx : -9223372036854775808 ≤ x ∧ x ≤ 9223372036854775807) (ho : 0 ≤ o ∧ o ≤ 18446744073709551615) :
    Calls Tryd.prog 4 #[.int .u64 n, .int .i64 x, .int .u64 o] w fun e w' => e = .returned (.bool true) ∧ Below w.heap.size w w' := by
  have HL := hidden (live_any w ht h0)
  clear ht
  obtain ⟨hn0, hn1⟩ := hn
  obtain ⟨ho0, ho1⟩ := ho
  have hn2 : n < 18446744073709551616 := by omega
  have ho2 : o < 18446744073709551616 := by omega
  have lUn := (uB_length n).1
  have lUo := (uB_length o).1
  have lFn := fX_length n x
  have lFo := fX_length o x
  go_enter Tryd.func4, Tryd.ntmps4
  go_wp2_with fail
  refine HL.out.mono ?_
  rintro e w1 ⟨rfl, hb⟩
  have HB1 := hidden hb
  clear hb HL
  go_wp2_with fail
  refine (fixed_all n x _ hn0).mono ?_
  rintro e w2 ⟨va, rfl, hoa, hb2⟩
  have HA2 := hidden hoa
  obtain ⟨aa, ca, rfl, hsa, -⟩ := hoa.sl (fX_wf n x) (by omega)
  have HSA2 := hidden hsa
  have HB2 := hidden (HB1.out.trans (hb2.mono HB1.out.size))
  have HZ2 := hidden hb2.size
  clear hoa hsa hb2
  go_wp2_with fail
  refine (uint_any n _ hn0 hn2).mono ?_
  rintro e w3 ⟨vu, rfl, hou, hb3⟩
  have HU3 := hidden hou
  obtain ⟨au, cu, rfl, hsu, hub⟩ := hou.sl (uB_wf hn0 hn2) (by omega)
  have HSU3 := hidden hsu
  have HUB := hidden hub
  have HB3 := hidden (HB2.out.trans (hb3.mono HB2.out.size))
  have HA3 := hidden (HA2.out.go hb3)
  have HSA3 := hidden (HSA2.out.go hb3)
  have HZ3 := hidden hb3.size
  clear hou hsu hub hb3 HB2 HSA2
  go_wp2_with fail
  refine (fixed_all o x _ ho0).mono ?_
  rintro e w4 ⟨vb, rfl, hob, hb4⟩
  obtain ⟨ab, cb, rfl, hsb, hbb⟩ := hob.sl (fX_wf o x) (by omega)
  have HSB4 := hidden hsb
  have HBB := hidden hbb
  have HB4 := hidden (HB3.out.trans (hb4.mono HB3.out.size))
  have HA4 := hidden (HA3.out.go hb4)
  have HSA4 := hidden (HSA3.out.go hb4)
  have HU4 := hidden (HU3.out.go hb4)
  have HSU4 := hidden (HSU3.out.go hb4)
  have HZ4 := hidden hb4.size
  clear hob hsb hbb hb4 HB3 HSA3 HSU3 HA3
  go_wp2_with fail
  refine (uint_any o _ ho0 ho2).mono ?_
  rintro e w5 ⟨vv, rfl, hov, hb5⟩
  obtain ⟨av, cv, rfl, hsv, hvb⟩ := hov.sl (uB_wf ho0 ho2) (by omega)
  have HSV5 := hidden hsv
  have HVB := hidden hvb
  have HB5 := hidden (HB4.out.trans (hb5.mono HB4.out.size))
  have HZ5 := hidden hb5.size
  have HA5 := hidden (HA4.out.go hb5)
  have HSA5 := hidden (HSA4.out.go hb5)
  have HU5 := hidden (HU4.out.go hb5)
  have HSU5 := hidden (HSU4.out.go hb5)
  have HSB5 := hidden (HSB4.out.go hb5)
  clear hov hsv hvb hb5 HB4 HSA4 HSU4 HA4 HU4 HSB4
  go_wp2_with fail
  refine (refFixed_all n x _ hn0 hn2).mono ?_
  rintro e w6 ⟨vw, rfl, how, hb6⟩
  obtain ⟨aw, cw, rfl, hsw, -⟩ := how.sl (fX_wf n x) (by omega)
  have HSW6 := hidden hsw
  have HB6 := hidden (HB5.out.trans (hb6.mono HB5.out.size))
  have HZ6 := hidden hb6.size
  have HA6 := hidden (HA5.out.go hb6)
  have HSA6 := hidden (HSA5.out.go hb6)
  have HU6 := hidden (HU5.out.go hb6)
  have HSU6 := hidden (HSU5.out.go hb6)
  have HSB6 := hidden (HSB5.out.go hb6)
  have HSV6 := hidden (HSV5.out.go hb6)
  clear how hsw hb6 HB5 HSA5 HSU5 HA5 HU5 HSB5 HSV5
  go_wp2_with fail
  refine (refUint_any n _ hn0 hn2).mono ?_
  rintro e w7 ⟨vz, rfl, hoz, hb7⟩
  obtain ⟨az, cz, rfl, hsz, -⟩ := hoz.sl (uB_wf hn0 hn2) (by omega)
  have HSZ7 := hidden hsz
  have HB7 := hidden (HB6.out.trans (hb7.mono HB6.out.size))
  have HZ7 := hidden hb7.size
  have HA7 := hidden (HA6.out.go hb7)
  have HSA7 := hidden (HSA6.out.go hb7)
  have HU7 := hidden (HU6.out.go hb7)
  have HSU7 := hidden (HSU6.out.go hb7)
  have HSB7 := hidden (HSB6.out.go hb7)
  have HSV7 := hidden (HSV6.out.go hb7)
  have HSW7 := hidden (HSW6.out.go hb7)
  clear hoz hsz hb7 HB6 HSA6 HSU6 HA6 HU6 HSB6 HSV6 HSW6
  go_wp2_with fail
  refine same_call (same_yes _ _ _ _ _ _ _ _ HSA7.out HSW7.out) ?_
  go_wp2_with fail
  refine same_call (same_yes _ _ _ _ _ _ _ _ HSU7.out HSZ7.out) ?_
  clear HSA7 HSW7 HSU7 HSZ7
  have z12 := HZ2.out
  have z23 := HZ3.out
  have z34 := HZ4.out
  have z45 := HZ5.out
  have z56 := HZ6.out
  have z67 := HZ7.out
  have z01 := HB1.out.size
  have HUA : Hid (Value.ownBlock (.slice au (uB n).length cu) = none ∨ Value.ownBlock (.slice au (uB n).length cu) ≠ Value.ownBlock (.slice aa (fX n x).length ca)) := by
    cases hau : au with
    | none => exact .inl rfl
    | some a => exact .inr (apart_of HA2.out (Nat.le_refl _) HUB.out a hau)
  have HBA := hidden (apart_of HA2.out z23 HBB.out)
  have HVA := hidden (apart_of HA2.out (Nat.le_trans z23 z34) HVB.out)
  have HBU := hidden (apart_of HU3.out (Nat.le_refl _) HBB.out)
  have HVU := hidden (apart_of HU3.out z34 HVB.out)
  clear HZ2 HZ3 HZ4 HZ5 HZ6 HZ7 HB1 HA2 HU3 HUB HBB HVB
  go_wp2_with fail
  refine (own_call _ w1.heap.size (fX n x) _ HA7.out (by omega) (by omega)).mono ?_
  rintro e w8 ⟨rfl, hg8⟩
  have HSB8 := hidden (HSB7.out.grown hg8 HBA.out)
  have HSV8 := hidden (HSV7.out.grown hg8 HVA.out)
  have HU8 := hidden (HU7.out.grown hg8 HUA.out)
  have HB8 := hidden (HB7.out.trans (grown_below hg8 HB7.out.size (fun k hk => by have := (World.ownsRow.lt HA7.out k hk).1; omega)))
  have z78 := hg8.size
  clear hg8 HSB7 HSV7 HU7 HA7 HB7 HBA HVA HUA
  go_wp2_with fail
  refine (own_call _ w2.heap.size (uB n) _ HU8.out (by omega) (by omega)).mono ?_
  rintro e w9 ⟨rfl, hg9⟩
  have HSB9 := hidden (HSB8.out.grown hg9 HBU.out)
  have HSV9 := hidden (HSV8.out.grown hg9 HVU.out)
  have HB9 := hidden (HB8.out.trans (grown_below hg9 HB8.out.size (fun k hk => by have := (World.ownsRow.lt HU8.out k hk).1; omega)))
  clear hg9 HSB8 HSV8 HU8 HB8 HBU HVU
  go_wp2_with fail
  refine (refFixed_all o x _ ho0 ho2).mono ?_
  rintro e w10 ⟨vp, rfl, hop, hb10⟩
  obtain ⟨ap, cp, rfl, hsp, -⟩ := hop.sl (fX_wf o x) (by omega)
  have HSP := hidden hsp
  have HB10 := hidden (HB9.out.trans (hb10.mono HB9.out.size))
  have HSB10 := hidden (HSB9.out.go hb10)
  have HSV10 := hidden (HSV9.out.go hb10)
  clear hop hsp hb10 HB9 HSB9 HSV9
  go_wp2_with fail
  refine (refUint_any o _ ho0 ho2).mono ?_
  rintro e w11 ⟨vq, rfl, hoq, hb11⟩
  obtain ⟨aq, cq, rfl, hsq, -⟩ := hoq.sl (uB_wf ho0 ho2) (by omega)
  have HSQ := hidden hsq
  have HB11 := hidden (HB10.out.trans (hb11.mono HB10.out.size))
  have HSB11 := hidden (HSB10.out.go hb11)
  have HSV11 := hidden (HSV10.out.go hb11)
  have HSP11 := hidden (HSP.out.go hb11)
  clear hoq hsq hb11 HB10 HSB10 HSV10 HSP
  go_wp2_with fail
  refine same_call (same_yes _ _ _ _ _ _ _ _ HSB11.out HSP11.out) ?_
  go_wp2_with fail
  refine same_call (same_yes _ _ _ _ _ _ _ _ HSV11.out HSQ.out) ?_
  clear HSB11 HSP11 HSV11
  go_wp2_with fail
  refine (uint_any o _ ho0 ho2).mono ?_
  rintro e w12 ⟨vr, rfl, hor, hb12⟩
  obtain ⟨ar, cr, rfl, hsr, -⟩ := hor.sl (uB_wf ho0 ho2) (by omega)
  have HSR := hidden hsr
  have HB12 := hidden (HB11.out.trans (hb12.mono HB11.out.size))
  have HSQ12 := hidden (HSQ.out.go hb12)
  clear hor hsr hb12 HB11 HSQ
  go_wp2_with fail
  refine same_call (same_yes _ _ _ _ _ _ _ _ HSR.out HSQ12.out) ?_
  clear HSR HSQ12
  go_wp2
  go_ret
  exact ⟨rfl, HB12.out⟩
end Go.Proofs.YtfofkgdhepdjeaaDoor
