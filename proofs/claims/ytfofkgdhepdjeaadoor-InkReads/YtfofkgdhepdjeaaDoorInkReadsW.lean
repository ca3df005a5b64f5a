/- The walk of the law InkReads. -/
import Derived.Test.YtfofkgdhepdjeaaDoorInkWritesW
import Derived.Test.YtfofkgdhepdjeaaDoorAsLent
import Derived.Test.YtfofkgdhepdjeaaDoorRefReads3
namespace Go.Proofs.YtfofkgdhepdjeaaDoor
open Go.RowKit

theorem rO_props : ∀ (l : List Int) (i : Int) (acc : List Int), Wf l → Wf acc → Wf (rO l i acc).1 ∧ (rO l i acc).1.length ≤ acc.length + l.length
  | [], _, acc, _, _ => by simp [rO]; exact Wf.nil
  | [c], i, acc, hl, ha => by
    by_cases h : c = 0
    · subst h
      rw [rO_cut]
      exact ⟨Wf.nil, by simp⟩
    · rw [rO_plain _ _ _ _ h, rO]
      exact ⟨Wf.nil, by simp⟩
  | c :: d :: r, i, acc, hl, ha => by
    by_cases h : c = 0
    · subst h
      rw [rO_two]
      split
      · have := rO_props r (i + 2) (acc ++ [0]) (fun x hx => hl x (by simp [hx])) (ha.append (Wf.cons (by omega) Wf.nil))
        refine ⟨this.1, ?_⟩
        have h2 := this.2
        simp only [List.length_append, List.length_cons, List.length_nil] at h2 ⊢
        omega
      · split
        · exact ⟨ha, by simp⟩
        · exact ⟨Wf.nil, by simp⟩
    · rw [rO_plain _ _ _ _ h]
      have := rO_props (d :: r) (i + 1) (acc ++ [c]) (fun x hx => hl x (by simp at hx ⊢; exact .inr hx)) (ha.append (Wf.cons (hl c (by simp)) Wf.nil))
      refine ⟨this.1, ?_⟩
      have h2 := this.2
      simp only [List.length_append, List.length_cons, List.length_nil] at h2 ⊢
      omega
theorem rOx_props (l : List Int) (p : Int) (h : Wf l) : Wf (rOx l p).1 ∧ (rOx l p).1.length ≤ l.length := by
  unfold rOx
  split
  · exact ⟨Wf.nil, by simp⟩
  · have := rO_props (l.drop p.toNat) p [] (h.drop _) Wf.nil
    refine ⟨this.1, ?_⟩
    have h2 := this.2
    simp only [List.length_nil, List.length_drop] at h2
    omega

set_option maxHeartbeats 2000000 in
theorem walk_InkReads (a : Option Addr) (n c : Nat) (l : List Int) (p x : Int) (w : World) (ht : Tab w) (h0 : 0 < w.heap.size) (hs : Sl w a n c l) (hn : n ≤ 140737488351232) (_hp : -9223372036854775808 ≤ p ∧ p ≤ 9223372036854775807) (_hx : -9223372036854775808 ≤ x ∧ x ≤ 9223372036854775807) :
    Calls Tryd.prog 5 #[.slice a n c, .int .i64 p, .int .i64 x] w fun e w' => e = .returned (.bool true) ∧ Below w.heap.size w w' := by
  have HL := hidden (live_any w ht h0)
  have HS := hidden hs
  have hlen := hs.hlen
  have hO := rOx_props l p hs.wf
  have HWO := hidden hO.1
  have hOl := hO.2
  have HW := hidden hs.wf
  clear ht hs hO
  go_enter Tryd.func5, Tryd.ntmps5
  go_wp2_with fail
  refine HL.out.mono ?_
  rintro e w1 ⟨rfl, hb⟩
  have HB1 := hidden hb
  clear hb HL
  go_wp2_with fail
  refine (lent_any _ _ _ l _ (HS.out.go HB1.out)).mono ?_
  rintro e w2 ⟨rfl, hol, hb2⟩
  have HO2 := hidden hol
  have HB2 := hidden (HB1.out.trans (hb2.mono HB1.out.size))
  have z12 := hb2.size
  have z01 := HB1.out.size
  have hll : (l ++ [71, 72, 73]).length = n + 3 := by simp [hlen]
  have hWl : Wf (l ++ [71, 72, 73]) := HW.out.append (by unfold Wf; decide)
  have htk : (l ++ [71, 72, 73]).take n = l := by subst hlen; simp
  have hsl := own_head hol hWl hll (show n ≤ n + 3 by omega) (by omega) (n + 3) (by omega)
  rw [htk] at hsl
  have HSL := hidden hsl
  clear hol hb2 hsl hll hWl htk HB1
  have hlt12 : w1.heap.size < w2.heap.size := (World.ownsRow.lt HO2.out w1.heap.size rfl).2
  go_wp2_with fail
  refine same_call (readFixed_all _ _ _ l p x _ HSL.out) ?_
  go_wp2_with fail
  refine same_call (refReadFixed_all _ _ _ l p x _ (HS.out.go HB2.out)) ?_
  generalize rF l p x = RF at *
  go_wp2_with fail
  refine same_call (readUint_all _ _ _ l p _ HSL.out) ?_
  go_wp2_with fail
  refine same_call (refReadUint_all _ _ _ l p _ (HS.out.go HB2.out)) ?_
  generalize rUx l p = RU at *
  go_wp2_with fail
  refine (readOrdered_all _ _ _ l p _ HSL.out).mono ?_
  rintro e w3 ⟨vo, rfl, hoo, hb3⟩
  have HOO := hidden hoo
  obtain ⟨ao, co, rfl, hso, -⟩ := hoo.sl HWO.out (by omega)
  have HSO := hidden hso
  have HB3 := hidden (HB2.out.trans (hb3.mono HB2.out.size))
  have HO3 := hidden (HO2.out.go hb3)
  have HSL3 := hidden (HSL.out.go hb3)
  have z23 := hb3.size
  clear hoo hso hb3 HB2 HO2 HSL
  go_wp2_with fail
  refine (refReadOrdered_all _ _ _ l p _ (HS.out.go HB3.out)).mono ?_
  generalize hRO : rOx l p = RO at *
  have HRO := hidden hRO
  clear hRO
  rintro e w4 ⟨vp, rfl, hop, hb4⟩
  obtain ⟨ap, cp, rfl, hsp, hpb⟩ := hop.sl HWO.out (by omega)
  have HSP := hidden hsp
  have HPB := hidden hpb
  have HB4 := hidden (HB3.out.trans (hb4.mono HB3.out.size))
  have HO4 := hidden (HO3.out.go hb4)
  have HSL4 := hidden (HSL3.out.go hb4)
  have HSO4 := hidden (HSO.out.go hb4)
  have HOO4 := hidden (HOO.out.go hb4)
  have z34 := hb4.size
  clear hop hsp hpb hb4 HB3 HO3 HSL3 HSO
  go_wp2_with fail
  refine same_call (same_yes _ _ _ _ _ _ _ _ HSO4.out HSP.out) ?_
  clear HSO4
  go_wp2_with fail
  refine (own_call _ w2.heap.size RO.1 _ HOO4.out (by omega) (by omega)).mono ?_
  rintro e w5 ⟨rfl, hg5⟩
  have HNE : Hid (some w1.heap.size ≠ Value.ownBlock (.slice ao RO.1.length co)) := by
    intro h
    have := (World.ownsRow.lt HOO.out _ h.symm).1
    omega
  have HSL5 := hidden (HSL4.out.grown hg5 (fun a e => by cases e; exact HNE.out))
  have HO5 := hidden (HO4.out.grown hg5 (.inr HNE.out))
  have HSP5 := hidden (HSP.out.grown hg5 (apart_of HOO.out (Nat.le_refl _) HPB.out))
  have HB5 := hidden (HB4.out.trans (grown_below hg5 HB4.out.size (fun k hk => by have := (World.ownsRow.lt HOO4.out k hk).1; omega)))
  have z45 := hg5.size
  clear hg5 HSL4 HO4 HSP HB4 HOO4 HNE HOO
  go_wp2_with fail
  have h6 := readOrdered_all _ _ _ l p _ HSL5.out
  rw [HRO.out] at h6
  refine h6.mono ?_
  clear h6
  rintro e w6 ⟨va, rfl, hoa, hb6⟩
  obtain ⟨aa, ca, rfl, hsa, hab⟩ := hoa.sl HWO.out (by omega)
  have HSA := hidden hsa
  have HAB := hidden hab
  have HB6 := hidden (HB5.out.trans (hb6.mono HB5.out.size))
  have HO6 := hidden (HO5.out.go hb6)
  have HSP6 := hidden (HSP5.out.go hb6)
  have z56 := hb6.size
  clear hoa hsa hab hb6 HB5 HO5 HSP5 HSL5
  go_wp2_with fail
  refine same_call (same_yes _ _ _ _ _ _ _ _ HSA.out HSP6.out) ?_
  go_wp2_with fail
  refine (asLent_any _ w1.heap.size n _ _ l _ HO6.out (HS.out.go HB6.out) (by omega)).mono ?_
  rintro e w7 ⟨rfl, hg7⟩
  have HSA7 := hidden (HSA.out.grown hg7 (fun a e h => by have := HAB.out a e; have h2 := Option.some.inj h; omega))
  have HSP7 := hidden (HSP6.out.grown hg7 (fun a e h => by have := HPB.out a e; have h2 := Option.some.inj h; omega))
  have HB7 := hidden (HB6.out.trans (grown_below hg7 HB6.out.size (fun k hk => by cases hk; omega)))
  clear hg7 HSA HSP6 HB6 HO6 HAB HPB
  go_wp2_with fail
  refine same_call (same_yes _ _ _ _ _ _ _ _ HSA7.out HSP7.out) ?_
  clear HSA7 HSP7
  go_wp2
  go_ret
  exact ⟨rfl, HB7.out⟩
end Go.Proofs.YtfofkgdhepdjeaaDoor
