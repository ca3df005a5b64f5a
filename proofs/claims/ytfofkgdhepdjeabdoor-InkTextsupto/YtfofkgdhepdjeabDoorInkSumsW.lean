/- The walk of the law InkSums. -/
import Derived.Test.YtfofkgdhepdjeabDoorLents
import Derived.Test.YtfofkgdhepdjeabDoorLive
import Derived.Deep.RegionWith
namespace Go.Proofs.YtfofkgdhepdjeabDoor
open Go.RowKit

theorem SlS.go {w w' : World} {ao : Option Addr} {n cap : Nat} {ls : List (List Int)} (h : SlS w ao n cap ls) (hb : Below w.heap.size w w') : SlS w' ao n cap ls := by
  refine ⟨h.hlen, h.hcap, h.hroom, h.hnil, ?_⟩
  rcases h.hat with h0 | ⟨b, off, e, hlt, hc⟩
  · exact .inl h0
  · refine .inr ⟨b, off, e, Nat.lt_of_lt_of_le hlt hb.size, fun i hi => ?_⟩
    obtain ⟨a, m, c, h1, h2⟩ := hc i hi
    exact ⟨a, m, c, (hb.cell (p := ⟨b, off + i, none⟩) hlt).trans h1, h2.go hb⟩
theorem tot_le (ls : List (List Int)) : ls.length ≤ tot ls ∧ (ls.flatMap id).length ≤ tot ls ∧ ∀ l ∈ ls, l.length + 1 ≤ tot ls := by
  induction ls with
  | nil => simp [tot]
  | cons x ls ih =>
    have e : tot (x :: ls) = 1 + x.length + tot ls := by simp [tot]
    have e2 : ((x :: ls).flatMap id).length = x.length + (ls.flatMap id).length := by simp [List.flatMap_cons]
    rw [e, e2]
    refine ⟨by simp; omega, by omega, fun l hl => ?_⟩
    rcases List.mem_cons.1 hl with rfl | hl
    · omega
    · have := ih.2.2 l hl; omega
theorem tot_take (ls : List (List Int)) (k : Nat) : tot (ls.take k) ≤ tot ls := by
  have h : tot ls = tot (ls.take k) + tot (ls.drop k) := by
    conv => lhs; rw [← List.take_append_drop k ls]
    simp [tot, -List.take_append_drop]
  omega
theorem getD_mem (ls : List (List Int)) (k : Nat) (h : k < ls.length) : ls.getD k [] ∈ ls := by
  simp [List.getD, List.getElem?_eq_getElem h]
/-- What is gathered reads as the texts. -/
theorem lents_sls {w : World} {B n : Nat} {v : Value} {xs : List Value} {ls : List (List Int)} {gs : List Nat} (h : OwnV w B v xs) (k : Lents w B xs ls gs) (hn : ls.length = n) (hw : ∀ l ∈ ls, Wf l) (ht : tot ls ≤ 1000000) :
    ∃ a c, v = .slice a n c ∧ SlS w a n c ls := by
  have hl := k.len
  have htl := tot_le ls
  rcases h.2 with ⟨rfl, h0⟩ | ⟨g, cap, cur, rfl, hg, hh, hnc, hm, hs, ht'⟩
  · obtain rfl : n = 0 := by omega
    exact ⟨none, 0, rfl, ⟨hn, Nat.le_refl _, by omega, fun _ => rfl, .inl rfl⟩⟩
  · have h2 : w.ownsRow B 23 1 (.slice (some ⟨g, 0, none⟩) n cap) n xs := by
      have h3 := h
      unfold OwnV at h3
      rw [hl, hn] at h3
      exact h3
    rw [hl, hn] at hnc ⊢
    clear h
    have h := h2
    refine ⟨some ⟨g, 0, none⟩, cap, rfl, ⟨hn, hnc, by omega, (by intro h; cases h), .inr ⟨g, 0, rfl, (World.ownsRow.lt h g rfl).2, fun i hi => ?_⟩⟩⟩
    have hc := World.ownsRow.cellAt h i (by omega)
    rw [k.elem i (by omega)] at hc
    refine ⟨_, _, _, by rw [Nat.zero_add]; exact hc, ?_⟩
    have ho := k.own i (by omega)
    have hmem := getD_mem ls i (by omega)
    have hle := htl.2.2 _ hmem
    have := own_head (m := (ls.getD i []).length) ho ((hw _ hmem).append (by unfold Wf; decide)) (by simp) (by omega) (by omega) ((ls.getD i []).length + 3) (by omega)
    rwa [List.take_left] at this

theorem OwnB.base {w : World} {B C : Nat} {v : Value} {l : List Int} (h : OwnB w C v l) (hB : B ≤ C) : OwnB w B v l := by
  refine ⟨h.1, ?_⟩
  rcases h.2 with e | ⟨g, cap, cur, e, hg, rest⟩
  · exact .inl e
  · exact .inr ⟨g, cap, cur, e, Nat.le_trans hB hg, rest⟩
theorem below_alloc {w : World} (o : Obj) : Below w.heap.size w (w.alloc o) := (Below.refl _ _).alloc (Nat.le_refl _) o

/-- What the second loop keeps: what was lent and not yet looked at stands. -/
def SumsInv (w : World) (B : Nat) (v : Value) (xs : List Value) (gs : List Nat) (ls : List (List Int)) (n j : Nat) (u : World) : Prop :=
  OwnV u B v xs ∧ (∀ i, j ≤ i → i < n → OwnB u B (.slice (some ⟨gs.getD i 0, 0, none⟩) ((ls.getD i []).length + 3) ((ls.getD i []).length + 3)) (ls.getD i [] ++ [71, 72, 73])) ∧ Below w.heap.size w u
theorem asLent_step {w wr : World} {B : Nat} {v : Value} {xs : List Value} {gs : List Nat} {ls : List (List Int)} {n j m c : Nat} {a : Option Addr} (h : SumsInv w B v xs gs ls n j wr) (hB : w.heap.size ≤ B) (hj : j < n) (hm : (ls.getD j []).length = m) (hs : Sl w a m c (ls.getD j [])) (hb : m + 3 ≤ 140737488355328)
    (rise : ∀ i, j < i → i < n → gs.getD j 0 < gs.getD i 0) (u : World) (hu : Below wr.heap.size wr u) :
    Calls Tryd.prog 12 #[.slice (some ⟨gs.getD j 0, 0, none⟩) m (m + 3), .slice a m c] u fun e w6 => e = .returned (.bool true) ∧ SumsInv w B v xs gs ls n (j + 1) w6 := by
  obtain ⟨h1, h2, h3⟩ := h
  have ho := h2 j (Nat.le_refl _) hj
  rw [hm] at ho
  have hou := ho.on (Nat.le_refl _) hu
  have h1u := h1.on (Nat.le_refl _) hu
  have h3u := h3.trans (hu.mono h3.size)
  refine (asLent_any (gs.getD j 0) B m a c (ls.getD j []) u hou (hs.go h3u) hb).mono ?_
  rintro e w6 ⟨rfl, hg⟩
  refine ⟨rfl, World.ownsRow.kept h1u hg (rows_apart' h1u hou), fun i hi hin => ?_, h3u.trans (grown_below hg h3u.size (fun k hk => ?_))⟩
  · refine World.ownsRow.kept ((h2 i (by omega) hin).on (Nat.le_refl _) hu) hg (.inr ?_)
    have := rise i (by omega) hin
    simp only [Value.ownBlock, ne_eq, Option.some.injEq]
    omega
  · have h5 := (World.ownsRow.lt hou (gs.getD j 0) rfl).1
    have := Option.some.inj hk
    omega

set_option maxRecDepth 100000 in
set_option maxHeartbeats 800000 in
theorem walk_InkSums (a0 : Option Addr) (n c0 : Nat) (ls : List (List Int)) (w : World) (ht : Tab w) (h0 : 0 < w.heap.size) (hs : SlS w a0 n c0 ls) (_hn : n ≤ 140737488351232) :
    Calls Tryd.prog 5 #[.slice a0 n c0] w fun e w' => e = .returned (.bool true) ∧ Below w.heap.size w w' := by
  have HL := hidden (live_any w ht h0)
  have HT := hidden ht
  have HS := hidden hs
  have hlen := hs.hlen
  have hcap := hs.hcap
  clear ht hs _hn
  go_enter Tryd.func5, Tryd.ntmps5
  go_wp2_with fail
  refine (great_any _ _ _ ls _ HS.out).mono ?_
  rintro e w' ⟨hG, hw⟩
  rw [hw]
  obtain ⟨g, rfl, hg⟩ := hG
  clear hw
  cases g
  · have htot := hg rfl
    clear hg
    have htl := tot_le ls
    have hwf : ∀ l ∈ ls, Wf l := by
      intro l hl
      obtain ⟨i, hi⟩ := List.getElem?_of_mem hl
      have hil := (List.getElem?_eq_some_iff.1 hi).1
      rcases HS.out.hat with h | ⟨b, off, _, _, hc⟩
      · omega
      · obtain ⟨a, m, c, _, h2⟩ := hc i (by omega)
        have := h2.wf
        rwa [show ls.getD i [] = l by rw [List.getD_eq_getElem?_getD, hi]; rfl] at this
    have HWF := hidden hwf
    have HTL := hidden htl
    have hnt : n ≤ 1000000 := by omega
    clear hwf htl
    go_wp2_with fail
    refine HL.out.mono ?_
    rintro e w1 ⟨rfl, hb1⟩
    have HB1 := hidden hb1
    have z01 := hb1.size
    clear hb1 HL
    go_wp2_with fail
    go_loopw [5, 6, 7] (fun lv av i wr => ∃ (k : Nat) (xs : List Value) (gs : List Nat), k ≤ n ∧ i = .int .i64 k ∧ OwnV wr w1.heap.size lv xs ∧ Hid (Lents wr w1.heap.size xs (ls.take k) gs) ∧ OwnB wr w1.heap.size av ((ls.take k).flatMap id) ∧ Below w1.heap.size w1 wr) (fun _ _ i _ => n - (intOf i).toNat)
    case atStart => exact ⟨0, [], [], by omega, rfl, OwnV.nil _ _, Lents.nil _ _, OwnB.nil _ _, Below.refl _ _⟩
    case round =>
      obtain ⟨k, xs, gs, hk, rfl, hov, HLE, hoa, hbl⟩ := hrel
      have hzr := hbl.size
      have HBr := hidden (HB1.out.trans (hbl.mono z01))
      have hkx : xs.length = k := by have := HLE.out.len; simp at this; omega
      by_cases hkn : k < n
      · rcases HS.out.hat with h | ⟨b, off, rfl, hbb, hc⟩
        · omega
        obtain ⟨a, m, c, hck, hsl⟩ := hc k hkn
        have hml := hsl.hlen
        have HSL := hidden hsl
        have HCK := hidden hck
        have HTS := hidden (take_snocS ls k (by omega))
        have hfl := (HTL.out.2.2 _ (getD_mem ls k (by omega)))
        obtain ⟨FL, hFL⟩ : ∃ FL, FL = (ls.take k).flatMap id := ⟨_, rfl⟩
        have hfk : FL.length ≤ 1000000 := by rw [hFL]; have := (tot_le (ls.take k)).2.1; have := tot_take ls k; omega
        have hflw : Wf FL := by
          rw [hFL]
          intro y hy
          obtain ⟨z, hz, hyz⟩ := List.mem_flatMap.1 hy
          exact HWF.out z (List.mem_of_mem_take hz) y hyz
        rw [← hFL] at hoa
        have HFL := hidden hFL
        clear hFL
        clear hc hsl
        generalize ls.getD k [] = l at *
        have hcr : wr.cell? ⟨b, off + k, none⟩ = some (.slice a m c) := (HBr.out.cell (p := ⟨b, off + k, none⟩) hbb).trans HCK.out
        have HOV := hidden hov
        have HOA := hidden hoa
        clear hov hoa hck
        obtain ⟨aa, ca, rfl, hsa, -⟩ := HOA.out.sl hflw (by omega)
        clear hsa
        have HFW := hidden hflw
        clear hflw
        go_wp2_with fail
        refine (lent_any a m c l _ (HSL.out.go HBr.out)).mono ?_
        rintro e w2 ⟨rfl, hol, hb2⟩
        have HOL := hidden hol
        have HOV2 := hidden ((HOV.out.on (Nat.le_refl _) hb2).on (Nat.le_refl _) (below_alloc (.cells #[.slice (some ⟨wr.heap.size, 0, none⟩) m (m + 3)] 23)))
        have HOA2 := hidden ((HOA.out.on (Nat.le_refl _) hb2).on (Nat.le_refl _) (below_alloc (.cells #[.slice (some ⟨wr.heap.size, 0, none⟩) m (m + 3)] 23)))
        have HOL2 := hidden (hol.on (Nat.le_refl _) (below_alloc (.cells #[.slice (some ⟨wr.heap.size, 0, none⟩) m (m + 3)] 23)))
        have HLE2 := hidden ((HLE.out.on (Nat.le_refl _) hb2).on (Nat.le_refl _) (below_alloc (.cells #[.slice (some ⟨wr.heap.size, 0, none⟩) m (m + 3)] 23)))
        have HGS : Hid (∀ i, i < (ls.take k).length → gs.getD i 0 < wr.heap.size) := fun i hi => (World.ownsRow.lt (HLE.out.own i hi) _ rfl).2
        have hz2 := hb2.size
        have HBl2 := hidden (hbl.trans (hb2.mono hzr))
        clear hol hb2 HOV HOA HLE hbl HBr
        go_wp2_with (at_builtin; refine app_val _ rfl _ _ rfl w1.heap.size xs _ rfl HOV2.out w2.heap.size m (m + 3) rfl (some ⟨wr.heap.size, 0, none⟩) (lit_cell _ _ _ _ _ _ rfl) (by omega) (by simp; omega) ?_)
        intro lv2 w3 hov3 hg3
        have HOA3 := hidden (World.ownsRow.kept HOA2.out hg3 (rows_apart HOV2.out HOA2.out))
        have HOL3 : Hid (OwnB w3 wr.heap.size (.slice (some ⟨wr.heap.size, 0, none⟩) (m + 3) (m + 3)) (l ++ [71, 72, 73])) := World.ownsRow.kept HOL2.out hg3 (rows_apart HOV2.out HOL2.out)
        have HLE3 := hidden (HLE2.out.grown HOV2.out hg3)
        have HBl3 := hidden ((HBl2.out.alloc (by omega) _).trans (grown_below hg3 (by simp; omega) (fun q hq => (World.ownsRow.lt HOV2.out q hq).1)))
        have HB3 := hidden (HB1.out.trans (HBl3.out.mono z01))
        have hcr3 : w3.cell? ⟨b, off + k, none⟩ = some (.slice a m c) := (HB3.out.cell (p := ⟨b, off + k, none⟩) hbb).trans HCK.out
        have hz3 := hg3.size
        simp only [World.size_alloc] at hz3
        have HOV3 := hidden hov3
        obtain ⟨aa3, ca3, hev, hsa3, -⟩ := OwnB.sl (l := FL) HOA3.out HFW.out (by omega)
        cases hev
        have HSA3 := hidden hsa3
        clear hov3 hg3 hcr HOA2 HOL2 HLE2 HOV2 HBl2 HOA3 hsa3
        go_wp2_with fail
        refine (both_any _ _ _ _ _ _ FL l _ HSA3.out (HSL.out.go HB3.out) (by omega)).mono ?_
        rintro e w4 ⟨av2, rfl, hoa4, hb4⟩
        have hz4 := hb4.size
        have hoa5 := hoa4.base (B := w1.heap.size) (by omega)
        have HOV4 := hidden (HOV3.out.on (Nat.le_refl _) hb4)
        have HLE4 := hidden ((HLE3.out.on (Nat.le_refl _) hb4).snoc (l := l) (g := wr.heap.size) hzr (by rw [hml]; exact HOL3.out.on (Nat.le_refl _) hb4) HGS.out)
        have HBl4 := hidden (HBl3.out.trans (hb4.mono (by omega)))
        clear hoa4 hb4 HOV3 HLE3 HOL3 HBl3 HSA3 hcr3
        go_wp2
        go_roundw
        case rel => exact ⟨k + 1, _, _, by omega, by go_num, HOV4.out, by rw [HTS.out]; rw [hml] at HLE4; exact HLE4.out, by rw [HTS.out, List.flatMap_append, ← HFL.out]; simpa using hoa5, HBl4.out⟩
        case measure => simp [intOf]; omega
      · have htk : ls.take k = ls := List.take_of_length_le (by omega)
        rw [htk] at HLE hoa
        have hdk : decide (k < n) = false := by simp; omega
        obtain ⟨FL, hFL⟩ : ∃ FL, FL = ls.flatMap id := ⟨_, rfl⟩
        have hflw : Wf FL := by
          rw [hFL]
          intro y hy
          obtain ⟨z, hz, hyz⟩ := List.mem_flatMap.1 hy
          exact HWF.out z hz y hyz
        have hfl : FL.length ≤ tot ls := by rw [hFL]; exact HTL.out.2.1
        rw [← hFL] at hoa
        obtain ⟨al, cl, rfl, hss⟩ := lents_sls hov HLE.out hlen HWF.out htot
        obtain ⟨aa, ca, rfl, hsa, -⟩ := hoa.sl hflw (by omega)
        have E1 := hidden (show sumN ls = 4294967295 ^^^ crS 4294967295 ls by
          show 4294967295 ^^^ _ = _
          rw [sumN_eq ls _ (by omega) HWF.out])
        have E2 := hidden (show (crS 4294967295 ls ^^^ 4294967295 : Nat) = 4294967295 ^^^ crS 4294967295 ls from Nat.xor_comm _ _)
        have E3 := hidden (show sumN [FL] = 4294967295 ^^^ crS 4294967295 ls by
          show 4294967295 ^^^ tk _ _ = _
          rw [tk_eq _ _ (by omega) (nat_lt _ hflw), crS_flat, hFL])
        have HSS := hidden hss
        have HSA := hidden hsa
        have HOV := hidden hov
        clear htk hflw hss hsa hoa hov hbl hFL
        generalize (4294967295 ^^^ crS 4294967295 ls : Nat) = SA at *
        go_wp2_with fail
        refine quiet_call' (sum_any _ n cl ls _ HSS.out (HT.out.on HBr.out h0)) ?_
        rw [E1.out]
        intro q1
        go_wp2_with fail
        refine same_call (refSum_any _ _ _ ls _ (HS.out.go (below_drewN HBr.out q1))) ?_
        rw [E2.out]
        have HB2 := hidden (below_drewN HBr.out q1)
        have HSA2 := hidden (HSA.out.drewN q1)
        have HOV2 := hidden (HOV.out.on (Nat.le_refl _) (below_drewN (Below.refl wr.heap.size wr) q1))
        have HLE2 := hidden (HLE.out.on (Nat.le_refl _) (below_drewN (Below.refl wr.heap.size wr) q1))
        clear HBr HSA HOV HLE HSS
        generalize wr.drewN q1 = w2 at *
        go_wp2_with fail
        have HB3 := hidden (HB2.out.alloc HB2.out.size (.cells #[.slice aa FL.length ca] 23))
        refine quiet_call' (sum_any _ 1 1 [FL] _ (sls_one w2 aa _ ca _ HSA2.out _ rfl) (HT.out.on HB3.out h0)) ?_
        rw [E3.out]
        intro q2
        have HB4 := hidden (below_drewN HB3.out q2)
        have HOV4 := hidden ((HOV2.out.on (Nat.le_refl _) (below_alloc (.cells #[.slice aa FL.length ca] 23))).on (Nat.le_refl _) (below_drewN (Below.refl _ _) q2))
        have HLE4 := hidden ((HLE2.out.on (Nat.le_refl _) (below_alloc (.cells #[.slice aa FL.length ca] 23))).on (Nat.le_refl _) (below_drewN (Below.refl _ _) q2))
        clear HB2 HB3 HSA2 HOV2 HLE2 E1 E2 E3
        generalize (w2.alloc (.cells #[.slice aa FL.length ca] 23)).drewN q2 = w5 at *
        go_wp2_with fail
        go_loopw [12] (fun i wq => ∃ j : Nat, j ≤ n ∧ i = .int .i64 j ∧ SumsInv w w1.heap.size (.slice al n cl) xs gs ls n j wq) (fun i _ => n - (intOf i).toNat)
        case atStart => exact ⟨0, by omega, rfl, HOV4.out, fun i _ hi => HLE4.out.own i (by omega), HB4.out⟩
        case round =>
          obtain ⟨j, hj, rfl, hinv⟩ := hrel
          by_cases hjn : j < n
          · rcases HS.out.hat with h | ⟨b, off, rfl, hbb, hc⟩
            · omega
            obtain ⟨a, m, c, hck, hsl⟩ := hc j hjn
            have hml := hsl.hlen
            have hcp : wr.cell? ⟨b, off + j, none⟩ = some (.slice a m c) := (hinv.2.2.cell (p := ⟨b, off + j, none⟩) hbb).trans hck
            obtain ⟨gl, rfl⟩ : ∃ g, al = some ⟨g, 0, none⟩ := by
              rcases hinv.1.2 with ⟨h, _⟩ | ⟨g, cap, cur, h, _⟩
              · simp only [Value.slice.injEq] at h; omega
              · simp only [Value.slice.injEq] at h; exact ⟨g, h.1⟩
            have hxl : xs.length = n := by omega
            have hcl : wr.cell? ⟨gl, j, none⟩ = some (.slice (some ⟨gs.getD j 0, 0, none⟩) m (m + 3)) := by
              have h2 : wr.ownsRow w1.heap.size 23 1 (.slice (some ⟨gl, 0, none⟩) n cl) n xs := by have h3 := hinv.1; unfold OwnV at h3; rw [hxl] at h3; exact h3
              rw [World.ownsRow.cellAt h2 j (by omega), HLE4.out.elem j (by omega), hml]
            have hfl2 := (HTL.out.2.2 _ (getD_mem ls j (by omega)))
            rw [hml] at hfl2
            have HAS := hidden (asLent_step hinv z01 hjn hml hsl (by omega) (fun i h1 h2 => HLE4.out.rise j i h1 (by omega)))
            clear hc hck hsl hinv hml
            generalize gs.getD j 0 = gj at *
            go_wp2_with fail
            go_region_with (first | (go_at_call 12; refine (HAS.out _ ?_).mono ?_; (repeat (first | exact Below.refl _ _ | apply Below.drew | apply below_drewN)); rintro e w6 ⟨rfl, hinv6⟩))
            all_goals
              go_wp2
              go_roundw
              case rel => exact ⟨j + 1, by omega, by go_num, by assumption⟩
              case measure => simp [intOf]; omega
          · go_wp2
            go_ret
            exact ⟨rfl, hinv.2.2⟩
  · clear hg
    go_wp2
    go_ret
    exact ⟨rfl, Below.refl _ _⟩
end Go.Proofs.YtfofkgdhepdjeabDoor
