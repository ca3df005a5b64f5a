/- The law's lent and asLent: ints that are lent. -/
import Derived.Test.YtehcemefhgebpaaDoorVh
import Derived.Deep.OwnRows
import Derived.Laws.CopyOwn
import Derived.BigQuiet
namespace Go.Proofs.YtehcemefhgebpaaDoor
open Go.RowKit

set_option maxRecDepth 100000 in
theorem made_row {w : World} {e n g : Nat} {z : Value} (h : w.ownsRow 0 e 1 (.slice (some ⟨g, 0, none⟩) n n) n (madeCells #[z] n).toList) : w.heap[g]? = some (.cells (List.replicate n z).toArray e (0, 0)) := by
  rcases h.2 with ⟨h, _⟩ | ⟨g, c, cur, h, _, hh, _, _, hs, ht⟩
  · cases h
  · cases h
    rw [hh]
    congr 2
    apply Array.toList_inj.1
    rw [toList_madeCells_one] at ht
    simp only [Nat.mul_one] at hs ht
    rw [List.take_of_length_le (by simp [hs])] at ht
    simpa using ht

set_option maxRecDepth 100000 in
theorem IV_length (l : List Int) : (IV l).length = l.length := by simp [IV]
set_option maxRecDepth 100000 in
theorem IV_one (l : List Int) : ∀ v ∈ IV l, v.oneCell' = true := by
  intro v hv
  unfold IV at hv
  obtain ⟨x, _, rfl⟩ := List.mem_map.1 hv
  rfl
set_option maxRecDepth 100000 in
theorem slz_src {w : World} {b off n c : Nat} {l : List Int} (h : SlZ w (some ⟨b, off, none⟩) n c l) : ∀ j v, (IV l)[j]? = some v → w.cell? ((⟨b, off, none⟩ : Addr).add j) = some v := by
  intro j v hv
  unfold IV at hv
  rw [List.getElem?_map] at hv
  have hl := h.hlen
  cases e : l[j]? with
  | none => rw [e] at hv; cases hv
  | some x =>
    rw [e] at hv
    cases hv
    have hj := (List.getElem?_eq_some_iff.1 e).1
    rcases h.hat with h0 | ⟨b', off', e', _, hc⟩
    · omega
    · cases e'
      have := hc j (by omega)
      rw [Addr.add_lit, this, List.getD, e]
      rfl
set_option maxRecDepth 100000 in
set_option maxHeartbeats 1000000 in
theorem lentZ_any (ao : Option Addr) (n cap : Nat) (l : List Int) (w : World) (hs : SlZ w ao n cap l) (h8 : n ≤ 17592186044416) :
    Calls Tryd.prog 18 #[.slice ao n cap] w fun e w' => e = .returned (.slice (some ⟨w.heap.size, 0, none⟩) n (n + 2)) ∧ Hid (Bj w' w.heap.size (l ++ [-71, -72])) ∧ Hid (Below w.heap.size w w') := by
  obtain ⟨i0, hi, hz0, hz1, hz2⟩ := info_parts info64
  have hsz : (Tryd.prog.info? 3).map (·.size) = some 1 := by rw [hi]; simp [hz1]
  have HS := hidden hs
  have HLEN := hidden hs.hlen
  clear hs
  go_enter Tryd.func18, Tryd.ntmps18
  go_wp2_with (at_make; refine wpList_make_full _ rfl _ _ 22 rfl 0 3 i0 (.int .i64 0) 1 Tryd.underlying22 hi hz0 hz1 .i64 .i64 (n + 2) (n + 2) (n + 2) rfl rfl rfl rfl (by rw [hz2]; omega) (by unfold maxLen; omega) (Nat.zero_le _) ?_)
  intro w1 hown1 hg1
  have HR1 := hidden (made_row hown1)
  have HB1 : Hid (Below w.heap.size w w1) := hidden ((Below.refl _ _).grown hg1 (Nat.le_refl _) (fun k hk => by cases hk))
  clear hown1 hg1 hi hz0 hz1 hz2
  have HP : Hid (0 < (IV l).length → some (⟨w.heap.size, 0, none⟩ : Addr) = some ⟨w.heap.size, 0, none⟩ ∧ ∃ ad, ao = some ad ∧ ∀ j v, (IV l)[j]? = some v → w1.cell? (ad.add j) = some v) := by
    refine hidden fun h => ?_
    rw [IV_length] at h
    have h1 := HS.out.on (Nat.le_refl _) HB1.out
    rcases HS.out.hat with h0 | ⟨b, off, rfl, hbb, hc⟩
    · rw [HLEN.out] at h; omega
    · exact ⟨rfl, _, rfl, slz_src h1⟩
  obtain ⟨cur, hcur⟩ : ∃ cur, List.replicate (n + 2) (Value.int .i64 0) = cur := ⟨_, rfl⟩
  rw [hcur] at HR1
  have HCL : Hid (cur.length = n + 2) := hidden (by rw [← hcur]; simp)
  have HCUR := hidden hcur
  clear hcur
  go_wp2_with (refine wpList_copy_splice rfl _ _ 22 22 rfl 3 Tryd.underlying22 hsz _ _ (n + 2) (n + 2) n cap rfl rfl w.heap.size 0 cur 3 HR1.out (IV l) (by rw [IV_length, HLEN.out]; exact (Nat.min_eq_left (by omega)).symm) HP.out (by rw [IV_length, HLEN.out, HCL.out]; omega) (IV_one l) w.heap.size w HB1.out (Nat.le_refl _) ?_; refine Hid.out ?_)
  apply hidden
  intro w2 hh hb2
  have HR2 : Hid (Bj w2 w.heap.size (l ++ [0, 0])) := hidden (by
    unfold Bj
    rw [hh.out, ← HCUR.out]
    simp only [splice, IV_length, HLEN.out, List.take_zero, List.nil_append, Nat.zero_add, List.drop_replicate, show n + 2 - n = 2 by omega]
    simp only [IV, List.map_append]
    rfl)
  have HB2 := hidden hb2
  have hlt2 : w.heap.size < w2.heap.size := lt_some HR2.out
  have hl2 : (l ++ [0, 0] : List Int).length = n + 2 := by rw [List.length_append, HLEN.out]; rfl
  have c0 := HR2.out.cell n (by omega)
  have c1 := HR2.out.cell (n + 1) (by omega)
  have f0 := HR2.out.free n
  have f1 := HR2.out.free (n + 1)
  obtain ⟨y0, hy0⟩ : ∃ y, (l ++ [0, 0] : List Int).getD n 0 = y := ⟨_, rfl⟩
  obtain ⟨y1, hy1⟩ : ∃ y, (l ++ [0, 0] : List Int).getD (n + 1) 0 = y := ⟨_, rfl⟩
  rw [hy0] at c0
  rw [hy1] at c1
  have HEND : Hid (Bj ((w2.setCell ⟨w.heap.size, n, none⟩ (.int .i64 (-71))).setCell ⟨w.heap.size, n + 1, none⟩ (.int .i64 (-72))) w.heap.size (l ++ [-71, -72])) := hidden (by
    have := (HR2.out.set (i := n) (-71)).set (i := n + 1) (-72)
    have e : ((l ++ [0, 0]).set n (-71)).set (n + 1) (-72) = l ++ [-71, -72] := by
      rw [List.set_append_right _ _ (by rw [HLEN.out]; omega), List.set_append_right _ _ (by rw [HLEN.out]; omega), HLEN.out, Nat.sub_self, show n + 1 - n = 1 by omega]
      rfl
    rw [e] at this
    exact this)
  have HBE : Hid (Below w.heap.size w ((w2.setCell ⟨w.heap.size, n, none⟩ (.int .i64 (-71))).setCell ⟨w.heap.size, n + 1, none⟩ (.int .i64 (-72)))) := hidden ((HB2.out.setCell (Nat.le_refl _) _).setCell (Nat.le_refl _) _)
  clear hh hb2 HP HCUR HCL HR1 HB1 HS HR2 HB2 hy0 hy1 hl2
  go_wp2_with fail
  go_ret
  exact ⟨rfl, HEND, HBE⟩
end Go.Proofs.YtehcemefhgebpaaDoor

/- The law's asLent. -/

namespace Go.Proofs.YtehcemefhgebpaaDoor
open Go.RowKit

set_option maxRecDepth 100000 in
theorem ow_step (X : List Int) (k : Nat) (c : Int) (h : k < X.length) : (List.replicate k c ++ X.drop k).set k c = List.replicate (k + 1) c ++ X.drop (k + 1) := by
  rw [List.set_append_right _ _ (by simp), List.length_replicate, Nat.sub_self, List.drop_eq_getElem_cons h, List.set_cons_zero, List.replicate_succ', List.append_assoc]
  rfl
set_option maxRecDepth 100000 in
theorem ow_len (X : List Int) (k : Nat) (c : Int) (h : k ≤ X.length) : (List.replicate k c ++ X.drop k).length = X.length := by simp; omega
set_option maxRecDepth 100000 in
theorem Bj.slz2 {w : World} {g n : Nat} {l r : List Int} (h : Bj w g (l ++ r)) (hl : l.length = n) (hb : n ≤ 140737488355328) (hw : ∀ x ∈ l, -9223372036854775808 ≤ x ∧ x ≤ 9223372036854775807) (c : Nat) (hc : n ≤ c) : SlZ w (some ⟨g, 0, none⟩) n c l := by
  refine ⟨hl, hb, hw, hc, .inr ⟨g, 0, rfl, lt_some h, fun i hi => ?_⟩⟩
  rw [Nat.zero_add, h.cell i (by rw [List.length_append]; omega)]
  simp [List.getD, List.getElem?_append_left (show i < l.length by omega)]
set_option maxRecDepth 100000 in
set_option maxHeartbeats 1000000 in
theorem asLentZ_any (g n : Nat) (bo : Option Addr) (d : Nat) (l : List Int) (w : World) (hr : Bj w g (l ++ [-71, -72])) (hb : SlZ w bo n d l) :
    Calls Tryd.prog 22 #[.slice (some ⟨g, 0, none⟩) n (n + 2), .slice bo n d] w fun e w' => e = .returned (.bool true) ∧ Hid (Cf (· = g) w w') := by
  have hlen := hb.hlen
  have hbig := hb.hbig
  have HSL : Hid (SlZ w (some ⟨g, 0, none⟩) n (n + 2) l) := hidden (hr.slz2 hlen hbig hb.wf (n + 2) (by omega))
  have HSB := hidden hb
  have HSM : Hid (Calls Tryd.prog 17 #[.slice (some ⟨g, 0, none⟩) n (n + 2), .slice bo n d] w fun e u => e = .returned (.bool true) ∧ Hid (Below w.heap.size w u)) := hidden (by
    refine (sameZ_any _ _ n n (n + 2) d l l w HSL.out HSB.out).mono ?_
    rintro e u ⟨rfl, m, rfl⟩
    exact ⟨by simp, hidden (bl_dr (Below.refl _ _) m)⟩)
  obtain ⟨X, hX⟩ : ∃ X, l ++ [-71, -72] = X := ⟨_, rfl⟩
  have HXL : Hid (X.length = n + 2) := hidden (by rw [← hX, List.length_append, hlen]; rfl)
  have e0 : X.getD n 0 = -71 := by rw [← hX]; simp [List.getD, ← hlen]
  have e1 : X.getD (n + 1) 0 = -72 := by rw [← hX]; simp [List.getD, ← hlen]
  rw [hX] at hr
  have HR := hidden hr
  have HE0 := hidden e0
  have HE1 := hidden e1
  clear hr hb hX hlen e0 e1
  go_enter Tryd.func22, Tryd.ntmps22
  go_wp2_with (go_at_call 17; refine HSM.out.mono ?_; rintro e w1 ⟨rfl, HB1⟩; refine Hid.out ?_)
  apply hidden
  have HR0 : Hid (Bj w1 g X) := hidden (HR.out.on HB1.out)
  have HC0 : Hid (Cf (· = g) w w1) := hidden (Cf.of_below HB1.out)
  have c0 := HR0.out.cell n (by rw [HXL.out]; omega)
  have c1 := HR0.out.cell (n + 1) (by rw [HXL.out]; omega)
  rw [HE0.out] at c0
  rw [HE1.out] at c1
  clear HSM HSL HSB HR HE0 HE1 HB1
  go_wp2_with fail
  clear c0 c1
  go_loopw [8] (fun i wr => ∃ k : Nat, k ≤ n + 2 ∧ i = .int .i64 (k : Int) ∧ Hid (Bj wr g (List.replicate k (-5) ++ X.drop k)) ∧ Hid (Cf (· = g) w wr)) (fun i _ => n + 2 - (RowKit.intOf i).toNat)
  case atStart => exact ⟨0, by omega, rfl, by simpa using HR0, HC0⟩
  case round =>
    obtain ⟨k, hk, rfl, HW, HB⟩ := hrel
    have hlk : (List.replicate k (-5) ++ X.drop k).length = n + 2 := by rw [ow_len _ _ _ (by rw [HXL.out]; exact hk), HXL.out]
    by_cases hlt : k < n + 2
    · have hlt' : (k : Int) < (n : Int) + 2 := by omega
      have f := HW.out.free k
      have cy := HW.out.cell k (by rw [hlk]; exact hlt)
      obtain ⟨y, hy⟩ : ∃ y, (List.replicate k (-5) ++ X.drop k).getD k 0 = y := ⟨_, rfl⟩
      rw [hy] at cy
      have HW2 : Hid (Bj (wr.setCell ⟨g, k, none⟩ (.int .i64 (-5))) g (List.replicate (k + 1) (-5) ++ X.drop (k + 1))) := hidden (by
        rw [← ow_step _ _ _ (by rw [HXL.out]; exact hlt)]
        exact HW.out.set (-5))
      have HB2 : Hid (Cf (· = g) w (wr.setCell ⟨g, k, none⟩ (.int .i64 (-5)))) := hidden (HB.out.go (Cf.setCell (F := (· = g)) wr (p := ⟨g, k, none⟩) rfl _))
      clear hy hlk
      go_wp2_with fail
      go_roundw
      case rel => exact ⟨k + 1, by omega, by go_num, HW2, HB2⟩
      case measure => simp [RowKit.intOf]; omega
    · have hge : ¬ ((k : Int) < (n : Int) + 2) := by omega
      clear hlk
      go_wp2_with fail
      go_ret
      exact ⟨rfl, HB⟩
end Go.Proofs.YtehcemefhgebpaaDoor
