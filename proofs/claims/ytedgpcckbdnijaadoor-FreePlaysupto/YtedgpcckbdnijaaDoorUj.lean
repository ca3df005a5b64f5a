/- free.New. -/
import Derived.Test.YtedgpcckbdnijaaDoorUi
namespace Go.Proofs.YtedgpcckbdnijaaDoor
open Go.RowKit Go.Maps

/-- The slice value reads as the ints l, wherever it lies. -/
structure SlZ (w : World) (ao : Option Addr) (n cap : Nat) (l : List Int) : Prop where
  hlen : l.length = n
  hbig : n ≤ 140737488355328
  wf : ∀ x ∈ l, -9223372036854775808 ≤ x ∧ x ≤ 9223372036854775807
  hcap : n ≤ cap
  hat : n = 0 ∨ ∃ b off, ao = some ⟨b, off, none⟩ ∧ b < w.heap.size ∧ ∀ i, i < n → w.cell? ⟨b, off + i, none⟩ = some (.int .i64 (l.getD i 0))
set_option maxRecDepth 100000 in
theorem SlZ.on {w u : World} {ao : Option Addr} {n cap : Nat} {l : List Int} {B : Nat} (h : SlZ w ao n cap l) (hB : w.heap.size ≤ B) (hb : Below B w u) : SlZ u ao n cap l := by
  refine ⟨h.hlen, h.hbig, h.wf, h.hcap, h.hat.imp id ?_⟩
  rintro ⟨b, off, rfl, hlt, hc⟩
  refine ⟨b, off, rfl, Nat.lt_of_lt_of_le hlt hb.size, fun i hi => ?_⟩
  rw [← hc i hi]
  exact World.cell?_of_block (hb.block b (by omega))
set_option maxRecDepth 100000 in
theorem SlZ.cf {w u : World} {ao : Option Addr} {n cap : Nat} {l : List Int} {F : Nat → Prop} (h : SlZ w ao n cap l) (hc : Cf F w u) (hf : n = 0 ∨ ∀ p, ao = some p → ¬ F p.block) : SlZ u ao n cap l := by
  refine ⟨h.hlen, h.hbig, h.wf, h.hcap, ?_⟩
  rcases h.hat with h0 | ⟨b, off, e, hlt, hcc⟩
  · exact .inl h0
  · rcases hf with h0 | hf
    · exact .inl h0
    · refine .inr ⟨b, off, e, Nat.lt_of_lt_of_le hlt hc.size, fun i hi => ?_⟩
      rw [← hcc i hi]
      exact World.cell?_of_block (hc.block b hlt (hf _ e))
set_option maxRecDepth 100000 in
theorem SlZ.at {w : World} {ao : Option Addr} {n cap : Nat} {l : List Int} (h : SlZ w ao n cap l) {i : Nat} (hi : i < n) : ∃ b off, ao = some ⟨b, off, none⟩ ∧ w.cell? ⟨b, off + i, none⟩ = some (.int .i64 (l.getD i 0)) := by
  rcases h.hat with h0 | ⟨b, off, e, _, hc⟩
  · omega
  · exact ⟨b, off, e, hc i hi⟩
set_option maxRecDepth 100000 in
theorem takeZ (l : List Int) (i : Nat) (hi : i < l.length) : l.take (i + 1) = l.take i ++ [l.getD i 0] := by
  rw [List.take_add_one, List.getD, List.getElem?_eq_getElem hi]
  rfl
set_option maxRecDepth 100000 in
theorem getD_mem (l : List Int) (i : Nat) (hi : i < l.length) : l.getD i 0 ∈ l := by
  rw [List.getD, List.getElem?_eq_getElem hi]
  exact List.getElem_mem hi
abbrev isPg (x : Int) : Prop := 2 ≤ x ∧ x < 65536
/-- What New answers. -/
def newE (l : List Int) : Int := if ∀ x ∈ l, isPg x then (if l.Nodup then 0 else 100) else 30
/-- These pages are free. -/
def KL (l : List Int) : Int → Option Int := fun x => if x ∈ l then some 0 else none
set_option maxRecDepth 100000 in
theorem KL_nil : KL [] = fun _ => none := by funext x; simp [KL]
set_option maxRecDepth 100000 in
theorem KL_snoc (l : List Int) (p : Int) : setK (KL l) p 0 = KL (l ++ [p]) := by
  funext x
  unfold setK putK KL
  rw [if_neg (by decide)]
  by_cases e : x = p
  · simp [e]
  · simp [e]
set_option maxRecDepth 100000 in
theorem build_list (m : Nat) : Tryd.zeroCells63.setIfInBounds 0 (.map (some m)) = (lsC m (fun _ => 0) (.slice none 0 0) 0).toArray := by kernel_rfl
set_option maxRecDepth 100000 in
theorem no_bits (p : Nat) : bitOf (fun _ => 0) p = false := by unfold bitOf; exact Nat.zero_testBit _
set_option maxRecDepth 100000 in
theorem new_made (w : World) : Fl ((w.alloc (.map #[] 0)).alloc (.cells (lsC w.heap.size (fun _ => 0) (.slice none 0 0) 0).toArray 63)) (w.heap.size + 1) w.heap.size (.slice none 0 0) 0 (fun _ => none) [] := by
  have e1 : (w.alloc (.map #[] 0)).heap.size = w.heap.size + 1 := by simp
  have hbx := al_row (w.alloc (.map #[] 0)) (.cells (lsC w.heap.size (fun _ => 0) (.slice none 0 0) 0).toArray 63)
  rw [e1] at hbx
  have hmk : MK ((w.alloc (.map #[] 0)).alloc (.cells (lsC w.heap.size (fun _ => 0) (.slice none 0 0) 0).toArray 63)) w.heap.size (fun _ => none) := (MK.made w).on ((Below.refl _ _).alloc (Nat.le_refl _) _)
  exact ⟨⟨⟨fun _ => 0, hbx, fun _ => (by show 0 < 18446744073709551616; decide), fun p _ => by rw [no_bits]; rfl⟩, hmk, fun _ _ h => (by cases h)⟩, OwnM.nil _, fun _ h => (by cases h), List.Pairwise.nil⟩
set_option maxRecDepth 100000 in
set_option maxHeartbeats 2000000 in
theorem new_any (w : World) (ao : Option Addr) (n cap : Nat) (l : List Int) (hs : SlZ w ao n cap l) :
    Calls Tryd.prog 6 #[.slice ao n cap] w fun e u => ∃ p, e = .returned (.tuple #[.pointer p, .int .i64 (newE l)]) ∧ Hid (Below w.heap.size w u ∧ ((newE l = 0 ∧ ∃ b m, p = some ⟨b, 0, none⟩ ∧ w.heap.size ≤ b ∧ w.heap.size ≤ m ∧ Fl u b m (.slice none 0 0) 0 (KL l) []) ∨ (newE l ≠ 0 ∧ p = none))) := by
  have hmm := @run_makeMap Tryd.prog
  have HS := hidden hs
  have hn := hs.hbig
  have HLN := hidden hs.hlen
  have HWF := hidden hs.wf
  obtain ⟨E, hE⟩ : ∃ E, newE l = E := ⟨_, rfl⟩
  have HE := hidden hE
  rw [hE]
  clear hs hE
  go_enter Tryd.func6, Tryd.ntmps6
  go_wp2_with fail
  go_loopw [5, 11] (fun _ i wr => wr = w ∧ ∃ j : Nat, j ≤ n ∧ i = .int .i64 (j : Int) ∧ Hid (∀ x ∈ l.take j, isPg x)) (fun _ i _ => n - (RowKit.intOf i).toNat)
  case atStart => exact ⟨rfl, 0, by omega, rfl, hidden (fun x hx => by simp at hx)⟩
  case round =>
    obtain ⟨rfl, j, hj, rfl, HA⟩ := hrel
    by_cases hlt : j < n
    · have hltI : (j : Int) < (n : Int) := by omega
      obtain ⟨b0, off0, rfl, hc⟩ := HS.out.at hlt
      have hm := getD_mem l j (by rw [HLN.out]; exact hlt)
      have HT := hidden (takeZ l j (by rw [HLN.out]; exact hlt))
      have HM := hidden hm
      clear hm
      generalize l.getD j 0 = p at *
      have hip := isPage_any p wr
      by_cases hp : isPg p
      · have e1 : decide (2 ≤ p ∧ p < 65536) = true := by simpa [isPg] using hp
        rw [e1] at hip
        go_wp2_with (go_at_call 23; refine same_call hip ?_)
        go_roundw
        case rel => exact ⟨trivial, j + 1, by omega, by go_num, hidden (fun x hx => by
          rw [HT.out] at hx
          rcases List.mem_append.1 hx with hx | hx
          · exact HA.out x hx
          · simp at hx; rw [hx]; exact hp)⟩
        case measure => simp [RowKit.intOf]; omega
      · have e1 : decide (2 ≤ p ∧ p < 65536) = false := by simpa [isPg] using hp
        rw [e1] at hip
        have HE30 : Hid (E = 30) := hidden (by rw [← HE.out]; unfold newE; rw [if_neg (fun h => hp (h p HM.out))])
        go_wp2_with (go_at_call 23; refine same_call hip ?_)
        go_returns
        exact ⟨none, by rw [HE30.out]; rfl, hidden ⟨Below.refl _ _, .inr ⟨by rw [HE30.out]; decide, rfl⟩⟩⟩
    · obtain rfl : j = n := by omega
      have HP : Hid (∀ x ∈ l, isPg x) := hidden (by have := HA.out; rwa [List.take_of_length_le (by rw [HLN.out]; exact Nat.le_refl _)] at this)
      clear HA
      have HN := hidden (new_made wr)
      rw [← build_list] at HN
      go_wp2_with fail
      generalize Tryd.zeroCells63.setIfInBounds 0 (.map (some wr.heap.size)) = A at HN ⊢
      have HB0 : Hid (Below wr.heap.size wr ((wr.alloc (.map #[] 0)).alloc (.cells A 63))) := hidden (((Below.refl _ wr).alloc (Nat.le_refl _) _).alloc (by simp) _)
      generalize (wr.alloc (.map #[] 0)).alloc (.cells A 63) = w1 at HN HB0 ⊢
      have HW0 : Hid (wr.heap.size ≤ wr.heap.size + 1) := hidden (Nat.le_succ _)
      obtain ⟨b, hb⟩ : ∃ b, wr.heap.size + 1 = b := ⟨_, rfl⟩
      obtain ⟨m, hm⟩ : ∃ m, wr.heap.size = m := ⟨_, rfl⟩
      have HBM : Hid (wr.heap.size ≤ b ∧ wr.heap.size ≤ m) := hidden (by omega)
      rw [hb, hm] at HN
      rw [hb]
      clear hb hm HW0
      go_loopw [8, 24] (fun _ i u => ∃ k : Nat, k ≤ j ∧ i = .int .i64 (k : Int) ∧ Hid (Fl u b m (.slice none 0 0) 0 (KL (l.take k)) []) ∧ Hid (Below wr.heap.size wr u) ∧ Hid (l.take k).Nodup) (fun _ i _ => j - (RowKit.intOf i).toNat)
      case atStart => exact ⟨0, by omega, rfl, by rw [List.take_zero, KL_nil]; exact HN, HB0, hidden (by simp)⟩
      case round =>
        obtain ⟨k, hk, rfl, HF, HBk, HND⟩ := hrel
        rename_i u
        by_cases hlt2 : k < j
        · have hltI : (k : Int) < (j : Int) := by omega
          have HSU := hidden (HS.out.on (Nat.le_refl _) HBk.out)
          obtain ⟨b0, off0, rfl, hc⟩ := HSU.out.at hlt2
          have hm := getD_mem l k (by rw [HLN.out]; exact hlt2)
          have HT := hidden (takeZ l k (by rw [HLN.out]; exact hlt2))
          have hp := HP.out _ hm
          clear hm HSU
          generalize l.getD k 0 = p at *
          obtain ⟨pn, rfl⟩ : ∃ pn : Nat, p = (pn : Int) := ⟨p.toNat, by unfold isPg at hp; omega⟩
          have hpn : 2 ≤ pn ∧ pn < 65536 := by unfold isPg at hp; omega
          have HH := hidden (has_any HF.out.fs (pn : Int) (by omega))
          have HSET := hidden (HF.out.set pn hpn 0 (by decide))
          by_cases hin : (pn : Int) ∈ l.take k
          · have e1 : ((KL (l.take k)) (pn : Int)).isSome = true := by unfold KL; rw [if_pos hin]; rfl
            rw [e1] at HH
            have HE1 : Hid (E = 100) := hidden (by
              rw [← HE.out]
              unfold newE
              rw [if_pos HP.out, if_neg]
              intro hnd
              have h1 : (l.take (k + 1)).Nodup := (List.take_sublist _ _).nodup hnd
              rw [HT.out] at h1
              exact (List.nodup_append.1 h1).2.2 _ hin _ (by simp) rfl)
            clear hp
            go_wp2_with (go_at_call 24; refine same_call HH.out ?_)
            go_returns
            exact ⟨none, by rw [HE1.out]; rfl, hidden ⟨HBk.out, .inr ⟨by rw [HE1.out]; decide, rfl⟩⟩⟩
          · have e1 : ((KL (l.take k)) (pn : Int)).isSome = false := by unfold KL; rw [if_neg hin]; rfl
            rw [e1] at HH
            have HN1 : Hid (l.take (k + 1)).Nodup := hidden (by
              rw [HT.out, List.nodup_append]
              exact ⟨HND.out, by simp, fun a ha c hc' => by simp at hc'; rw [hc']; exact fun e => hin (e ▸ ha)⟩)
            have HTK : Hid (setK (KL (l.take k)) (pn : Int) 0 = KL (l.take (k + 1))) := hidden (by rw [HT.out, KL_snoc])
            rw [HTK.out] at HSET
            clear hp
            go_wp2_with (first
              | (go_at_call 24; refine same_call HH.out ?_)
              | (go_at_call 25; refine HSET.out.mono ?_; rintro e u2 ⟨rfl, HU⟩))
            go_roundw
            case rel => exact ⟨k + 1, by omega, by go_num, hidden HU.out.1, hidden (HBk.out.trans (HU.out.2.below (Nat.le_trans (Nat.le_refl _) HBk.out.size) (fun x hx e => by
              have := HBM.out
              rcases e with e | e <;> omega))), HN1⟩
            case measure => simp [RowKit.intOf]; omega
        · obtain rfl : k = j := by omega
          have HT : Hid (l.take k = l) := hidden (List.take_of_length_le (by rw [HLN.out]; exact Nat.le_refl _))
          rw [HT.out] at HF HND
          have HE0 : Hid (E = 0) := hidden (by rw [← HE.out]; unfold newE; rw [if_pos HP.out, if_pos HND.out])
          go_wp2_with fail
          go_returns
          exact ⟨some ⟨b, 0, none⟩, by rw [HE0.out]; rfl, hidden ⟨HBk.out, .inl ⟨HE0.out, b, m, rfl, HBM.out.1, HBM.out.2, HF.out⟩⟩⟩
end Go.Proofs.YtedgpcckbdnijaaDoor
