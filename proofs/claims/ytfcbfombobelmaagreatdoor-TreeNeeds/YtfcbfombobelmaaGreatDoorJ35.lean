/- Layer 12: the pages that a change writes: the old one, or none. -/
import Derived.Test.YtfcbfombobelmaaGreatDoorJ34
namespace Go.Proofs.YtfcbfombobelmaaGreatDoor
open Go.RowKit

set_option maxRecDepth 100000 in
set_option maxHeartbeats 2000000 in
theorem pages_keep (w : World) (p b m : Nat) (rd root : Int) (M : Int → Option Pf) (ct : Nat) (vg : Value) (hc : Chg w p b vg) (hb : Bq w b m rd M ct) (hM : (M root).isSome = true) (hr : (Lit.int .i64 root).wf = true) (og oc : Nat) (ho : w.cell? ⟨og, 0, none⟩ = some (.int .i64 root)) :
    Calls Tryz.prog 70 #[.pointer (some ⟨p, 0, none⟩), .int .i64 1, .slice (some ⟨og, 0, none⟩) 1 oc] w fun e w' => ∃ g c, e = .returned (.slice (some ⟨g, 0, none⟩) 1 c) ∧ Hid (Pg1 w' w.heap.size g c root) ∧ Hid (Below w.heap.size w w') := by
  have b0 := hc.cells.1
  have HFR : Hid (Calls Tryz.prog 209 #[pB b, .int .i64 root] w fun e w' => e = .returned (.bool true) ∧ w' = w) := hidden (by
    have h := bfresh_any hb root hr
    rwa [hM] at h)
  clear hc hb hM
  go_enter Tryz.func70, Tryz.ntmps70
  go_wp2_with fail
  go_loopw [7, 9, 14] (fun s7 s9 s14 wr => (s7 = .slice none 0 0 ∧ s14 = .int .i64 0 ∧ wr = w) ∨ (∃ g c, s7 = .slice (some ⟨g, 0, none⟩) 1 c ∧ s14 = .int .i64 1 ∧ Hid (Pg1 wr w.heap.size g c root) ∧ Hid (Below w.heap.size w wr))) (fun s7 _ _ _ => nilM s7)
  case atStart => exact .inl ⟨rfl, rfl, by first | rfl | trivial⟩
  case round =>
    rcases hrel with ⟨rfl, rfl, rfl⟩ | ⟨g, c, rfl, rfl, HP, HB⟩
    · obtain ⟨u, hu⟩ : ∃ u, wr.alloc (.cells #[.int .i64 root] 3) = u := ⟨_, rfl⟩
      have hbu : Below wr.heap.size wr u := by rw [← hu]; exact bl_al (Below.refl _ _) (Nat.le_refl _) _
      have hyu : u.cell? ⟨wr.heap.size, 0, none⟩ = some (.int .i64 root) := by rw [← hu]; simp
      have hle : wr.heap.size ≤ u.heap.size := hbu.size
      have HBU := hidden hbu
      clear hbu
      go_wp2_with (first | (go_at_call 209; refine same_call HFR.out ?_) | (at_builtin; refine app_j u rfl _ _ rfl wr.heap.size [] root _ wr.heap.size rfl rfl (OwnJ.nil _ _) hyu (by simp) hle ?_; refine Hid.out ?_))
      apply hidden
      intro v' w3 h1 h2
      have hb3 : Below u.heap.size u w3 := (Below.refl _ _).grown h2.grow (Nat.le_refl _) (fun k hk => by cases hk)
      obtain ⟨g, c, rfl⟩ : ∃ g c, v' = .slice (some ⟨g, 0, none⟩) 1 c := by
        unfold OwnJ at h1
        rcases h1.2 with ⟨_, h0⟩ | ⟨q, c', cur, rfl, _⟩
        · cases h0
        · exact ⟨q, c', rfl⟩
      have HP1 : Hid (Pg1 w3 wr.heap.size g c root) := hidden h1
      have HB1 : Hid (Below wr.heap.size wr w3) := hidden (bl_go HBU.out (Nat.le_refl _) hb3)
      clear h1 h2 hb3 HBU hyu hle hu
      go_wp2
      go_roundw
      case rel => exact .inr ⟨g, c, rfl, rfl, HP1, HB1⟩
      case measure => simp [nilM]
    · go_wp2_with fail
      go_loopw [7, 10, 11] (fun s7 s10 s11 wx => s7 = .slice (some ⟨g, 0, none⟩) 1 c ∧ wx = wr) (fun _ _ _ _ => 0)
      case atStart => exact ⟨rfl, by first | rfl | trivial⟩
      case round =>
        obtain ⟨rfl, rfl⟩ := hrel
        go_wp2
        go_ret
        exact ⟨g, c, rfl, HP, HB⟩
set_option maxRecDepth 100000 in
set_option maxHeartbeats 2000000 in
theorem pages_gone (w : World) (p b : Nat) (root : Int) (hc : Chg w p b (.slice none 0 0)) (og oc : Nat) (ho : w.cell? ⟨og, 0, none⟩ = some (.int .i64 root)) :
    Calls Tryz.prog 70 #[.pointer (some ⟨p, 0, none⟩), .int .i64 0, .slice (some ⟨og, 0, none⟩) 1 oc] w fun e w' => ∃ g c, e = .returned (.slice none 0 0) ∧ Hid (Pg1 w' w.heap.size g c root ∧ Chg w' p b (.slice (some ⟨g, 0, none⟩) 1 c)) ∧ Hid (Cf (· = p) w w') := by
  have HCH := hidden hc
  clear hc
  go_enter Tryz.func70, Tryz.ntmps70
  go_wp2_with fail
  go_loopw [7, 9, 14] (fun s7 s9 s14 wr => s7 = .slice none 0 0 ∧ ((s14 = .int .i64 0 ∧ wr = w) ∨ (∃ g c, s14 = .int .i64 1 ∧ Hid (Pg1 wr w.heap.size g c root ∧ Chg wr p b (.slice (some ⟨g, 0, none⟩) 1 c)) ∧ Hid (Cf (· = p) w wr)))) (fun _ _ s14 _ => 1 - (intOf s14).toNat)
  case atStart => exact ⟨rfl, .inl ⟨rfl, by first | rfl | trivial⟩⟩
  case round =>
    obtain ⟨rfl, ⟨rfl, rfl⟩ | ⟨g, c, rfl, HP, HB⟩⟩ := hrel
    · obtain ⟨u, hu⟩ : ∃ u, wr.alloc (.cells #[.int .i64 root] 3) = u := ⟨_, rfl⟩
      have hbu : Below wr.heap.size wr u := by rw [← hu]; exact bl_al (Below.refl _ _) (Nat.le_refl _) _
      have hyu : u.cell? ⟨wr.heap.size, 0, none⟩ = some (.int .i64 root) := by rw [← hu]; simp
      have hle : wr.heap.size ≤ u.heap.size := hbu.size
      obtain ⟨b0, b1⟩ := HCH.out.cells
      have HBU := hidden hbu
      clear hbu
      go_wp2_with (at_builtin; refine app_j u rfl _ _ rfl wr.heap.size [] root _ wr.heap.size rfl rfl (OwnJ.nil _ _) hyu (by simp) hle ?_; refine Hid.out ?_)
      apply hidden
      intro v' w3 h1 h2
      have hb3 : Below u.heap.size u w3 := (Below.refl _ _).grown h2.grow (Nat.le_refl _) (fun k hk => by cases hk)
      obtain ⟨g, c, rfl⟩ : ∃ g c, v' = .slice (some ⟨g, 0, none⟩) 1 c := by
        unfold OwnJ at h1
        rcases h1.2 with ⟨_, h0⟩ | ⟨q, c', cur, rfl, _⟩
        · cases h0
        · exact ⟨q, c', rfl⟩
      have hb13 : Below wr.heap.size wr w3 := bl_go HBU.out (Nat.le_refl _) hb3
      have hch3 : Chg w3 p b (.slice none 0 0) := box_on HCH.out hb13
      have e0 := hch3.cells.1
      have e1 := hch3.cells.2
      have f1 : w3.frozen? ⟨p, 1, none⟩ = false := by unfold Chg at hch3; simp [World.frozen?, hch3]
      have HFIN : Hid (Pg1 (w3.setCell ⟨p, 1, none⟩ (.slice (some ⟨g, 0, none⟩) 1 c)) wr.heap.size g c root ∧ Chg (w3.setCell ⟨p, 1, none⟩ (.slice (some ⟨g, 0, none⟩) 1 c)) p b (.slice (some ⟨g, 0, none⟩) 1 c)) := hidden (by
        unfold Chg at hch3 ⊢
        refine ⟨?_, by simpa using set_row (w := w3) (a := p) (i := 1) (cs := [iB b, .slice none 0 0]) (u := .slice (some ⟨g, 0, none⟩) 1 c) hch3⟩
        unfold Pg1
        refine h1.cf (Cf.set w3 p 1 _) (fun k hk e => ?_)
        subst e
        unfold OwnJ at h1
        rcases h1.2 with ⟨h, _⟩ | ⟨q, c', cu, h, _, h2', _⟩
        · cases h
        · injection h with h
          injection h with h
          injection h with h
          simp [Value.ownBlock] at hk
          subst h
          rw [hk, hch3] at h2'
          injection h2' with h2'
          injection h2' with _ h3
          exact absurd h3 (by decide))
      have HCF : Hid (Cf (· = p) wr (w3.setCell ⟨p, 1, none⟩ (.slice (some ⟨g, 0, none⟩) 1 c))) := hidden ((Cf.of_below hb13).go (Cf.set _ _ _ _))
      clear h1 h2 hb3 HBU hyu hle hu hb13 hch3 b0 b1
      go_wp2
      go_roundw
      case rel => exact ⟨rfl, .inr ⟨g, c, rfl, HFIN, HCF⟩⟩
      case measure => simp [intOf]
    · go_wp2_with fail
      go_loopw [7, 10, 11] (fun s7 s10 s11 wx => s7 = .slice none 0 0 ∧ wx = wr) (fun _ _ _ _ => 0)
      case atStart => exact ⟨rfl, by first | rfl | trivial⟩
      case round =>
        obtain ⟨rfl, rfl⟩ := hrel
        go_wp2
        go_ret
        exact ⟨g, c, rfl, HP, HB⟩
end Go.Proofs.YtfcbfombobelmaaGreatDoor
