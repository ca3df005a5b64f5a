/- spill: Pages, mayLie, share, load. -/
import Derived.Test.YtllcbilhpijjhaaDoorLi
namespace Go.Proofs.YtllcbilhpijjhaaDoor
open Go.RowKit Go.Maps

/-- How many pages n bytes take. -/
def pgN (p n : Int) : Int := if ¬ pw p ∨ n < 1 then 0 else (n - 1) / (p - 16) + 1
set_option maxRecDepth 100000 in
theorem pgN_pos {p n : Int} (hp : pw p) (hn : 1 ≤ n) : pgN p n = (n - 1) / (p - 16) + 1 := by unfold pgN; rw [if_neg (by simp [hp]; omega)]
set_option maxRecDepth 100000 in
theorem pages_any (p n : Int) (hn : n ≤ 9223372036854775807) (w : World) : Calls Tryd.prog 27 #[.int .i64 p, .int .i64 n] w fun e u => e = .returned (.int .i64 (pgN p n)) ∧ u = w := by
  have HI := fun u => isSize_any p u
  by_cases hp : pw p
  · have e1 : decide (pw p) = true := by simpa using hp
    have hpl := pw_le hp
    by_cases h1 : n < 1
    · have he : pgN p n = 0 := by unfold pgN; rw [if_pos (.inr h1)]
      rw [he]
      have h2 : decide (n < 1) = true := by simpa using h1
      clear hp
      go_enter Tryd.func27, Tryd.ntmps27
      go_wp2_with (first | (go_at_call 31; refine same_call (HI _) ?_; rw [e1]))
      go_ret
      exact ⟨rfl, rfl⟩
    · have he := pgN_pos hp (show 1 ≤ n by omega)
      rw [he]
      have h2 : decide (n < 1) = false := by simpa using h1
      have HH := fun u => hold_any p u (by omega) (by omega)
      obtain ⟨q, hq⟩ : ∃ q : Nat, n - 1 = (q : Int) := ⟨(n - 1).toNat, by omega⟩
      obtain ⟨h, hh⟩ : ∃ h : Nat, p - 16 = (h : Int) := ⟨(p - 16).toNat, by omega⟩
      have hdv : (q : Int) / (h : Int) ≤ (q : Int) := Int.ediv_le_self _ (by omega)
      have hdp : 0 ≤ (q : Int) / (h : Int) := Int.ediv_nonneg (by omega) (by omega)
      have htd : Int.tdiv (q : Int) (h : Int) = (q : Int) / (h : Int) := Int.tdiv_eq_ediv_of_nonneg (by omega)
      rw [hq, hh]
      have hh0 : ¬ (h : Int) = 0 := by omega
      have hh1 : ¬ h = 0 := by omega
      have hh2 : ((h : Int) == 0) = false := by rw [beq_eq_false_iff_ne]; exact hh0
      rw [hh] at HH
      have HQ := hidden hq
      obtain ⟨z, hz⟩ : ∃ z, (q : Int) / (h : Int) = z := ⟨_, rfl⟩
      rw [hz] at hdv hdp htd ⊢
      have hwz : IntKind.i64.wrap (z + 1) = z + 1 := by rw [IntKind.wrap_i64]; omega
      have hwz2 : IntKind.i64.wrap z = z := by rw [IntKind.wrap_i64]; omega
      clear hp he hh
      go_enter Tryd.func27, Tryd.ntmps27
      go_wp2_with (first
        | (go_at_call 31; refine same_call (HI _) ?_; rw [e1])
        | (go_at_call 33; refine same_call (HH _) ?_))
      go_ret
      exact ⟨rfl, rfl⟩
  · have e1 : decide (pw p) = false := by simpa using hp
    have he : pgN p n = 0 := by unfold pgN; rw [if_pos (.inl hp)]
    rw [he]
    clear hp
    go_enter Tryd.func27, Tryd.ntmps27
    go_wp2_with (first | (go_at_call 31; refine same_call (HI _) ?_; rw [e1]))
    go_ret
    exact ⟨rfl, rfl⟩
set_option maxRecDepth 100000 in
theorem share_any (p n : Int) (hp : 0 ≤ p) (hp2 : p ≤ 65536) (w : World) : Calls Tryd.prog 67 #[.int .i64 p, .int .i64 n] w fun e u => e = .returned (.int .i64 (min (p - 16) n)) ∧ u = w := by
  have HH := fun u => hold_any p u hp hp2
  go_enter Tryd.func67, Tryd.ntmps67
  go_wp2_with (first | (go_at_call 33; refine same_call (HH _) ?_))
  go_ret
  exact ⟨ret_int (by omega), rfl⟩
abbrev iB (b : Nat) : Value := .iface 39 (pB b)
set_option maxRecDepth 100000 in
theorem pgN_gt (p n : Int) : decide (0 < pgN p n) = decide (pw p ∧ 1 ≤ n) := by
  rw [decide_eq_decide]
  unfold pgN
  split
  · rename_i h
    constructor
    · omega
    · rintro ⟨h1, h2⟩
      rcases h with h | h
      · exact absurd h1 h
      · omega
  · rename_i h
    rw [not_or, Decidable.not_not] at h
    have := pw_le h.1
    have : 0 ≤ (n - 1) / (p - 16) := Int.ediv_nonneg (by omega) (by omega)
    constructor
    · intro _
      exact ⟨h.1, by omega⟩
    · intro _
      omega
set_option maxRecDepth 100000 in
theorem mayLie_any {w : World} {b m : Nat} {en pg ps rd : Int} {M : Int → Option Pf} {ct : Nat} (h : Bn w b m en pg ps rd M ct) (hp : pw pg) (n : Int) :
    Calls Tryd.prog 52 #[iB b, .int .i64 n] w fun e u => e = .returned (.bool (decide (1 ≤ n ∧ n ≤ 65536))) ∧ u = w := by
  have HS := hidden (size_any h)
  by_cases hn : n ≤ 65536
  · have HP := fun u => pages_any pg n (by omega) u
    have hd : decide (n ≤ 65536) = true := by simpa using hn
    have hg : decide (0 < pgN pg n) = decide (1 ≤ n ∧ n ≤ 65536) := by
      rw [pgN_gt, decide_eq_decide]
      constructor
      · rintro ⟨_, h⟩
        exact ⟨h, hn⟩
      · rintro ⟨h, _⟩
        exact ⟨hp, h⟩
    rw [← hg]
    clear h hp hg
    generalize pgN pg n = z at *
    go_enter Tryd.func52, Tryd.ntmps52
    go_wp2_with (first
      | (go_at_call 64; refine same_call HS.out ?_)
      | (go_at_call 27; refine same_call (HP _) ?_))
    go_ret
    exact ⟨rfl, rfl⟩
  · have hd : decide (n ≤ 65536) = false := by simpa using hn
    have he : decide (1 ≤ n ∧ n ≤ 65536) = false := by simp; omega
    rw [he]
    clear h hp
    go_enter Tryd.func52, Tryd.ntmps52
    go_wp2
    go_ret
    exact ⟨rfl, rfl⟩
/-- What is read of a page: its fault, or the next one and its bytes. -/
def ldM (M : Int → Option Pf) (pg : Int) (n : Int) : Int ⊕ (Int × List Int) :=
  match M n with
  | none => .inl 30
  | some f => if (f.l.length : Int) ≠ pg then .inl 60 else match spD f.l with
    | none => .inl 60
    | some x => .inr x
/-- Whether a page was read. -/
def isM (M : Int → Option Pf) (n : Int) : Int := if (M n).isSome then 1 else 0
set_option maxRecDepth 100000 in
set_option maxHeartbeats 1000000 in
theorem load_any {w : World} {b m : Nat} {en pg ps rd : Int} {M : Int → Option Pf} {ct : Nat} (h : Bn w b m en pg ps rd M ct) (n : Int) (hn : (Lit.int .i64 n).wf = true) (hrd : rd < 4611686018427387904) (hr0 : 0 ≤ rd) (ht : Tab w) (h0 : 0 < w.heap.size) (hb0 : b ≠ 0) :
    Calls Tryd.prog 68 #[iB b, .int .i64 n] w fun e u => ∃ nx ao dn c k, e = .returned (.tuple #[.int .i64 nx, .slice ao dn c, .int .i64 k]) ∧ Hid (Bn u b m en pg ps (rd + isM M n) M ct ∧ Cf (· = b) w u) ∧
      Hid ((ldM M pg n = .inl k ∧ k ≠ 0 ∧ nx = 0 ∧ ao = none ∧ dn = 0 ∧ c = 0) ∨ ∃ d, ldM M pg n = .inr (nx, d) ∧ k = 0 ∧ dn = d.length ∧ ∃ g, ao = some ⟨g, 0, none⟩ ∧ w.heap.size ≤ g ∧ OwnB u w.heap.size (.slice ao dn c) d) := by
  have HR := hidden (bread_any h n hn hrd hr0)
  have HB := hidden h
  have HT := hidden ht
  clear h ht
  go_enter Tryd.func68, Tryd.ntmps68
  go_wp2_with (first
    | (go_at_call 20; refine HR.out.mono ?_; rintro e w1 ⟨ao, sn, c, k, rfl, HK⟩; refine Hid.out ?_))
  apply hidden
  clear HR
  rcases HK.out with ⟨hM, rfl, rfl, rfl, rfl, rfl⟩ | ⟨f, hM, rfl, rfl, ho, hbn, hcf⟩
  · have HL : Hid (ldM M pg n = .inl 30) := hidden (by unfold ldM; rw [hM])
    have HI : Hid (isM M n = 0) := hidden (by unfold isM; rw [hM]; rfl)
    clear HK hM
    go_wp2
    go_returns
    refine ⟨_, _, _, _, _, rfl, hidden ⟨?_, Cf.refl _ _⟩, hidden (.inl ⟨HL.out, by decide, rfl, rfl, rfl, rfl⟩)⟩
    rw [HI.out, Int.add_zero]
    exact HB.out
  · have HI : Hid (isM M n = 1) := hidden (by unfold isM; rw [hM]; rfl)
    have HS1 := hidden (size_any hbn)
    have HBN := hidden hbn
    have HCF := hidden hcf
    have hwl := (HB.out.pgs n f hM).1.wf
    have hrl := (HB.out.pgs n f hM).1.hroom
    have HM := hidden hM
    have hsl : Sl w1 ao f.l.length c f.l := by
      obtain ⟨ao', c', e, hs, _⟩ := ho.sl hwl hrl
      injection e with e1 e2 e3
      subst e1 e3
      exact hs
    have HSL := hidden hsl
    have HTB : Hid (Tab w1) := hidden (fun i hi => (World.cell?_of_block (hcf.block 0 h0 (fun e => hb0 e.symm))).trans (HT.out i hi))
    have h01 : 0 < w1.heap.size := Nat.lt_of_lt_of_le h0 hcf.size
    clear HK hM hbn hcf ho hsl
    by_cases hp : (f.l.length : Int) = pg
    · have hp2 : ((f.l.length : Int) == pg) = true := by rw [beq_iff_eq]; exact hp
      have HD := hidden (decS_any ao _ c f.l w1 HSL.out HTB.out h01)
      have HP := hidden hp
      clear hp
      go_wp2_with (first
        | (go_at_call 64; refine same_call HS1.out ?_)
        | (go_at_call 15; refine HD.out.mono ?_; rintro e w2 ⟨nx, ao2, dn, c2, k, rfl, HB2, HQ⟩))
      go_returns
      refine ⟨_, _, _, _, _, rfl, hidden ⟨by rw [HI.out]; exact HBN.out.on HB2.out, HCF.out.go (Cf.of_below HB2.out)⟩, hidden ?_⟩
      rcases HQ.out with ⟨h1, rfl, rfl, rfl, rfl, rfl⟩ | ⟨d, h1, rfl, rfl, g, rfl, hg, hown⟩
      · left
        refine ⟨?_, by decide, rfl, rfl, rfl, rfl⟩
        unfold ldM
        rw [HM.out]
        simp [HP.out, h1]
      · right
        refine ⟨d, ?_, rfl, rfl, g, rfl, Nat.le_trans HCF.out.size hg, hown.low HCF.out.size⟩
        unfold ldM
        rw [HM.out]
        simp [HP.out, h1]
    · have hp2 : ((f.l.length : Int) == pg) = false := by rw [beq_eq_false_iff_ne]; exact hp
      have HP := hidden hp
      clear hp
      go_wp2_with (first
        | (go_at_call 64; refine same_call HS1.out ?_))
      go_returns
      refine ⟨_, _, _, _, _, rfl, hidden ⟨by rw [HI.out]; exact HBN.out, HCF.out⟩, hidden (.inl ⟨?_, by decide, rfl, rfl, rfl, rfl⟩)⟩
      unfold ldM
      rw [HM.out]
      simp [HP.out]
end Go.Proofs.YtllcbilhpijjhaaDoor
