/- Decode. -/
import Derived.Test.YtedgpcckbdnijaaDoorVd
import Derived.Deep.OwnRows
namespace Go.Proofs.YtedgpcckbdnijaaDoor
open Go.RowKit

/-- The pages that bytes would list. -/
def frP (b : List Int) : List Int := (List.range (rdN b 2 2).toNat).map (fun i => rdN b (8 + 4 * i) 4)
/-- What bytes say: the next page, the pages; 60: they are no page. -/
def frOk (b : List Int) : Bool := pwb b.length && (decide (rdN b 2 2 ≤ ((b.length : Int) - 12) / 4) && (decide (frE (rdN b 4 4) (frP b) b.length = 0) && decide (frB (rdN b 4 4) (frP b) b.length = b)))
def frD (b : List Int) : Int × List Int × Int := if frOk b then (rdN b 4 4, frP b, 0) else (0, [], 60)
set_option maxRecDepth 100000 in
theorem frP_length (b : List Int) : (frP b).length = (rdN b 2 2).toNat := by unfold frP; rw [List.length_map, List.length_range]
set_option maxRecDepth 100000 in
theorem frP_at (b : List Int) (i : Nat) (hi : i < (rdN b 2 2).toNat) : (frP b).getD i 0 = rdN b (8 + 4 * i) 4 := by
  unfold frP
  rw [List.getD, List.getElem?_map, List.getElem?_range hi]
  rfl
set_option maxRecDepth 100000 in
theorem frP_wf {b : List Int} (h : Wf b) : ∀ x ∈ frP b, 0 ≤ x ∧ x < 4294967296 := by
  intro x hx
  unfold frP at hx
  obtain ⟨i, _, rfl⟩ := List.mem_map.1 hx
  have := rdN_bound b h (8 + 4 * i) 4
  have e : (256 : Int) ^ 4 = 4294967296 := by decide
  omega
set_option maxRecDepth 100000 in
theorem info64z (w : World) (N : Nat) (hN : N ≤ 65536) : (Instr.makeSlice 22 (.int .i64 (N : Int)) (.int .i64 (N : Int))).run Tryd.prog w = .ok (.slice (some ⟨w.heap.size, 0, none⟩) N N) (w.alloc (.cells (madeCells #[.int .i64 0] N) 3)) :=
  run_make_row' (P := Tryd.prog) 22 3 (.int .i64 0) 8 Tryd.underlying22 info64 rfl .i64 .i64 N (by omega) (by omega) w
/-- A block of ints. -/
def Bj (w : World) (g : Nat) (l : List Int) : Prop := w.heap[g]? = some (.cells (IV l).toArray 3 (0, 0))
set_option maxRecDepth 100000 in
theorem Bj.set {w : World} {g i : Nat} {l : List Int} (h : Bj w g l) (x : Int) : Bj (w.setCell ⟨g, i, none⟩ (.int .i64 x)) g (l.set i x) := by
  unfold Bj at *
  rw [set_row h]
  simp [IV, List.map_set]
set_option maxRecDepth 100000 in
theorem Bj.cell {w : World} {g : Nat} {l : List Int} (h : Bj w g l) (i : Nat) (hi : i < l.length) : w.cell? ⟨g, i, none⟩ = some (.int .i64 (l.getD i 0)) := by
  unfold Bj at h
  rw [cell_of_row _ _ i _ _ _ h]
  simp [IV, List.getD, List.getElem?_eq_getElem hi]
set_option maxRecDepth 100000 in
theorem Bj.free {w : World} {g : Nat} {l : List Int} (h : Bj w g l) (i : Nat) : w.frozen? ⟨g, i, none⟩ = false := by
  unfold Bj at h
  simp [World.frozen?, h]
set_option maxRecDepth 100000 in
theorem Bj.on {w u : World} {g : Nat} {l : List Int} (h : Bj w g l) (hb : Below w.heap.size w u) : Bj u g l := (hb.block _ (lt_some h)).trans h
set_option maxRecDepth 100000 in
theorem Bj.own {w : World} {g B : Nat} {l : List Int} (h : Bj w g l) (hB : B ≤ g) (hl : l.length ≤ maxLen) : OwnJ w B (.slice (some ⟨g, 0, none⟩) l.length l.length) l :=
  ⟨by simp [IV], .inr ⟨g, l.length, (IV l).toArray, rfl, hB, h, Nat.le_refl _, hl, by simp [IV], List.take_of_length_le (by simp [IV])⟩⟩
set_option maxRecDepth 100000 in
theorem Bj.slz {w : World} {g : Nat} {l : List Int} (h : Bj w g l) (hl : l.length ≤ 65536) (hw : ∀ x ∈ l, -9223372036854775808 ≤ x ∧ x ≤ 9223372036854775807) : SlZ w (some ⟨g, 0, none⟩) l.length l.length l :=
  ⟨rfl, by omega, hw, Nat.le_refl _, .inr ⟨g, 0, rfl, lt_some h, fun i hi => by rw [Nat.zero_add]; exact h.cell i hi⟩⟩
set_option maxRecDepth 100000 in
theorem made_j (w : World) (N : Nat) : Bj (w.alloc (.cells (madeCells #[.int .i64 0] N) 3)) w.heap.size (List.replicate N 0) := by
  unfold Bj
  rw [al_row]
  congr 2
  apply Array.toList_inj.1
  rw [toList_madeCells_one]
  simp [IV]
/-- The pages that have been read. -/
def jL (b : List Int) (N k : Nat) : List Int := (frP b).take k ++ List.replicate (N - k) 0
set_option maxRecDepth 100000 in
theorem jL_zero (b : List Int) (N : Nat) : jL b N 0 = List.replicate N 0 := by simp [jL]
set_option maxRecDepth 100000 in
theorem jL_len (b : List Int) (N k : Nat) (hN : (frP b).length = N) (hk : k ≤ N) : (jL b N k).length = N := by
  unfold jL
  rw [List.length_append, List.length_take, List.length_replicate, hN]
  omega
set_option maxRecDepth 100000 in
theorem jL_end (b : List Int) (N : Nat) (hN : (frP b).length = N) : jL b N N = frP b := by
  unfold jL
  rw [List.take_of_length_le (by omega), Nat.sub_self]
  simp
set_option maxRecDepth 100000 in
theorem jL_step (b : List Int) (N k : Nat) (hN : (frP b).length = N) (hk : k < N) : (jL b N k).set k ((frP b).getD k 0) = jL b N (k + 1) := by
  unfold jL
  have hl : ((frP b).take k).length = k := by rw [List.length_take]; omega
  rw [takeZ _ k (by omega), show N - k = (N - (k + 1)) + 1 by omega, List.replicate_succ, List.set_append_right _ _ (by omega), hl, Nat.sub_self]
  simp
set_option maxRecDepth 100000 in
set_option maxHeartbeats 4000000 in
theorem decF_any (ao : Option Addr) (n cap : Nat) (b : List Int) (w : World) (hs : Sl w ao n cap b) (ht : Tab w) (h0 : 1 < w.heap.size) :
    Calls Tryd.prog 21 #[.slice ao n cap] w fun e u => ∃ po pn, e = .returned (.tuple #[.int .i64 (frD b).1, .slice po pn pn, .int .i64 (frD b).2.2]) ∧ Hid (OwnJ u w.heap.size (.slice po pn pn) (frD b).2.1) ∧ Hid (Below w.heap.size w u) := by
  have hlen := hs.hlen
  have hz := isSize_any (n : Int) w
  have hroom := room_any (n : Int) w
  have hnb := hs.hroom
  obtain ⟨X, hX⟩ : ∃ X, frD b = X := ⟨_, rfl⟩
  have HX := hidden hX
  rw [hX]
  clear hX
  cases hp : pwb (n : Int) with
  | false =>
    have HE : Hid (X = (0, [], 60)) := hidden (by rw [← HX.out]; unfold frD frOk; rw [hlen, hp]; rfl)
    rw [HE.out]
    rw [hp] at hz
    clear hs HE HX hroom
    go_enter Tryd.func21, Tryd.ntmps21
    go_wp2_with (go_at_call 51; refine same_call hz ?_)
    go_returns
    exact ⟨none, 0, rfl, OwnJ.nil _ _, Below.refl _ _⟩
  | true =>
    have hpl := pwb_le hp
    rw [hp] at hz
    unfold roomN at hroom
    rw [hp] at hroom
    simp only [if_true] at hroom
    have HS := hidden hs
    have HT := hidden ht
    have HLN := hidden hlen
    have hcn := numberAt_any ao n cap b 2 2 w hs (by decide) (by decide) (by omega)
    have hbd := rdN_bound b hs.wf 2 2
    have e256 : (256 : Int) ^ 2 = 65536 := by decide
    obtain ⟨R, hR⟩ : ∃ R, ((n : Int) - 12) / 4 = R := ⟨_, rfl⟩
    obtain ⟨N, hN⟩ : ∃ N : Nat, rdN b 2 2 = (N : Int) := ⟨(rdN b 2 2).toNat, by omega⟩
    have HRR := hidden hR
    rw [hR] at hroom
    rw [hN] at hcn hbd
    have hN2 : N ≤ 65536 := by omega
    by_cases hle : (N : Int) ≤ R
    · have HPL : Hid ((frP b).length = N) := hidden (by rw [frP_length, hN]; rfl)
      have hfit : 12 + 4 * N ≤ n := by omega
      have hmk := fun u => info64z u N hN2
      have HOK : Hid (frOk b = (decide (frE (rdN b 4 4) (frP b) (n : Int) = 0) && decide (frB (rdN b 4 4) (frP b) n = b))) := hidden (by unfold frOk; rw [hlen, hp, hN, hR]; simp [hle])
      have HAT : Hid (∀ k, k < N → (frP b).getD k 0 = rdN b (8 + 4 * k) 4) := hidden (fun k hk => frP_at b k (by rw [hN]; exact hk))
      have hnI : (n : Int) ≤ 65536 := by omega
      have hNI : (N : Int) ≤ 65536 := by omega
      clear hs ht hlen hR hN hbd hpl
      go_enter Tryd.func21, Tryd.ntmps21
      go_wp2_with (first
        | (go_at_call 51; refine same_call hz ?_)
        | (go_at_call 52; refine same_call hcn ?_)
        | (go_at_call 22; refine same_call hroom ?_))
      have HB0 : Hid (Below w.heap.size w (w.alloc (.cells (madeCells #[.int .i64 0] N) 3))) := hidden (bl_al (Below.refl _ _) (Nat.le_refl _) _)
      have HJ0 : Hid (Bj (w.alloc (.cells (madeCells #[.int .i64 0] N) 3)) w.heap.size (jL b N 0)) := hidden (by rw [jL_zero]; exact made_j w N)
      generalize w.alloc (.cells (madeCells #[.int .i64 0] N) 3) = w1 at HB0 HJ0 ⊢
      obtain ⟨g, hg⟩ : ∃ g, w.heap.size = g := ⟨_, rfl⟩
      have HGW := hidden hg
      rw [hg] at HJ0 ⊢
      have HWS : Hid (∀ u, Below w.heap.size w u → Sl u ao n cap b) := hidden (fun u hu => HS.out.on (Nat.le_refl _) hu)
      clear hg hcn hz hroom hmk
      go_loopw [7, 26] (fun _ i wr => ∃ k : Nat, k ≤ N ∧ i = .int .i64 (k : Int) ∧ Hid (Bj wr g (jL b N k)) ∧ Hid (Below w.heap.size w wr)) (fun _ i _ => N - (RowKit.intOf i).toNat)
      case atStart => exact ⟨0, by omega, rfl, HJ0, HB0⟩
      case round =>
        obtain ⟨k, hk, rfl, HJ, HB⟩ := hrel
        by_cases hlt : k < N
        · have hltI : (k : Int) < (N : Int) := by omega
          have hnum := numberAt_any ao n cap b (8 + 4 * k) 4 wr (HWS.out wr HB.out) (by decide) (by decide) (by omega)
          rw [← HAT.out k hlt] at hnum
          have HSTP := hidden (jL_step b N k HPL.out hlt)
          have e8 : ((8 + 4 * k : Nat) : Int) = 8 + (k : Int) * 4 := by omega
          rw [e8] at hnum
          have c1 := HJ.out.cell k (by rw [jL_len b N k HPL.out (by omega)]; exact hlt)
          have f1 := HJ.out.free k
          obtain ⟨z, c1⟩ : ∃ z, wr.cell? ⟨g, k, none⟩ = some z := ⟨_, c1⟩
          have HJ2 := hidden (HJ.out.set (i := k) ((frP b).getD k 0))
          rw [HSTP.out] at HJ2
          have HB2 : Hid (Below w.heap.size w (wr.setCell ⟨g, k, none⟩ (.int .i64 ((frP b).getD k 0)))) := hidden (HB.out.setCell (p := ⟨g, k, none⟩) (by rw [← HGW.out]; exact Nat.le_refl _) _)
          generalize (frP b).getD k 0 = y at *
          go_wp2_with (go_at_call 52; refine same_call hnum ?_)
          go_roundw
          case rel => exact ⟨k + 1, by omega, by go_num, HJ2, HB2⟩
          case measure => simp [RowKit.intOf]; omega
        · obtain rfl : k = N := by omega
          have hnum := numberAt_any ao n cap b 4 4 wr (HWS.out wr HB.out) (by decide) (by decide) (by omega)
          rw [jL_end b k HPL.out] at HJ
          have HJL : Hid (SlZ wr (some ⟨g, 0, none⟩) k k (frP b)) := hidden (by
            have := HJ.out.slz (by rw [HPL.out]; exact hN2) (fun x hx => by have := frP_wf HS.out.wf x hx; omega)
            rwa [HPL.out] at this)
          have HEN := hidden (encF_any (rdN b 4 4) (n : Int) _ k k (frP b) wr HJL.out (HT.out.on HB.out h0) (Nat.lt_of_lt_of_le h0 HB.out.size))
          have HBW : Hid (frE (rdN b 4 4) (frP b) (n : Int) = 0 → frL (rdN b 4 4) (frP b) (n : Int) = frB (rdN b 4 4) (frP b) n) := hidden (fun h => by unfold frL; rw [if_pos h, Int.toNat_natCast])
          have HLW := hidden (frL_wf (rdN b 4 4) (frP b) (n : Int))
          have HLL := hidden (frL_len (rdN b 4 4) (frP b) (n : Int))
          have HXX : Hid (X = if frOk b then (rdN b 4 4, frP b, 0) else (0, [], 60)) := hidden (by rw [← HX.out]; rfl)
          clear HX
          generalize hE : frE (rdN b 4 4) (frP b) (n : Int) = E at *
          generalize frL (rdN b 4 4) (frP b) (n : Int) = FL at *
          obtain ⟨nx, hnx⟩ : ∃ nx, rdN b 4 4 = nx := ⟨_, rfl⟩
          rw [hnx] at hnum HOK HXX HEN HBW
          clear hE hnx
          go_wp2_with (first
            | (go_at_call 52; refine same_call hnum ?_)
            | (go_at_call 20; refine HEN.out.mono ?_; rintro e w2 ⟨eo, en, rfl, HO2, HB2⟩; refine Hid.out ?_))
          apply hidden
          have HB3 : Hid (Below w.heap.size w w2) := hidden (HB.out.trans (HB2.out.mono HB.out.size))
          have HJ3 := hidden (HJ.out.on HB2.out)
          have HS3 : Hid (Sl w2 ao n cap b) := hidden (HWS.out w2 HB3.out)
          obtain ⟨ao2, cp2, esl, hsl2⟩ : ∃ ao2 cp2, Value.slice eo en en = .slice ao2 FL.length cp2 ∧ Sl w2 ao2 FL.length cp2 FL := by
            obtain ⟨a, c, e, h, _⟩ := HO2.out.sl HLW.out (by have := HLL.out; omega)
            exact ⟨a, c, e, h⟩
          injection esl with e1 e2 e3
          subst e1 e3
          rw [← e2] at hsl2
          have heq := equal6 _ _ _ _ _ _ _ _ w2 hsl2 HS3.out
          clear hsl2 HEN HJL HJ HB e2 hk hlt HLL HAT hnum HJ0 HB0 hle hfit
          by_cases hE0 : E = 0
          · subst hE0
            have hfl := HBW.out rfl
            rw [hfl] at heq
            by_cases hfb : frB nx (frP b) n = b
            · have HX2 : Hid (X = (nx, frP b, 0)) := hidden (by rw [HXX.out, HOK.out]; simp [hfb])
              have e4 : decide (frB nx (frP b) n = b) = true := by simpa using hfb
              rw [e4] at heq
              have HOJ : Hid (OwnJ w2 w.heap.size (.slice (some ⟨g, 0, none⟩) k k) (frP b)) := hidden (by
                have := HJ3.out.own (B := w.heap.size) (by rw [HGW.out]; exact Nat.le_refl _) (by rw [HPL.out]; unfold maxLen; omega)
                rwa [HPL.out] at this)
              clear hfb hfl HXX e4
              go_wp2_with (go_at_call 53; refine same_call heq ?_)
              go_returns
              exact ⟨some ⟨g, 0, none⟩, k, by rw [HX2.out]; rfl, by rw [HX2.out]; exact HOJ, HB3⟩
            · have HX2 : Hid (X = (0, [], 60)) := hidden (by rw [HXX.out, HOK.out]; simp [hfb])
              have e4 : decide (frB nx (frP b) n = b) = false := by simpa using hfb
              rw [e4] at heq
              clear hfb hfl HXX e4
              go_wp2_with (go_at_call 53; refine same_call heq ?_)
              go_returns
              exact ⟨none, 0, by rw [HX2.out]; rfl, by rw [HX2.out]; exact OwnJ.nil _ _, HB3⟩
          · have HX2 : Hid (X = (0, [], 60)) := hidden (by rw [HXX.out, HOK.out]; simp [hE0])
            have hne : (E == 0) = false := by rw [beq_eq_false_iff_ne]; exact hE0
            clear HXX heq
            go_wp2_with fail
            go_returns
            exact ⟨none, 0, by rw [HX2.out]; rfl, by rw [HX2.out]; exact OwnJ.nil _ _, HB3⟩
    · have HE : Hid (X = (0, [], 60)) := hidden (by rw [← HX.out]; unfold frD frOk; rw [hlen, hp, hN, hR]; simp [hle])
      rw [HE.out]
      have hgt : R < (N : Int) := by omega
      clear hs ht HE HX hN hR
      go_enter Tryd.func21, Tryd.ntmps21
      go_wp2_with (first
        | (go_at_call 51; refine same_call hz ?_)
        | (go_at_call 52; refine same_call hcn ?_)
        | (go_at_call 22; refine same_call hroom ?_))
      go_returns
      exact ⟨none, 0, rfl, OwnJ.nil _ _, Below.refl _ _⟩
end Go.Proofs.YtedgpcckbdnijaaDoor
