/- The law's same; lists by their members; a page comes back. -/
import Derived.Test.YtedgpcckbdnijaaDoorVe
import Derived.Test.YtedgpcckbdnijaaDoorUt
namespace Go.Proofs.YtedgpcckbdnijaaDoor
open Go.RowKit Go.Maps

set_option maxRecDepth 100000 in
theorem SlZ.drew {w : World} {ao : Option Addr} {n cap : Nat} {l : List Int} (h : SlZ w ao n cap l) (q : Nat) : SlZ (w.drewN q) ao n cap l := h.cf (Cf.drew (fun _ => False) w q) (.inr fun _ _ h => h)
set_option maxRecDepth 100000 in
theorem ext_getD {a b : List Int} (hl : a.length = b.length) (h : ∀ i, i < a.length → a.getD i 0 = b.getD i 0) : a = b := by
  apply List.ext_getElem hl
  intro i h1 h2
  have := h i h1
  rw [List.getD, List.getD, List.getElem?_eq_getElem h1, List.getElem?_eq_getElem h2] at this
  exact this
set_option maxRecDepth 100000 in
set_option maxHeartbeats 1000000 in
theorem sameZ_any (ao bo : Option Addr) (n m c d : Nat) (la lb : List Int) (w : World) (ha : SlZ w ao n c la) (hb : SlZ w bo m d lb) :
    Calls Tryd.prog 15 #[.slice ao n c, .slice bo m d] w fun e u => e = .returned (.bool (decide (la = lb))) ∧ ∃ q, u = w.drewN q := by
  have HA := hidden ha
  have HB := hidden hb
  have hla := ha.hlen
  have hlb := hb.hlen
  have hna := ha.hbig
  have hnb := hb.hbig
  by_cases hnm : n = m
  · subst hnm
    have HLA := hidden hla
    have HLB := hidden hlb
    obtain ⟨E, hE⟩ : ∃ E, decide (la = lb) = E := ⟨_, rfl⟩
    have HE := hidden hE
    rw [hE]
    clear ha hb hla hlb hE hnb
    go_enter Tryd.func15, Tryd.ntmps15
    go_wp2_with fail
    go_loopw [5] (fun i wr => (∃ q, wr = w.drewN q) ∧ ∃ k : Nat, k ≤ n ∧ i = .int .i64 (k : Int) ∧ Hid (∀ j, j < k → la.getD j 0 = lb.getD j 0)) (fun i _ => n - (RowKit.intOf i).toNat)
    case atStart => exact ⟨⟨0, rfl⟩, 0, by omega, rfl, hidden (fun j hj => by omega)⟩
    case round =>
      obtain ⟨⟨q, hq⟩, k, hk, rfl, HJ⟩ := hrel
      have HA1 : Hid (SlZ wr ao n c la) := hidden (by rw [hq]; exact HA.out.drew q)
      have HB1 : Hid (SlZ wr bo n d lb) := hidden (by rw [hq]; exact HB.out.drew q)
      have HQ := hidden hq
      clear hq
      by_cases hlt : k < n
      · have hltI : (k : Int) < (n : Int) := by omega
        obtain ⟨b1, o1, rfl, c1⟩ := HA1.out.at hlt
        obtain ⟨b2, o2, rfl, c2⟩ := HB1.out.at hlt
        by_cases hxy : la.getD k 0 = lb.getD k 0
        · rw [← hxy] at c2
          have HJ2 : Hid (∀ j, j < k + 1 → la.getD j 0 = lb.getD j 0) := hidden (fun j hj => by
            by_cases e : j = k
            · rw [e]; exact hxy
            · exact HJ.out j (by omega))
          clear hxy
          generalize la.getD k 0 = x at *
          go_wp2_with fail
          go_quiet (fail)
          go_wp2_with fail
          go_roundw
          case rel => exact ⟨⟨q + nq, by rw [HQ.out]; simp [World.drewN, Nat.add_assoc]⟩, k + 1, by omega, by go_num, HJ2⟩
          case measure => simp [RowKit.intOf]; omega
        · have HE0 : Hid (E = false) := hidden (by
            rw [← HE.out, decide_eq_false_iff_not]
            exact fun e => hxy (by rw [e]))
          have hne : (la.getD k 0 == lb.getD k 0) = false := by rw [beq_eq_false_iff_ne]; exact hxy
          generalize la.getD k 0 = x at *
          generalize lb.getD k 0 = y at *
          go_wp2_with fail
          go_quiet (fail)
          go_wp2_with fail
          go_ret
          exact ⟨by rw [HE0.out]; rfl, q + nq, by rw [HQ.out]; simp [World.drewN, Nat.add_assoc]⟩
      · obtain rfl : k = n := by omega
        have HE1 : Hid (E = true) := hidden (by
          rw [← HE.out, decide_eq_true_eq]
          exact ext_getD (by rw [HLA.out, HLB.out]) (fun i hi => HJ.out i (by rw [HLA.out] at hi; exact hi)))
        go_wp2_with fail
        go_ret
        exact ⟨by rw [HE1.out]; rfl, q, HQ.out⟩
  · have hE : decide (la = lb) = false := by
      rw [decide_eq_false_iff_not]
      intro e
      rw [e] at hla
      omega
    rw [hE]
    have hne : ((n : Int) == (m : Int)) = false := by rw [beq_eq_false_iff_ne]; omega
    clear ha hb hla hlb hE
    go_enter Tryd.func15, Tryd.ntmps15
    go_wp2_with fail
    go_ret
    exact ⟨rfl, 0, rfl⟩
set_option maxRecDepth 100000 in
/-- Rising lists with the same members are one. -/
theorem kL_eq {K : Int → Option Int} (hK : Pgs K) (f : Int → Bool) {l : List Int} (hr : l.Pairwise (· < ·)) (hm : ∀ x, x ∈ l ↔ ∃ s, K x = some s ∧ f s = true) : kL K f = l := by
  have hp : (kL K f).Perm l := (List.perm_ext_iff_of_nodup ((kL_rises K f).imp (fun h => by omega)) (hr.imp (fun h => by omega))).2 fun x => by rw [hm, kL_mem hK]
  exact List.Perm.eq_of_pairwise (le := fun a b => a < b) (fun a b _ _ h1 h2 => by omega) (kL_rises K f) hr hp
set_option maxRecDepth 100000 in
theorem lt4 {x : Int} (h : x < 4294967296) : x < 256 ^ 4 := by
  have e4 : (256 : Int) ^ 4 = 4294967296 := by decide
  omega
set_option maxRecDepth 100000 in
theorem frB_reads (n : Int) (l : List Int) (P : Nat) (hn : 0 ≤ n ∧ n < 65536) (hl : ∀ x ∈ l, isPg x) (hc : l.length < 65536) : rdN (frB n l P) 2 2 = l.length ∧ rdN (frB n l P) 4 4 = n ∧ frP (frB n l P) = l := by
  obtain ⟨Z, hZ⟩ : ∃ Z, Z = zs (P - 12 - 4 * l.length) ++ fB 4 (sumN [frH n l P]) := ⟨_, rfl⟩
  have e : frB n l P = [5, 0] ++ (fB 2 l.length ++ (fB 4 n ++ (frT l ++ Z))) := by
    rw [hZ]
    simp only [frB, sealB, frH, List.append_assoc]
  have e1 : rdN (frB n l P) 2 2 = l.length := by
    rw [e, rdN_mid [5, 0] (fB 2 l.length) _ 2 2 rfl (fB_length _ _), fB_read 2 _ (by omega) (by simp; omega)]
  have e2 : rdN (frB n l P) 4 4 = n := by
    rw [e, show [5, 0] ++ (fB 2 l.length ++ (fB 4 n ++ (frT l ++ Z))) = ([5, 0] ++ fB 2 l.length) ++ (fB 4 n ++ (frT l ++ Z)) from by simp only [List.append_assoc], rdN_mid _ (fB 4 n) _ 4 4 (by simp [fB_length]) (fB_length _ _), fB_read 4 _ (by omega) (lt4 (by omega))]
  refine ⟨e1, e2, ?_⟩
  apply ext_getD
  · rw [frP_length, e1]; rfl
  · intro i hi
    rw [frP_length, e1] at hi
    have hi' : i < l.length := by simpa using hi
    rw [frP_at _ _ (by rw [e1]; exact hi)]
    have h1 : l = l.take i ++ ([l.getD i 0] ++ l.drop (i + 1)) := by
      rw [← List.append_assoc, ← takeZ l i hi', List.take_append_drop]
    have h2 : frT l = frT (l.take i) ++ (fB 4 (l.getD i 0) ++ frT (l.drop (i + 1))) := by
      conv => lhs; rw [h1]
      rw [frT_append, frT_append, frT_one]
    have h3 : isPg (l.getD i 0) := hl _ (getD_mem l i hi')
    rw [e, h2]
    rw [show [5, 0] ++ (fB 2 l.length ++ (fB 4 n ++ ((frT (l.take i) ++ (fB 4 (l.getD i 0) ++ frT (l.drop (i + 1)))) ++ Z))) = ([5, 0] ++ (fB 2 l.length ++ (fB 4 n ++ frT (l.take i)))) ++ (fB 4 (l.getD i 0) ++ (frT (l.drop (i + 1)) ++ Z)) from by simp only [List.append_assoc]]
    rw [rdN_mid _ (fB 4 (l.getD i 0)) _ (8 + 4 * i) 4 (by simp [fB_length, frT_length, List.length_take, Nat.min_eq_left (Nat.le_of_lt hi')]; omega) (fB_length _ _), fB_read 4 _ (by omega) (lt4 (by omega))]
set_option maxRecDepth 100000 in
theorem frD_of {n : Int} {l : List Int} {P : Nat} (h : frE n l P = 0) : frD (frB n l P) = (n, l, 0) := by
  obtain ⟨h1, h2, h3, h4⟩ := frE_zero h
  have hp := pwb_le h1
  obtain ⟨e1, e2, e3⟩ := frB_reads n l P (by omega) (rsE_zero l 0 h4) (by omega)
  have hl := frB_length n l P (by omega)
  unfold frD frOk
  rw [e1, e2, e3, hl]
  simp [h1, h3, h]
end Go.Proofs.YtedgpcckbdnijaaDoor

/- What the law's live answers. -/

namespace Go.Proofs.YtedgpcckbdnijaaDoor
open Go.RowKit Go.Maps

set_option maxRecDepth 100000 in
/-- A row of ints that a call lays. -/
theorem lit_slz (u : World) (xs : List Int) (hx : ∀ x ∈ xs, -9223372036854775808 ≤ x ∧ x ≤ 9223372036854775807) (hl : xs.length ≤ 65536) : SlZ (u.alloc (.cells (IV xs).toArray 3)) (some ⟨u.heap.size, 0, none⟩) xs.length xs.length xs :=
  Bj.slz (al_row u _) hl hx
set_option maxRecDepth 100000 in
theorem OwnJ.slz {w : World} {B : Nat} {v : Value} {l : List Int} (h : OwnJ w B v l) (hl : l.length ≤ 65536) (hx : ∀ x ∈ l, -9223372036854775808 ≤ x ∧ x ≤ 9223372036854775807) : ∃ ao cap, v = .slice ao l.length cap ∧ SlZ w ao l.length cap l := by
  obtain ⟨ao, cap, e, hs⟩ := h.sl
  refine ⟨ao, cap, e, hs.hlen, by omega, hx, hs.hcap, hs.hat.imp id ?_⟩
  rintro ⟨b, e, hlt, hc⟩
  exact ⟨b, 0, e, hlt, fun i hi => by rw [Nat.zero_add]; exact hc i hi⟩
def K0 : Int → Option Int := KL [9, 4, 7]
def K1 : Int → Option Int := setK K0 4 (-1)
def K2 : Int → Option Int := setK K1 4 3
def K3 : Int → Option Int := relK K2 3
set_option maxRecDepth 100000 in
theorem K0_at (x : Int) : K0 x = if x = 9 ∨ x = 4 ∨ x = 7 then some 0 else none := by simp [K0, KL]
set_option maxRecDepth 100000 in
theorem K1_at (x : Int) : K1 x = if x = 9 ∨ x = 7 then some 0 else none := by
  unfold K1 setK delK
  rw [if_pos rfl]
  by_cases e : x = 4
  · simp [e]
  · simp [e, K0_at]
set_option maxRecDepth 100000 in
theorem K2_at (x : Int) : K2 x = if x = 9 ∨ x = 7 then some 0 else if x = 4 then some 3 else none := by
  unfold K2 setK putK
  rw [if_neg (by decide)]
  by_cases e : x = 4
  · simp [e]
  · simp [e, K1_at]
set_option maxRecDepth 100000 in
theorem K3_at (x : Int) : K3 x = if x = 9 ∨ x = 4 ∨ x = 7 then some 0 else none := by
  unfold K3 relK
  rw [K2_at]
  by_cases e : x = 9 ∨ x = 7
  · rw [if_pos e, if_pos (by omega)]
    simp [dueF]
  · rw [if_neg e]
    by_cases e2 : x = 4
    · simp [e2, dueF]
    · rw [if_neg e2, if_neg (by omega)]
set_option maxRecDepth 100000 in
theorem K2_pg : Pgs K2 := by
  intro k f h
  rw [K2_at] at h
  by_cases e : k = 9 ∨ k = 7
  · omega
  · rw [if_neg e] at h
    by_cases e2 : k = 4
    · omega
    · rw [if_neg e2] at h; cases h
set_option maxRecDepth 100000 in
theorem K3_pg : Pgs K3 := by
  intro k f h
  rw [K3_at] at h
  by_cases e : k = 9 ∨ k = 4 ∨ k = 7
  · omega
  · rw [if_neg e] at h; cases h
set_option maxRecDepth 100000 in
theorem lst0 {p : Nat} (h : Lst K0 p) : p = 4 := by
  have h1 := h.1
  rw [K0_at] at h1
  have h2 : (p : Int) = 9 ∨ (p : Int) = 4 ∨ (p : Int) = 7 := by
    by_cases e : (p : Int) = 9 ∨ (p : Int) = 4 ∨ (p : Int) = 7
    · exact e
    · rw [if_neg e] at h1; cases h1
  by_cases e : p = 4
  · exact e
  · have h3 := h.2 4 (by omega)
    rw [K0_at] at h3
    simp at h3
set_option maxRecDepth 100000 in
theorem due2 : kL K2 (dueF 3) = [4] := kL_eq K2_pg _ (by simp) (fun x => by
  rw [K2_at]
  by_cases e : x = 9 ∨ x = 7
  · rw [if_pos e]
    simp [dueF]
    omega
  · rw [if_neg e]
    by_cases e2 : x = 4
    · simp [e2, dueF]
    · simp [e2])
set_option maxRecDepth 100000 in
theorem all3 : kL K3 (fun _ => true) = [4, 7, 9] := kL_eq K3_pg _ (by simp) (fun x => by
  rw [K3_at]
  by_cases e : x = 9 ∨ x = 4 ∨ x = 7
  · rw [if_pos e]
    simp
    omega
  · rw [if_neg e]
    simp
    omega)
set_option maxRecDepth 100000 in
theorem give1 : giveE K1 4 3 = 0 := by
  unfold giveE
  rw [if_pos (by decide), if_pos (by decide), K1_at]
  decide
set_option maxRecDepth 100000 in
theorem new0 : newE [9, 4, 7] = 0 := by decide
set_option maxRecDepth 100000 in
theorem enc0 : frE 0 [2, 300] 512 = 0 := by decide
set_option maxRecDepth 100000 in
theorem appB_none (K : Int → Option Int) : appB K (fun _ => none) = K := by
  funext x
  rfl
set_option maxRecDepth 100000 in
theorem no0 (h : ∀ x, K0 x ≠ some 0) : False := h 4 (by rw [K0_at]; simp)
end Go.Proofs.YtedgpcckbdnijaaDoor

/- live, followed as its text goes. -/

namespace Go.Proofs.YtedgpcckbdnijaaDoor
open Go.RowKit Go.Maps

set_option maxRecDepth 100000 in
theorem new_yes (w : World) (ao : Option Addr) (n cap : Nat) (l : List Int) (hs : SlZ w ao n cap l) (h : newE l = 0) :
    Calls Tryd.prog 6 #[.slice ao n cap] w fun e u => ∃ b m, e = .returned (.tuple #[pB b, .int .i64 0]) ∧ Hid (Below w.heap.size w u ∧ w.heap.size ≤ b ∧ w.heap.size ≤ m ∧ Fl u b m (.slice none 0 0) 0 (KL l) []) := by
  refine (new_any w ao n cap l hs).mono ?_
  rintro e u ⟨p, rfl, hq⟩
  rw [h] at hq ⊢
  obtain ⟨h1, ⟨_, b, m, rfl, h2, h3, h4⟩ | ⟨h2, _⟩⟩ := hq.out
  · exact ⟨b, m, rfl, hidden ⟨h1, h2, h3, h4⟩⟩
  · exact absurd rfl h2
set_option maxRecDepth 100000 in
theorem take4 {w : World} {b m : Nat} {last : Int} (h : Fl w b m (.slice none 0 0) last K0 []) (hT : Tz w) : Calls Tryd.prog 16 #[pB b] w fun e u => e = .returned (.tuple #[.int .i64 4, .bool true]) ∧ Hid (Fl u b m (.slice none 0 0) last K1 [] ∧ Cf (Fb b m (.slice none 0 0) []) w u) := by
  refine (take_any h hT).mono ?_
  rintro e u ⟨p, ok, rfl, hq⟩
  rcases hq.out with ⟨rfl, h1, h2, h3⟩ | ⟨_, _, h1, _⟩
  · obtain rfl := lst0 h1
    exact ⟨rfl, hidden ⟨h2, h3⟩⟩
  · exact (no0 h1).elim
set_option maxRecDepth 100000 in
theorem relS_nil : ∀ (l : List Int) (K : Int → Option Int), (relS l (K, [])).2 = []
  | [], _ => rfl
  | p :: l, K => by
    unfold relS
    exact relS_nil l _
set_option maxRecDepth 100000 in
/-- Its blocks are b and m alone. -/
theorem Fb_none {b m k : Nat} (h : Fb b m (.slice none 0 0) [] k) : k = b ∨ k = m := by
  rcases h with h | h | h | ⟨q, hq, _⟩
  · exact .inl h
  · exact .inr h
  · cases h
  · cases hq
set_option maxRecDepth 100000 in
set_option maxHeartbeats 4000000 in
theorem live_any (w : World) (ht : Tab w) (hz : Tz w) (h0 : 1 < w.heap.size) :
    Calls Tryd.prog 5 #[] w fun e u => e = .returned (.bool true) ∧ Hid (Below w.heap.size w u) := by
  have HT := hidden ht
  have HTZ : Hid (∀ u, Below w.heap.size w u → Tz u) := hidden (fun u hu j hj => (hu.cell (p := ⟨0, j, none⟩) (World.block_lt_of_cell? w _ (hz j hj))).trans (hz j hj))
  have HNW := hidden (new_yes _ _ _ _ [9, 4, 7] (lit_slz w [9, 4, 7] (by decide) (by decide)) new0)
  have hb0 : Below w.heap.size w (w.alloc (.cells (IV [9, 4, 7]).toArray 3)) := bl_al (Below.refl _ _) (Nat.le_refl _) _
  have HB0 := hidden hb0
  change Hid (Calls Tryd.prog _ #[.slice (some ⟨w.heap.size, 0, none⟩) 3 3] (w.alloc (.cells #[.int .i64 9, .int .i64 4, .int .i64 7] 3)) _) at HNW
  change Hid (Below w.heap.size w (w.alloc (.cells #[.int .i64 9, .int .i64 4, .int .i64 7] 3))) at HB0
  clear ht hz hb0
  go_enter Tryd.func5, Tryd.ntmps5
  go_wp2_with (go_at_call 6; refine HNW.out.mono ?_; rintro e w1 ⟨b, m, rfl, H1⟩; refine Hid.out ?_)
  apply hidden
  have HB1 : Hid (Below w.heap.size w w1) := hidden (HB0.out.trans (H1.out.1.mono HB0.out.size))
  have HBM : Hid (w.heap.size ≤ b ∧ w.heap.size ≤ m) := hidden ⟨Nat.le_trans HB0.out.size H1.out.2.1, Nat.le_trans HB0.out.size H1.out.2.2.1⟩
  have HFB : Hid (∀ k, k < w.heap.size → ¬ Fb b m (.slice none 0 0) [] k) := hidden (fun k hk hf => by
    have := HBM.out
    rcases Fb_none hf with e | e <;> omega)
  have HF1 : Hid (Fl w1 b m (.slice none 0 0) 0 K0 []) := hidden H1.out.2.2.2
  have HTK := hidden (take4 HF1.out (HTZ.out _ HB1.out))
  clear HNW HB0 H1
  go_wp2_with (go_at_call 16; refine HTK.out.mono ?_; rintro e w2 ⟨rfl, H2⟩; refine Hid.out ?_)
  apply hidden
  have HB2 : Hid (Below w.heap.size w w2) := hidden (HB1.out.trans (H2.out.2.below HB1.out.size HFB.out))
  have HGV := hidden (give_any H2.out.1 4 3)
  rw [give1] at HGV
  clear HTK HB1 HF1
  go_wp2_with (go_at_call 17; refine HGV.out.mono ?_; rintro e w3 ⟨rfl, H3⟩; refine Hid.out ?_)
  apply hidden
  have H3' : Hid (Fl w3 b m (.slice none 0 0) 0 K2 [] ∧ Cf (Fb b m (.slice none 0 0) []) w2 w3) := hidden (by
    rcases H3.out with ⟨_, h⟩ | ⟨h, _⟩
    · exact h
    · exact absurd rfl h)
  have HB3 : Hid (Below w.heap.size w w3) := hidden (HB2.out.trans (H3'.out.2.below HB2.out.size HFB.out))
  have HRL := hidden (release_any H3'.out.1 3)
  rw [due2, relS_nil] at HRL
  clear HGV HB2 H2 H3
  go_wp2_with (go_at_call 18; refine HRL.out.mono ?_; rintro e w4 ⟨rfl, H4⟩; refine Hid.out ?_)
  apply hidden
  have HF4 : Hid (Fl w4 b m (.slice none 0 0) 0 K3 []) := hidden H4.out.1
  have HB4 : Hid (Below w.heap.size w w4) := hidden (HB3.out.trans (H4.out.2.below HB3.out.size HFB.out))
  have HAL := hidden (all_any HF4.out.fs)
  rw [all3] at HAL
  clear HRL HB3 H3' H4
  go_wp2_with (go_at_call 19; refine HAL.out.mono ?_; rintro e w5 ⟨v, rfl, HO5, HBa⟩; refine Hid.out ?_)
  apply hidden
  obtain ⟨ao, cap, rfl, hsl5⟩ := HO5.out.slz (by decide) (by decide)
  have HS5 := hidden hsl5
  have HB5 : Hid (Below w.heap.size w w5) := hidden (HB4.out.trans (HBa.out.mono HB4.out.size))
  have HF5 := hidden (HF4.out.on HBa.out)
  have HAB : Hid (∀ p, ao = some p → w4.heap.size ≤ p.block ∧ p.block < w5.heap.size) := hidden (fun p hp => HO5.out.lt (k := p.block) (by rw [hp]; rfl))
  have HLB : Hid (b < w4.heap.size ∧ m < w4.heap.size) := hidden ⟨HF4.out.fs.lt, HF4.out.fs.mlt⟩
  have HMK := hidden (mark_young HF5.out ⟨by decide, by decide, fun q hq => by cases hq⟩ (by decide) (fun q hq => by cases hq) (by decide))
  clear hsl5 HAL HB4 HF4 HBa HO5
  go_wp2_with (go_at_call 11; refine HMK.out.mono ?_; rintro e w6 ⟨rfl, H6⟩; refine Hid.out ?_)
  apply hidden
  obtain ⟨mv, bq, h6a, h6b, h6c, h6d⟩ := H6.out
  have HF6 : Hid (Fl w6 b m mv 1 K3 ([] ++ [⟨1, bq, fun _ => none⟩])) := hidden h6a
  have HB6 : Hid (Below w.heap.size w w6) := hidden (HB5.out.trans (h6b.below HB5.out.size HFB.out))
  have HS6 : Hid (SlZ w6 ao 3 cap [4, 7, 9]) := hidden (HS5.out.cf h6b (.inr fun p hp hf => by
    have h1 := HAB.out p hp
    have h2 := HLB.out
    rcases Fb_none hf with e | e <;> omega))
  have HFB6 : Hid (∀ k, Fb b m mv [⟨1, bq, fun _ => none⟩] k → k = b ∨ k = m ∨ w5.heap.size ≤ k) := hidden (fun k hf => by
    rcases hf with e | e | e | ⟨q, hq, e⟩
    · exact .inl e
    · exact .inr (.inl e)
    · rcases h6d k e with h | h
      · cases h
      · exact .inr (.inr h)
    · simp only [List.mem_singleton] at hq
      subst hq
      exact .inr (.inr (by rw [e]; exact h6c)))
  have HBK := hidden (back_at HF6.out (fun x hx => by cases hx))
  change Hid (Calls Tryd.prog _ #[pB b, .int .i64 1] w6 _) at HBK
  clear h6a h6b h6c h6d H6 HMK HS5 HF5
  go_wp2_with (go_at_call 12; refine HBK.out.mono ?_; rintro e w7 ⟨rfl, H7⟩; refine Hid.out ?_)
  apply hidden
  have HB7 : Hid (Below w.heap.size w w7) := hidden (HB6.out.trans (H7.out.2.below HB6.out.size (fun k hk hf => by
    have h1 := HBM.out
    have h2 := HB5.out.size
    rcases HFB6.out k hf with e | e | e <;> omega)))
  have HS7 : Hid (SlZ w7 ao 3 cap [4, 7, 9]) := hidden (HS6.out.cf H7.out.2 (.inr fun p hp hf => by
    have h1 := HAB.out p hp
    have h2 := HLB.out
    rcases HFB6.out _ hf with e | e | e <;> omega))
  clear HBK HB6 HF6 HS6 H7 HFB6 HAB HLB HB5 HFB HBM
  obtain ⟨y8, hy8⟩ : ∃ y, w7.alloc (.cells #[.int .i64 2, .int .i64 300] 3) = y := ⟨_, rfl⟩
  have hby8 : Below w7.heap.size w7 y8 := by rw [← hy8]; exact bl_al (Below.refl _ _) (Nat.le_refl _) _
  have hsy8 : SlZ y8 (some ⟨w7.heap.size, 0, none⟩) 2 2 [2, 300] := by rw [← hy8]; exact lit_slz w7 [2, 300] (by decide) (by decide)
  have HBY : Hid (Below w.heap.size w y8) := hidden (HB7.out.trans (hby8.mono HB7.out.size))
  have HEN := hidden (encF_any 0 512 _ 2 2 [2, 300] y8 hsy8 (HT.out.on HBY.out h0) (Nat.lt_of_lt_of_le h0 HBY.out.size))
  rw [enc0] at HEN
  have HFL : Hid (frL 0 [2, 300] 512 = frB 0 [2, 300] 512) := hidden (by unfold frL; rw [if_pos enc0]; rfl)
  have HDD : Hid (frD (frB 0 [2, 300] 512) = (0, [2, 300], 0)) := hidden (frD_of enc0)
  have HFW : Hid (Wf (frB 0 [2, 300] 512)) := hidden (frB_wf _ _ _)
  have HFN : Hid ((frB 0 [2, 300] 512).length = 512) := hidden (frB_length _ _ _ (by decide))
  rw [HFL.out] at HEN
  generalize frB 0 [2, 300] 512 = PB at *
  have HS8 : Hid (SlZ y8 ao 3 cap [4, 7, 9]) := hidden (HS7.out.on (Nat.le_refl _) hby8)
  clear hby8 hsy8 HS7 HFL
  go_wp2_with (go_at_call 20; refine HEN.out.mono ?_; rintro e w8 ⟨eo, en, rfl, HO8, HBa⟩; refine Hid.out ?_)
  apply hidden
  have HB8 : Hid (Below w.heap.size w w8) := hidden (HBY.out.trans (HBa.out.mono HBY.out.size))
  have HS9 : Hid (SlZ w8 ao 3 cap [4, 7, 9]) := hidden (HS8.out.on (Nat.le_refl _) HBa.out)
  obtain ⟨ao2, cp2, esl, hsl8⟩ : ∃ ao2 cp2, Value.slice eo en en = .slice ao2 512 cp2 ∧ Sl w8 ao2 512 cp2 PB := by
    obtain ⟨a, c, e, h, _⟩ := HO8.out.sl HFW.out (by rw [HFN.out]; decide)
    rw [HFN.out] at e h
    exact ⟨a, c, e, h⟩
  injection esl with e1 e2 e3
  subst e1 e2 e3
  have HDC := hidden (decF_any _ _ _ PB w8 hsl8 (HT.out.on HB8.out h0) (Nat.lt_of_lt_of_le h0 HB8.out.size))
  rw [HDD.out] at HDC
  clear hsl8 HEN HBY HO8 HBa HS8 hy8 HDD HFW HFN
  go_wp2_with (go_at_call 21; refine HDC.out.mono ?_; rintro e w9 ⟨po, pn, rfl, HO9, HBa⟩; refine Hid.out ?_)
  apply hidden
  have HB9 : Hid (Below w.heap.size w w9) := hidden (HB8.out.trans (HBa.out.mono HB8.out.size))
  have HS10 : Hid (SlZ w9 ao 3 cap [4, 7, 9]) := hidden (HS9.out.on (Nat.le_refl _) HBa.out)
  obtain ⟨ao3, cp3, esl, hsl9⟩ := HO9.out.slz (by decide) (by decide)
  change Value.slice po pn pn = .slice ao3 2 cp3 at esl
  change SlZ w9 ao3 2 cp3 [2, 300] at hsl9
  injection esl with e1 e2 e3
  subst e1 e2 e3
  obtain ⟨y9, hy9⟩ : ∃ y, w9.alloc (.cells #[.int .i64 4, .int .i64 7, .int .i64 9] 3) = y := ⟨_, rfl⟩
  have hby9 : Below w9.heap.size w9 y9 := by rw [← hy9]; exact bl_al (Below.refl _ _) (Nat.le_refl _) _
  have hsy9 : SlZ y9 (some ⟨w9.heap.size, 0, none⟩) 3 3 [4, 7, 9] := by rw [← hy9]; exact lit_slz w9 [4, 7, 9] (by decide) (by decide)
  have HSM := hidden (sameZ_any _ _ _ _ _ _ _ _ y9 (HS10.out.on (Nat.le_refl _) hby9) hsy9)
  have HBY : Hid (Below w.heap.size w y9) := hidden (HB9.out.trans (hby9.mono HB9.out.size))
  have HP9 : Hid (SlZ y9 po 2 2 [2, 300]) := hidden (hsl9.on (Nat.le_refl _) hby9)
  rw [show decide (([4, 7, 9] : List Int) = [4, 7, 9]) = true from by decide] at HSM
  clear hby9 hsy9 HS10 HS9 hsl9 HO9 HDC HB8 HBa HB9 HB7
  go_wp2_with (go_at_call 15; refine HSM.out.mono ?_; rintro e w10 ⟨rfl, hq⟩; refine Hid.out ?_)
  apply hidden
  obtain ⟨q, rfl⟩ := hq
  have hd : Below y9.heap.size y9 (y9.drewN q) := ⟨rfl, rfl, rfl, Nat.le_refl _, fun _ _ => rfl⟩
  have HB10 : Hid (Below w.heap.size w (y9.drewN q)) := hidden (HBY.out.trans (hd.mono HBY.out.size))
  have HP10 := hidden (HP9.out.drew q)
  clear HSM HBY HP9 hy9 hd
  generalize y9.drewN q = w10 at *
  obtain ⟨y10, hy10⟩ : ∃ y, w10.alloc (.cells #[.int .i64 2, .int .i64 300] 3) = y := ⟨_, rfl⟩
  have hby10 : Below w10.heap.size w10 y10 := by rw [← hy10]; exact bl_al (Below.refl _ _) (Nat.le_refl _) _
  have hsy10 : SlZ y10 (some ⟨w10.heap.size, 0, none⟩) 2 2 [2, 300] := by rw [← hy10]; exact lit_slz w10 [2, 300] (by decide) (by decide)
  have HSM := hidden (sameZ_any _ _ _ _ _ _ _ _ y10 (HP10.out.on (Nat.le_refl _) hby10) hsy10)
  have HBY : Hid (Below w.heap.size w y10) := hidden (HB10.out.trans (hby10.mono HB10.out.size))
  rw [show decide (([2, 300] : List Int) = [2, 300]) = true from by decide] at HSM
  clear hby10 hsy10 HP10 HB10
  have HRM := fun u => room_any 512 u
  rw [show roomN 512 = 125 from by decide] at HRM
  go_wp2_with (first
    | (go_at_call 15; refine HSM.out.mono ?_; rintro e w11 ⟨rfl, hq⟩)
    | (go_at_call 22; refine same_call (HRM _) ?_))
  go_ret
  obtain ⟨q2, rfl⟩ := hq
  have hd : Below y10.heap.size y10 (y10.drewN q2) := ⟨rfl, rfl, rfl, Nat.le_refl _, fun _ _ => rfl⟩
  exact ⟨rfl, hidden (HBY.out.trans (hd.mono HBY.out.size))⟩
end Go.Proofs.YtedgpcckbdnijaaDoor
