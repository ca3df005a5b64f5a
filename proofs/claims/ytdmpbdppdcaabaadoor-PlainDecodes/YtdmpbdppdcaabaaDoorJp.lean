/- What Find finds among rising keys; decoded cells as a slice of cells. -/
import Derived.Test.YtdmpbdppdcaabaaDoorJo
import Derived.Test.YtdmpbdppdcaabaaDoorJm
namespace Go.Proofs.YtdmpbdppdcaabaaDoor
open Go.RowKit

set_option maxRecDepth 100000 in
theorem kl_irr (a : List Int) : ¬ kl a a := by unfold kl; rw [ordL_self]; decide
set_option maxRecDepth 100000 in
theorem kl_anti {a b : List Int} (h : kl a b) : ¬ kl b a := fun g => kl_irr a (kl_trans _ _ _ h g)
/-- The keys rise. -/
def Rise (cs : List Cl) : Prop := ∀ (i j : Nat) (c d : Cl), i < j → cs[i]? = some c → cs[j]? = some d → kl c.key d.key
set_option maxRecDepth 100000 in
theorem Fnd.one {cs : List Cl} {q : List Int} {r s : Nat} (h : Fnd cs q r) (g : Fnd cs q s) : r = s := by
  rcases Nat.lt_trichotomy r s with e | e | e
  · obtain ⟨c, hc⟩ : ∃ c, cs[r]? = some c := ⟨_, List.getElem?_eq_getElem (by have := g.le; omega)⟩
    exact absurd (g.lo r c e hc) (h.hi r c (Nat.le_refl _) hc)
  · exact e
  · obtain ⟨c, hc⟩ : ∃ c, cs[s]? = some c := ⟨_, List.getElem?_eq_getElem (by have := h.le; omega)⟩
    exact absurd (h.lo s c e hc) (g.hi s c (Nat.le_refl _) hc)
set_option maxRecDepth 100000 in
theorem fnd_self {cs : List Cl} (hr : Rise cs) (i : Nat) (c : Cl) (hc : cs[i]? = some c) : Fnd cs c.key i := by
  refine ⟨Nat.le_of_lt (List.getElem?_eq_some_iff.1 hc).1, fun j d hj hd => hr j i d c hj hd hc, fun j d hj hd hk => ?_⟩
  rcases Nat.lt_or_ge i j with e | e
  · exact kl_anti hk (hr i j c d e hc hd)
  · obtain rfl : j = i := by omega
    rw [hc] at hd
    injection hd with hd
    subst hd
    exact kl_irr _ hk
set_option maxRecDepth 100000 in
theorem fnd_ex {cs : List Cl} (hr : Rise cs) (q : List Int) : ∃ r, Fnd cs q r := by
  have key : ∀ m, m ≤ cs.length → ∃ r, r ≤ m ∧ (∀ i c, i < r → cs[i]? = some c → kl c.key q) ∧ (r = m ∨ ∃ c, cs[r]? = some c ∧ ¬ kl c.key q) := by
    intro m
    induction m with
    | zero => intro _; exact ⟨0, by omega, fun i c hi => by omega, .inl rfl⟩
    | succ m ih =>
      intro hm
      obtain ⟨r, h1, h2, h3⟩ := ih (by omega)
      rcases h3 with rfl | h3
      · obtain ⟨c, hc⟩ : ∃ c, cs[r]? = some c := ⟨_, List.getElem?_eq_getElem (by omega)⟩
        by_cases hk : kl c.key q
        · refine ⟨r + 1, by omega, fun i d hi hd => ?_, .inl rfl⟩
          by_cases e : i = r
          · subst e
            rw [hc] at hd
            injection hd with hd
            subst hd
            exact hk
          · exact h2 i d (by omega) hd
        · exact ⟨r, by omega, h2, .inr ⟨c, hc, hk⟩⟩
      · exact ⟨r, by omega, h2, .inr h3⟩
  obtain ⟨r, h1, h2, h3⟩ := key cs.length (Nat.le_refl _)
  refine ⟨r, h1, h2, fun i c hi hc hk => ?_⟩
  have hil := (List.getElem?_eq_some_iff.1 hc).1
  rcases h3 with h3 | ⟨d, hd, hn⟩
  · omega
  · by_cases e : i = r
    · subst e
      rw [hc] at hd
      injection hd with hd
      subst hd
      exact hn hk
    · exact hn (kl_trans _ _ _ (hr r i d c (by omega) hd hc) hk)
set_option maxRecDepth 100000 in
/-- The cell at i stands ahead just where i is below r. -/
theorem Fnd.iff {cs : List Cl} {q : List Int} {r : Nat} (h : Fnd cs q r) (i : Nat) (c : Cl) (hc : cs[i]? = some c) : kl c.key q ↔ i < r := by
  constructor
  · intro hk
    rcases Nat.lt_or_ge i r with e | e
    · exact e
    · exact absurd hk (h.hi i c e hc)
  · intro hi
    exact h.lo i c hi hc

set_option maxRecDepth 100000 in
theorem Is.rise {k : Int} {n : Nat} {cs : List Cl} {b : List Int} (h : Is k n cs b) : Rise cs := fun i j c d hij hc hd => chk_rise h.ok i j c d hij hc hd
set_option maxRecDepth 100000 in
theorem Is.fits {k : Int} {n : Nat} {cs : List Cl} {b : List Int} (h : Is k n cs b) : ∀ c ∈ cs, c.fit := fun c hc => (chk_may h.ok c hc).fit (by have := pw_nat h.sz; omega)
set_option maxRecDepth 100000 in
theorem Is.few {k : Int} {n : Nat} {cs : List Cl} {b : List Int} (h : Is k n cs b) : cs.length ≤ 65536 ∧ szN cs ≤ 65536 ∧ (bdy cs).length ≤ 65536 := by
  have h1 := pw_nat h.sz
  have h2 := szN_eq cs
  have h3 := h.fit
  omega
set_option maxRecDepth 100000 in
theorem dec_slc {w' : World} {B g : Nat} {cs : List Cl} (hr : RowC w' g cs.length) (hd : ∀ i d, cs[i]? = some d → DAt w' B g (i * 5) d) (hwf : ∀ d ∈ cs, d.Wf) (hfit : ∀ d ∈ cs, d.fit) (hl : cs.length ≤ 65536) : SlC w' (some ⟨g, 0, none⟩) cs.length cs.length cs := by
  refine ⟨rfl, Nat.le_refl _, by omega, (by intro h; cases h), .inr ⟨g, 0, rfl, hr.lt, fun i c hc => ?_⟩⟩
  have hm : c ∈ cs := List.mem_of_getElem? hc
  have h1 := (hfit c hm).key
  have h2 := (hfit c hm).val
  rw [Nat.zero_add]
  exact (hd i c hc).cat (hwf c hm) (by omega) (by omega)
set_option maxRecDepth 100000 in
/-- What is encoded is a page of these cells. -/
theorem enc_is {k n : Int} {cs : List Cl} (h : encE k n cs = 0) : Is k n.toNat cs (pgB k n.toNat cs) ∧ ((n.toNat : Nat) : Int) = n := by
  unfold encE at h
  split at h
  · next h1 =>
    have hp := pw_le h1.2
    have e : ((n.toNat : Nat) : Int) = n := by omega
    split at h
    · next h2 =>
      split at h
      · simp at h
      · next h3 =>
        refine ⟨⟨h1.1, by rw [e]; exact h1.2, by rw [e]; exact h2, by omega, rfl⟩, e⟩
    · next h2 => exact absurd h h2
  · simp at h
set_option maxRecDepth 100000 in
theorem Is.enc {k : Int} {n : Nat} {cs : List Cl} {b : List Int} (h : Is k n cs b) : encE k (n : Int) cs = 0 := by
  unfold encE
  have := h.fit
  rw [if_pos ⟨h.kd, h.sz⟩, if_pos h.ok, if_neg (by omega)]
end Go.Proofs.YtdmpbdppdcaabaaDoor

/- The law's great; the document's SameCell and SameCells. -/

namespace Go.Proofs.YtdmpbdppdcaabaaDoor
open Go.RowKit

/-- How much cells are. -/
def gN (cs : List Cl) : Nat := (cs.map fun c => c.key.length + c.val.length).sum
set_option maxRecDepth 100000 in
theorem gN_take (cs : List Cl) (i : Nat) (c : Cl) (h : cs[i]? = some c) : gN (cs.take (i + 1)) = gN (cs.take i) + (c.key.length + c.val.length) := by
  unfold gN
  rw [List.take_add_one, h]
  simp
set_option maxRecDepth 100000 in
theorem gN_szN (cs : List Cl) : szN cs ≤ 8 + 13 * cs.length + gN cs := by
  unfold szN gN
  induction cs with
  | nil => simp
  | cons c r ih =>
    simp only [List.map_cons, List.sum_cons, List.length_cons]
    have : ctk c ≤ 13 + (c.key.length + c.val.length) := by unfold ctk; split <;> omega
    omega

/-- What great comes to. -/
def GrtTo (n : Nat) (cs : List Cl) (w : World) (e : Ending) (w' : World) : Prop := ∃ b : Bool, e = .returned (.bool b) ∧ Hid (Below w.heap.size w w') ∧ Hid (b = false → n ≤ 100000 ∧ szN cs ≤ 8388608)
set_option maxRecDepth 100000 in
theorem sameCell_self (c : Cl) (ka ka' va va' : Option Addr) (kc kc' vc vc' : Nat) (w : World) (h1 : Sl w ka c.key.length kc c.key) (h2 : Sl w ka' c.key.length kc' c.key) (h3 : Sl w va c.val.length vc c.val) (h4 : Sl w va' c.val.length vc' c.val) :
    Calls Tryd.prog 51 #[.agg #[.slice ka c.key.length kc, .int .i64 c.kd, .slice va c.val.length vc, .int .i64 c.pg, .int .i64 c.ct], .agg #[.slice ka' c.key.length kc', .int .i64 c.kd, .slice va' c.val.length vc', .int .i64 c.pg, .int .i64 c.ct]] w fun e w' => e = .returned (.bool true) ∧ Below w.heap.size w w' := by
  obtain ⟨x, hx⟩ : ∃ x, ((w.alloc (.cells #[.slice ka c.key.length kc, .int .i64 c.kd, .slice va c.val.length vc, .int .i64 c.pg, .int .i64 c.ct] 44)).alloc (.cells #[.slice ka' c.key.length kc', .int .i64 c.kd, .slice va' c.val.length vc', .int .i64 c.pg, .int .i64 c.ct] 44)) = x := ⟨_, rfl⟩
  have hb : Below w.heap.size w x := by rw [← hx]; exact bl_al (bl_al (Below.refl _ _) (Nat.le_refl _) _) (Nat.le_refl _) _
  have k1 : ∀ q, (convert 22 9 (.slice ka c.key.length kc)).run Tryd.prog (x.drewN q) = .ok (.string (strOfNums c.key)) (x.drewN q) := fun q => conv_sl ((h1.on (Nat.le_refl _) hb).drewN q)
  have k2 : ∀ q, (convert 22 9 (.slice ka' c.key.length kc')).run Tryd.prog (x.drewN q) = .ok (.string (strOfNums c.key)) (x.drewN q) := fun q => conv_sl ((h2.on (Nat.le_refl _) hb).drewN q)
  have k3 : ∀ q, (convert 22 9 (.slice va c.val.length vc)).run Tryd.prog (x.drewN q) = .ok (.string (strOfNums c.val)) (x.drewN q) := fun q => conv_sl ((h3.on (Nat.le_refl _) hb).drewN q)
  have k4 : ∀ q, (convert 22 9 (.slice va' c.val.length vc')).run Tryd.prog (x.drewN q) = .ok (.string (strOfNums c.val)) (x.drewN q) := fun q => conv_sl ((h4.on (Nat.le_refl _) hb).drewN q)
  have j1 := conv_sl (h1.on (Nat.le_refl _) hb)
  have j2 := conv_sl (h2.on (Nat.le_refl _) hb)
  have j3 := conv_sl (h3.on (Nat.le_refl _) hb)
  have j4 := conv_sl (h4.on (Nat.le_refl _) hb)
  have hz1 : (w.alloc (.cells #[.slice ka c.key.length kc, .int .i64 c.kd, .slice va c.val.length vc, .int .i64 c.pg, .int .i64 c.ct] 44)).heap.size = w.heap.size + 1 := by simp
  have b1 : C5 x w.heap.size (.slice ka c.key.length kc) (.int .i64 c.kd) (.slice va c.val.length vc) (.int .i64 c.pg) (.int .i64 c.ct) := by
    rw [← hx]
    exact box_on (C5.box w _ _ _ _ _) (bl_al (Below.refl _ _) (Nat.le_refl _) _)
  have b2 : C5 x (w.heap.size + 1) (.slice ka' c.key.length kc') (.int .i64 c.kd) (.slice va' c.val.length vc') (.int .i64 c.pg) (.int .i64 c.ct) := by
    rw [← hx, ← hz1]
    exact C5.box _ _ _ _ _ _
  obtain ⟨c0, c1, c2, c3, c4⟩ := b1.cells
  obtain ⟨d0, d1, d2, d3, d4⟩ := b2.cells
  have HB := hidden hb
  clear h1 h2 h3 h4 hb b1 b2 hz1
  go_enter Tryd.func51, Tryd.ntmps51
  go_wp2
  go_ret
  exact ⟨rfl, HB.out⟩
set_option maxRecDepth 100000 in
set_option maxHeartbeats 1000000 in
theorem sameCells_self (ao bo : Option Addr) (n c d : Nat) (cs : List Cl) (w : World) (ha : SlC w ao n c cs) (hb : SlC w bo n d cs) :
    Calls Tryd.prog 25 #[.slice ao n c, .slice bo n d] w fun e w' => e = .returned (.bool true) ∧ Hid (Below w.heap.size w w') := by
  have HA := hidden ha
  have HC := hidden hb
  have hn := ha.hroom
  clear ha hb
  go_enter Tryd.func25, Tryd.ntmps25
  go_wp2_with fail
  go_loopw [5] (fun i wr => ∃ j : Nat, j ≤ n ∧ i = .int .i64 j ∧ Hid (Below w.heap.size w wr)) (fun i _ => n - (intOf i).toNat)
  case atStart => exact ⟨0, by omega, rfl, hidden (Below.refl _ _)⟩
  case round =>
    obtain ⟨j, hj, rfl, HB⟩ := hrel
    have bj : (j : Int) ≤ 140737488355328 := by omega
    by_cases hlt : j < n
    · have hltI : (j : Int) < (n : Int) := by omega
      obtain ⟨b, off, x, ka, kc, va, vc, rfl, hb, hci, c0, c1, c2, c3, c4, hk, hv⟩ := (HA.out.on HB.out).item j hlt
      obtain ⟨b', off', x', ka', kc', va', vc', rfl, hb', hci', d0, d1, d2, d3, d4, hk', hv'⟩ := (HC.out.on HB.out).item j hlt
      rw [hci] at hci'
      injection hci' with hxx
      subst hxx
      have HS : Hid (∀ u, Below wr.heap.size wr u → Calls Tryd.prog 51 #[.agg #[.slice ka x.key.length kc, .int .i64 x.kd, .slice va x.val.length vc, .int .i64 x.pg, .int .i64 x.ct], .agg #[.slice ka' x.key.length kc', .int .i64 x.kd, .slice va' x.val.length vc', .int .i64 x.pg, .int .i64 x.ct]] u fun e w' => e = .returned (.bool true) ∧ Below wr.heap.size wr w') :=
        hidden fun u hu => (sameCell_self x ka ka' va va' kc kc' vc vc' u (hk.on (Nat.le_refl _) hu) (hk'.on (Nat.le_refl _) hu) (hv.on (Nat.le_refl _) hu) (hv'.on (Nat.le_refl _) hu)).mono fun e w' h => ⟨h.1, bl_go hu (Nat.le_refl _) h.2⟩
      clear hk hk' hv hv' hci
      go_wp2_with fail
      go_region_with (first | (go_at_call 51; refine (HS.out _ ?_).mono ?_; (repeat (first | exact Below.refl _ _ | apply Below.drew | apply below_drewN)); rintro e w1 ⟨rfl, hb1⟩))
      all_goals
        go_wp2
        go_roundw
        case rel => exact ⟨j + 1, by omega, by go_num, hidden (bl_go HB.out (Nat.le_refl _) hb1)⟩
        case measure => simp [intOf]; omega
    · obtain rfl : j = n := by omega
      have hlI : ¬ (j : Int) < (j : Int) := by omega
      go_wp2
      go_ret
      exact ⟨rfl, HB⟩
end Go.Proofs.YtdmpbdppdcaabaaDoor

/- Three cells that may be fit; cells appended to cells. -/

namespace Go.Proofs.YtdmpbdppdcaabaaDoor
open Go.RowKit

set_option maxRecDepth 100000 in
theorem kl_total : ∀ (a b : List Int), ¬ kl a b → a ≠ b → kl b a
  | [], [], _, h => absurd rfl h
  | [], _ :: _, h, _ => absurd (by simp [kl, ordL]) h
  | _ :: _, [], _, _ => by simp [kl, ordL]
  | x :: a, y :: b, h, g => by
    have ih := kl_total a b
    unfold kl at *
    simp only [ordL] at h ⊢
    by_cases h1 : x < y
    · rw [if_pos h1] at h
      exact absurd rfl h
    · rw [if_neg h1] at h
      by_cases h2 : y < x
      · rw [if_pos h2]
      · rw [if_neg h2] at h
        rw [if_neg h2, if_neg h1]
        obtain rfl : x = y := by omega
        exact ih h (fun e => g (by rw [e]))
/-- The keys rise. -/
def Rs (cs : List Cl) : Prop := cs.Pairwise fun c d => kl c.key d.key
set_option maxRecDepth 100000 in
theorem rs_ins {ds : List Cl} {c : Cl} {r : Nat} (hr : Rs ds) (hf : Fnd ds c.key r) (hne : ∀ d ∈ ds, d.key ≠ c.key) : Rs (ds.take r ++ c :: ds.drop r) := by
  unfold Rs at *
  have hlo : ∀ d ∈ ds.take r, kl d.key c.key := by
    intro d hd
    obtain ⟨i, hi, e⟩ := List.getElem_of_mem hd
    rw [List.length_take] at hi
    exact hf.lo i d (by omega) (by rw [List.getElem_take] at e; rw [← e]; exact List.getElem?_eq_getElem (by omega))
  have hhi : ∀ d ∈ ds.drop r, kl c.key d.key := by
    intro d hd
    obtain ⟨i, hi, e⟩ := List.getElem_of_mem hd
    rw [List.length_drop] at hi
    rw [List.getElem_drop] at e
    exact kl_total _ _ (hf.hi (r + i) d (by omega) (by rw [← e]; exact List.getElem?_eq_getElem (by omega))) (hne d (List.mem_of_mem_drop hd))
  have hs : (ds.take r ++ ds.drop r).Pairwise fun c d => kl c.key d.key := by rw [List.take_append_drop]; exact hr
  rw [List.pairwise_append] at hs ⊢
  refine ⟨hs.1, List.pairwise_cons.2 ⟨hhi, hs.2.1⟩, fun a ha b hb => ?_⟩
  rcases List.mem_cons.1 hb with rfl | hb
  · exact hlo a ha
  · exact hs.2.2 a ha b hb
set_option maxRecDepth 100000 in
theorem rs_rise {ds : List Cl} (h : Rs ds) : Rise ds := by
  intro i j c d hij hc hd
  obtain ⟨hi, e1⟩ := List.getElem?_eq_some_iff.1 hc
  obtain ⟨hj, e2⟩ := List.getElem?_eq_some_iff.1 hd
  have := List.pairwise_iff_getElem.1 h i j hi hj hij
  rwa [e1, e2] at this
set_option maxRecDepth 100000 in
theorem chk_of {k p : Int} : ∀ (pr : Option (List Int)) (ds : List Cl), (∀ c ∈ ds, mayP k p c) → Rs ds → (∀ c ∈ ds, ahead pr c.key) → chk k p pr ds = 0
  | _, [], _, _, _ => rfl
  | pr, c :: r, h1, h2, h3 => by
    unfold Rs at h2
    rw [List.pairwise_cons] at h2
    rw [chk, if_pos (h1 c (by simp)), if_pos (h3 c (by simp))]
    exact chk_of _ r (fun d hd => h1 d (by simp [hd])) h2.2 (fun d hd => h2.1 d hd)
set_option maxRecDepth 100000 in
theorem may_tk {k p : Int} {c : Cl} (h : mayP k p c) (hp : 512 ≤ p) : (ctk c : Int) ≤ 7 + p / 8 + p / 16 * 3 := by
  obtain ⟨h1, h2⟩ := h
  unfold ctk
  rcases h2 with ⟨e, h3, h4, h5⟩ | ⟨e, h3, ⟨h4, h5, h6⟩ | ⟨h4, h5, h6⟩ | ⟨h4, h5, h6⟩⟩
  · rw [if_neg (by omega)]; omega
  · rw [if_pos h4]; omega
  · rw [if_neg (by omega)]; omega
  · rw [if_neg (by omega)]; omega
set_option maxRecDepth 100000 in
theorem three_fit {k p : Int} {ds : List Cl} (h : ∀ c ∈ ds, mayP k p c) (hp : pw p) (hl : ds.length ≤ 3) : (szN ds : Int) ≤ p := by
  have hb := pw_le hp
  have h1 : ∀ (es : List Cl), (∀ c ∈ es, mayP k p c) → ((es.map ctk).sum : Int) ≤ es.length * (7 + p / 8 + p / 16 * 3) := by
    intro es
    induction es with
    | nil => intro _; simp
    | cons c r ih =>
      intro hc
      have a := may_tk (hc c (by simp)) hb.1
      have b := ih fun d hd => hc d (by simp [hd])
      simp only [List.map_cons, List.sum_cons, List.length_cons]
      rw [show ((r.length + 1 : Nat) : Int) = (r.length : Int) + 1 by omega, Int.add_mul, Int.one_mul]
      push_cast
      omega
  have h2 := h1 ds h
  unfold szN
  have h3 : (ds.length : Int) * (7 + p / 8 + p / 16 * 3) ≤ 3 * (7 + p / 8 + p / 16 * 3) := Int.mul_le_mul_of_nonneg_right (by omega) (by omega)
  push_cast
  omega
set_option maxRecDepth 100000 in
theorem enc_one {k p : Int} {c : Cl} : (encE k p [c] = 0 ∧ isKd k ∧ pw p ∧ mayP k p c) ∨ encE k p [c] = 1 ∨ encE k p [c] = 62 := by
  unfold encE
  by_cases h1 : isKd k ∧ pw p
  · rw [if_pos h1]
    by_cases h2 : mayP k p c
    · have h3 : chk k p none [c] = 0 := by simp [chk, h2, ahead]
      have h4 := three_fit (k := k) (p := p) (ds := [c]) (by simpa using h2) h1.2 (by simp)
      rw [if_pos h3, if_neg (by omega)]
      exact .inl ⟨rfl, h1.1, h1.2, h2⟩
    · have h3 : chk k p none [c] = 62 := by simp [chk, h2]
      rw [h3, if_neg (by omega)]
      exact .inr (.inr rfl)
  · rw [if_neg h1]
    exact .inr (.inl rfl)
set_option maxRecDepth 100000 in
theorem enc_all {k p : Int} {ds : List Cl} (h1 : isKd k) (h2 : pw p) (h3 : ∀ c ∈ ds, mayP k p c) (h4 : Rs ds) (h5 : ds.length ≤ 3) : encE k p ds = 0 := by
  have h6 := three_fit h3 h2 h5
  unfold encE
  rw [if_pos ⟨h1, h2⟩, if_pos (chk_of none ds h3 h4 fun _ _ => trivial), if_neg (by omega)]

/-- Values that are cells. -/
def Row5 (w : World) : List Value → List Cl → Prop
  | vs, [] => vs = []
  | vs, c :: r => ∃ ka kc va vc t, vs = .slice ka c.key.length kc :: .int .i64 c.kd :: .slice va c.val.length vc :: .int .i64 c.pg :: .int .i64 c.ct :: t ∧ Sl w ka c.key.length kc c.key ∧ Sl w va c.val.length vc c.val ∧ Row5 w t r
set_option maxRecDepth 100000 in
theorem Row5.append {w : World} {us : List Value} {ds : List Cl} (g : Row5 w us ds) : ∀ {vs : List Value} {cs : List Cl}, Row5 w vs cs → Row5 w (vs ++ us) (cs ++ ds)
  | vs, [], h => by
    unfold Row5 at h
    subst h
    exact g
  | vs, c :: r, h => by
    obtain ⟨ka, kc, va, vc, t, rfl, h1, h2, h3⟩ := h
    exact ⟨ka, kc, va, vc, t ++ us, rfl, h1, h2, Row5.append g h3⟩
set_option maxRecDepth 100000 in
theorem Row5.len {w : World} : ∀ {vs : List Value} {cs : List Cl}, Row5 w vs cs → vs.length = cs.length * 5
  | vs, [], h => by
    unfold Row5 at h
    subst h
    rfl
  | vs, c :: r, h => by
    obtain ⟨ka, kc, va, vc, t, rfl, h1, h2, h3⟩ := h
    have := h3.len
    simp only [List.length_cons]
    omega
set_option maxRecDepth 100000 in
theorem Row5.one {w : World} : ∀ {vs : List Value} {cs : List Cl}, Row5 w vs cs → ∀ u ∈ vs, u.oneCell' = true
  | vs, [], h, u, hu => by
    unfold Row5 at h
    subst h
    cases hu
  | vs, c :: r, h, u, hu => by
    obtain ⟨ka, kc, va, vc, t, rfl, h1, h2, h3⟩ := h
    simp only [List.mem_cons] at hu
    rcases hu with rfl | rfl | rfl | rfl | rfl | hu
    · rfl
    · rfl
    · rfl
    · rfl
    · rfl
    · exact h3.one u hu
set_option maxRecDepth 100000 in
theorem Row5.cat {w w' : World} {b : Nat} (hB : Below w.heap.size w w') : ∀ {vs : List Value} {cs : List Cl} (off : Nat), Row5 w vs cs → (∀ j u, vs[j]? = some u → w'.cell? ⟨b, off + j, none⟩ = some u) → ∀ i c, cs[i]? = some c → CAt w' b (off + i * 5) c
  | vs, [], off, h, hc, i, c, hi => by simp at hi
  | vs, d :: r, off, h, hc, 0, c, hi => by
    obtain ⟨ka, kc, va, vc, t, rfl, h1, h2, h3⟩ := h
    simp at hi
    subst hi
    exact ⟨ka, kc, va, vc, hc 0 _ rfl, hc 1 _ rfl, hc 2 _ rfl, hc 3 _ rfl, hc 4 _ rfl, h1.on (Nat.le_refl _) hB, h2.on (Nat.le_refl _) hB⟩
  | vs, d :: r, off, h, hc, i + 1, c, hi => by
    obtain ⟨ka, kc, va, vc, t, rfl, h1, h2, h3⟩ := h
    have := Row5.cat hB (off + 5) h3 (fun j u hu => by
      have := hc (j + 5) u (by simpa using hu)
      rwa [show off + (j + 5) = off + 5 + j by omega] at this) i c (by simpa using hi)
    rwa [show off + 5 + i * 5 = off + (i + 1) * 5 by omega] at this
set_option maxRecDepth 100000 in
theorem row5_of {w : World} {b : Nat} : ∀ (cs : List Cl) (off : Nat), (∀ i c, cs[i]? = some c → CAt w b (off + i * 5) c) → ∃ vs, Row5 w vs cs ∧ ∀ j u, vs[j]? = some u → w.cell? ⟨b, off + j, none⟩ = some u
  | [], off, _ => ⟨[], rfl, fun j u hu => by simp at hu⟩
  | c :: r, off, h => by
    obtain ⟨t, h1, h2⟩ := row5_of r (off + 5) fun i d hd => by
      have := h (i + 1) d (by simpa using hd)
      rwa [show off + (i + 1) * 5 = off + 5 + i * 5 by omega] at this
    obtain ⟨ka, kc, va, vc, c0, c1, c2, c3, c4, hk, hv⟩ := h 0 c rfl
    refine ⟨_, ⟨ka, kc, va, vc, t, rfl, hk, hv, h1⟩, fun j u hu => ?_⟩
    match j, hu with
    | 0, hu => simp at hu; subst hu; simpa using c0
    | 1, hu => simp at hu; subst hu; simpa using c1
    | 2, hu => simp at hu; subst hu; simpa using c2
    | 3, hu => simp at hu; subst hu; simpa using c3
    | 4, hu => simp at hu; subst hu; simpa using c4
    | j + 5, hu =>
      have := h2 j u (by simpa using hu)
      rwa [show off + 5 + j = off + (j + 5) by omega] at this

/-- THE SLICE VALUE v OWNS THE CELLS cs; their keys and values are w0's. -/
def OwnK (w0 w : World) (v : Value) (cs : List Cl) : Prop := ∃ vs, w.ownsRow w0.heap.size 44 5 v cs.length vs ∧ Row5 w0 vs cs
set_option maxRecDepth 100000 in
theorem OwnK.nil (w0 w : World) : OwnK w0 w (.slice none 0 0) [] := ⟨[], World.ownsRow_nil _ _ _ _, rfl⟩
set_option maxRecDepth 100000 in
theorem OwnK.go {w0 w w' : World} {v : Value} {cs : List Cl} (h : OwnK w0 w v cs) (hb : Below w.heap.size w w') : OwnK w0 w' v cs := by
  obtain ⟨vs, h1, h2⟩ := h
  refine ⟨vs, World.ownsRow.kept (row := none) h1 ⟨hb.os, hb.tape, hb.output, hb.size, fun k hk _ => hb.block k hk⟩ ?_, h2⟩
  cases hv : v.ownBlock with
  | none => exact .inl rfl
  | some k => exact .inr (by simp)
set_option maxRecDepth 100000 in
theorem OwnK.slc {w0 w : World} {v : Value} {cs : List Cl} (h : OwnK w0 w v cs) (hb : Below w0.heap.size w0 w) (hl : cs.length ≤ 1000) : ∃ ao cap, v = .slice ao cs.length cap ∧ SlC w ao cs.length cap cs := by
  obtain ⟨vs, h1, h2⟩ := h
  rcases h1.2 with ⟨rfl, h0⟩ | ⟨g, cap, cur, rfl, hg, hh, hnc, hm, hs, ht⟩
  · rw [h0]
    exact ⟨none, 0, rfl, ⟨h0, Nat.le_refl _, by omega, fun _ => rfl, .inl rfl⟩⟩
  · refine ⟨_, cap, rfl, ⟨rfl, hnc, by omega, (by intro h; cases h), .inr ⟨g, 0, rfl, lt_some hh, ?_⟩⟩⟩
    exact Row5.cat hb 0 h2 (fun j u hu => by
      have := World.ownsRow.cells h1 (g := g) rfl j u hu
      simpa [Addr.add_lit] using this)
set_option maxRecDepth 100000 in
/-- 'append(m, x...)', m the call's own or nil, x some cells. -/
theorem app_ck {ops : Array Oper} {rest : List Oper} {o : Oper} {a : Act} {Q : Exit → Act → World → Prop} (w0 w : World) (hgd : o.guard = none) (s x : Operand)
    (ho : o.op = .call { callee := .builtin .append, args := #[s, x], argTypes := #[25, 25] }) (cs ds : List Cl) (v : Value) (ao : Option Addr) (n c : Nat) (hs : a.eval s = v) (hx : a.eval x = .slice ao n c)
    (hown : OwnK w0 w v cs) (hn : ds.length = n) (hsl : (ao = none ∧ n = 0 ∧ c = 0) ∨ ∃ b off us, ao = some ⟨b, off, none⟩ ∧ Row5 w0 us ds ∧ ∀ j u, us[j]? = some u → w.cell? ⟨b, off + j, none⟩ = some u) (hb : cs.length + n ≤ 1000) (hbase : Below w0.heap.size w0 w)
    (h : ∀ v' w', Hid (OwnK w0 w' v' (cs ++ ds)) → Hid (Below w0.heap.size w0 w') → wpList Tryd.prog ops Q rest (a.put o.dst v') w') : wpList Tryd.prog ops Q (o :: rest) a w := by
  obtain ⟨i0, hi, hz0, hz1, hz2⟩ := info_parts infoC
  obtain ⟨vs, h1, h2⟩ := hown
  rcases hsl with ⟨rfl, rfl, rfl⟩ | ⟨b, off, us, rfl, hr, hc⟩
  · obtain rfl : ds = [] := List.eq_nil_of_length_eq_zero hn
    exact wpList_append_own_none hgd s x 25 ho w0.heap.size 44 i0 5 Tryd.underlying25 hi v cs.length vs hs h1 hx (h v w (hidden ⟨vs, by simpa using h1, by simpa using h2⟩) (hidden hbase))
  · refine wpList_append_own_at w hgd s x 25 ho w0.heap.size 44 i0 _ 5 72 Tryd.underlying25 hi hz0 hz1 hz2 rfl (by decide) v cs.length vs hs h1 ⟨b, off, none⟩ n c us hx (by rw [hr.len, hn])
      (fun j u hu => by
        rw [Addr.add_lit]
        exact hc j u hu) hr.one (by unfold maxLen; omega) (by omega) hbase.size ?_
    intro v' w' g1 g2 _ _
    refine h v' w' (hidden ⟨vs ++ us, ?_, Row5.append hr h2⟩) (hidden ?_)
    · rw [List.length_append, hn]
      exact g1
    · exact hbase.trans (own_below h1 hbase.size g2)
end Go.Proofs.YtdmpbdppdcaabaaDoor

/- Layer 6: a row of cells of one's own, whose keys and values are one's own too. -/

namespace Go.Proofs.YtdmpbdppdcaabaaDoor
open Go.RowKit

/-- The values of cells, their bytes one's own. -/
def R5B (w : World) (B : Nat) : List Value → List Cl → Prop
  | vs, [] => vs = []
  | vs, c :: r => ∃ ka kc va vc t, vs = .slice ka c.key.length kc :: .int .i64 c.kd :: .slice va c.val.length vc :: .int .i64 c.pg :: .int .i64 c.ct :: t ∧ OwnB w B (.slice ka c.key.length kc) c.key ∧ OwnB w B (.slice va c.val.length vc) c.val ∧ R5B w B t r
set_option maxRecDepth 100000 in
theorem R5B.append {w : World} {B : Nat} {us : List Value} {ds : List Cl} (g : R5B w B us ds) : ∀ {vs : List Value} {cs : List Cl}, R5B w B vs cs → R5B w B (vs ++ us) (cs ++ ds)
  | vs, [], h => by
    unfold R5B at h
    subst h
    exact g
  | vs, c :: r, h => by
    obtain ⟨ka, kc, va, vc, t, rfl, h1, h2, h3⟩ := h
    exact ⟨ka, kc, va, vc, t ++ us, rfl, h1, h2, R5B.append g h3⟩
set_option maxRecDepth 100000 in
theorem R5B.keep {w w' : World} {B : Nat} (hk : ∀ v l, OwnB w B v l → OwnB w' B v l) : ∀ {vs : List Value} {cs : List Cl}, R5B w B vs cs → R5B w' B vs cs
  | vs, [], h => h
  | vs, c :: r, h => by
    obtain ⟨ka, kc, va, vc, t, rfl, h1, h2, h3⟩ := h
    exact ⟨ka, kc, va, vc, t, rfl, hk _ _ h1, hk _ _ h2, R5B.keep hk h3⟩
set_option maxRecDepth 100000 in
theorem R5B.row {w : World} {B : Nat} (hl : ∀ v l, OwnB w B v l → True) : ∀ {vs : List Value} {cs : List Cl}, R5B w B vs cs → (∀ c ∈ cs, c.Wf ∧ c.key.length ≤ 140737488355328 ∧ c.val.length ≤ 140737488355328) → Row5 w vs cs
  | vs, [], h, _ => h
  | vs, c :: r, h, hw => by
    obtain ⟨ka, kc, va, vc, t, rfl, h1, h2, h3⟩ := h
    have hc := hw c (by simp)
    exact ⟨ka, kc, va, vc, t, rfl, own_sl6 h1 hc.1.1 hc.2.1, own_sl6 h2 hc.1.2 hc.2.2, R5B.row hl h3 (fun d hd => hw d (by simp [hd]))⟩
/-- A ROW OF CELLS OF ONE'S OWN. -/
def OwnD (w : World) (B : Nat) (v : Value) (cs : List Cl) : Prop := ∃ vs, w.ownsRow B 44 5 v cs.length vs ∧ R5B w B vs cs
set_option maxRecDepth 100000 in
theorem OwnD.nil (w : World) (B : Nat) : OwnD w B (.slice none 0 0) [] := ⟨[], World.ownsRow_nil _ _ _ _, rfl⟩
set_option maxRecDepth 100000 in
theorem OwnD.on {w w' : World} {B : Nat} {v : Value} {cs : List Cl} (h : OwnD w B v cs) (hb : Below w.heap.size w w') : OwnD w' B v cs := by
  obtain ⟨vs, h1, h2⟩ := h
  refine ⟨vs, World.ownsRow.kept (row := none) h1 ⟨hb.os, hb.tape, hb.output, hb.size, fun k hk _ => hb.block k hk⟩ ?_, h2.keep (fun v l h => h.on (Nat.le_refl _) hb)⟩
  cases hv : v.ownBlock with
  | none => exact .inl rfl
  | some k => exact .inr (by simp)
set_option maxRecDepth 100000 in
/-- Bytes of one's own lie not in a row of cells. -/
theorem own_apart {w : World} {B n : Nat} {v u : Value} {vs : List Value} {l : List Int} (h : w.ownsRow B 44 5 v n vs) (k : OwnB w B u l) : u.ownBlock = none ∨ u.ownBlock ≠ v.ownBlock := by
  rcases h.2 with ⟨rfl, _⟩ | ⟨g, c, cur, rfl, _, hh, _⟩
  · cases hu : u.ownBlock with
    | none => exact .inl rfl
    | some z => exact .inr (by simp [Value.ownBlock])
  · rcases k.2 with ⟨rfl, _⟩ | ⟨g', c', cur', rfl, _, hh', _⟩
    · exact .inl (by simp [Value.ownBlock])
    · right
      intro e
      have e' : g' = g := by simpa [Value.ownBlock] using e
      rw [e'] at hh'
      rw [hh'] at hh
      simp at hh
set_option maxRecDepth 100000 in
/-- 'append(l, c)', the cell's bytes one's own. -/
theorem app_cd {ops : Array Oper} {rest : List Oper} {o : Oper} {a : Act} {Q : Exit → Act → World → Prop} (w : World) (hgd : o.guard = none) (s x : Operand)
    (ho : o.op = .call { callee := .builtin .append, args := #[s, x], argTypes := #[25, 25] }) (B : Nat) (cs : List Cl) (c : Cl) (v : Value) (b : Nat) (us : List Value) (hs : a.eval s = v) (hx : a.eval x = .slice (some ⟨b, 0, none⟩) 1 1)
    (hown : OwnD w B v cs) (hr : R5B w B us [c]) (hc : ∀ j u, us[j]? = some u → w.cell? ⟨b, 0 + j, none⟩ = some u) (hb : cs.length + 1 ≤ 200000) (hbase : B ≤ w.heap.size)
    (h : ∀ v' w', Hid (OwnD w' B v' (cs ++ [c])) → Hid (Below B w w') → wpList Tryd.prog ops Q rest (a.put o.dst v') w') : wpList Tryd.prog ops Q (o :: rest) a w := by
  obtain ⟨i0, hi, hz0, hz1, hz2⟩ := info_parts infoC
  obtain ⟨vs, h1, h2⟩ := hown
  have hlen : us.length = 1 * 5 := by
    obtain ⟨ka, kc, va, vc, t, rfl, _, _, h3⟩ := hr
    unfold R5B at h3
    subst h3
    rfl
  have hone : ∀ u ∈ us, u.oneCell' = true := by
    obtain ⟨ka, kc, va, vc, t, rfl, _, _, h3⟩ := hr
    unfold R5B at h3
    subst h3
    intro u hu
    simp only [List.mem_cons, List.not_mem_nil, or_false] at hu
    rcases hu with rfl | rfl | rfl | rfl | rfl <;> rfl
  refine wpList_append_own_at w hgd s x 25 ho B 44 i0 _ 5 72 Tryd.underlying25 hi hz0 hz1 hz2 rfl (by decide) v cs.length vs hs h1 ⟨b, 0, none⟩ 1 1 us hx hlen
    (fun j u hu => by
      rw [Addr.add_lit]
      exact hc j u hu) hone (by unfold maxLen; omega) (by omega) hbase ?_
  intro v' w' g1 g2 _ _
  have hkp : ∀ u l, OwnB w B u l → OwnB w' B u l := fun u l hu => World.ownsRow.kept hu g2 (own_apart h1 hu)
  refine h v' w' (hidden ⟨vs ++ us, ?_, R5B.append (hr.keep hkp) (h2.keep hkp)⟩) (hidden (own_below h1 hbase g2))
  rw [List.length_append]
  exact g1
end Go.Proofs.YtdmpbdppdcaabaaDoor
