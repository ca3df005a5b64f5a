import Derived.Test.YtlhkinlgolcpaaaGreatDoorJ35
import Derived.Test.YtlhkinlgolcpaaaGreatDoorJ38
import Derived.Test.YtlhkinlgolcpaaaGreatDoorJ26
import Derived.Test.YtlhkinlgolcpaaaGreatDoorJ32
import Derived.Test.YtlhkinlgolcpaaaGreatDoorJ36
import Derived.Test.YtlhkinlgolcpaaaGreatDoorJ25
namespace Go.Proofs.YtlhkinlgolcpaaaGreatDoor
set_option maxRecDepth 100000
open Go.RowKit
def encB (e k n : Int) (cs : List Cl) : Int := if e = 1 then encE k n cs else if e = 2 then encQ k n cs else 80
def enB (e k n : Int) (cs : List Cl) : List Int := if e = 1 then en6 k n cs else if e = 2 then enX k n cs else []
theorem enB_len {e k n : Int} {cs : List Cl} : (enB e k n cs).length ≤ 65536 := by
 unfold enB
 split
 ·exact en6_len
 ·split
  ·exact enX_len
  ·simp
theorem enB_wf {e k n : Int} {cs : List Cl} (hw : ∀ c ∈ cs, c.Wf) (hk : ∀ c ∈ cs, c.key.length + c.val.length ≤ 35184372088832) : Wf (enB e k n cs) := by
 unfold enB
 split
 ·exact en6_wf hw
 ·split
  ·exact enX_wf hw hk
  ·exact Wf.nil
theorem encB_fit {e k : Int} {n : Nat} {cs : List Cl} (he : e = 1 ∨ e = 2) : decide (encB e k n cs = 0) = fitB e k n cs := by
 rcases he with rfl | rfl
 ·unfold encB
  rw [if_pos rfl]
  have := encE_zero k n cs
  cases hf : fitB 1 k n cs with
  | true => exact decide_eq_true (this.2 hf)
  | false => exact decide_eq_false (fun h => by rw [this.1 h] at hf; cases hf)
 ·unfold encB
  rw [if_neg (by decide), if_pos rfl]
  have := encQ_zero k n cs
  cases hf : fitB 2 k n cs with
  | true => exact decide_eq_true (this.2 hf)
  | false => exact decide_eq_false (fun h => by rw [this.1 h] at hf; cases hf)
def EncT (e k n : Int) (cs : List Cl) (w : World) (r : Ending) (w' : World) : Prop :=
 ∃ ao m cap, r = .returned (.tuple #[.slice ao m cap, .int .i64 (encB e k n cs)]) ∧ Hid (OwnB w' w.heap.size (.slice ao m cap) (enB e k n cs)) ∧ Hid (Below w.heap.size w w')
theorem EncT.from {e k n : Int} {cs : List Cl} {w u w' : World} {r : Ending} (h : EncT e k n cs u r w') (hb : Below w.heap.size w u) : EncT e k n cs w r w' := by
 obtain ⟨ao, m, cap, rfl, h1, h2⟩ := h
 exact ⟨ao, m, cap, rfl, hidden (h1.out.low hb.size), hidden (bl_go hb (Nat.le_refl _) h2.out)⟩
theorem szE_1 (k : Int) (cs : List Cl) : szE 1 k cs = szN cs := by unfold szE; rw [if_pos rfl]
theorem szE_2 (k : Int) (cs : List Cl) : szE 2 k cs = szQ k (shP k cs).length cs := by unfold szE; rw [if_neg (by decide)]
theorem nencode_1 (k n : Int) (co : Option Addr) (cn cc : Nat) (cs : List Cl) (w : World) (hs : SlC w co cn cc cs) (hz : szE 1 k cs ≤ 1099511627776) (ht : Tab w) (h0 : 1 < w.heap.size) :
  Calls Tryz.prog 6 #[.int .i64 1, .int .i64 k, .slice co cn cc, .int .i64 n] w (EncT 1 k n cs w) := by
 have HL := hidden (layout_1 w)
 have HM : Hid (∀ u, Below w.heap.size w u → Calls Tryz.prog 46 #[.int .i64 k, .slice co cn cc, .int .i64 n] u fun e w' => ∃ ao m cap c, e = .returned (.tuple #[.slice ao m cap, .int .i64 c]) ∧ Hid (EncT 1 k n cs w e w')) := hidden fun u hu => by
  refine (encU6 k n co cn cc cs u (hs.on hu) (by rw [szE_1] at hz; exact hz) (ht.on hu h0) (Nat.lt_of_lt_of_le h0 hu.size)).mono ?_
  rintro e w' ⟨ao, m, cap, rfl, h1, h2⟩
  refine ⟨ao, m, cap, _, rfl, hidden (EncT.from ⟨ao, m, cap, ?_, ?_, h2⟩ hu)⟩
  ·unfold encB; rw [if_pos rfl]
  ·unfold enB; rw [if_pos rfl]; exact h1
 clear hs hz ht h0
 go_enter Tryz.func6, Tryz.ntmps6
 go_wp2_with (first | (go_at_call 22; refine HL.out.mono ?_; rintro e w1 ⟨rfl, HB1⟩) | (go_at_call 46; refine (HM.out _ (bl_al HB1.out (Nat.le_refl _) _)).mono ?_; rintro e w2 ⟨ao, m, cap, c, rfl, HQ2⟩; refine Hid.out ?_))
 apply hidden
 go_wp2
 go_ret2
 exact HQ2.out
theorem nencode_2 (k n : Int) (co : Option Addr) (cn cc : Nat) (cs : List Cl) (w : World) (hs : SlC w co cn cc cs) (hz : szE 2 k cs ≤ 1099511627776) (ht : Tab w) (h0 : 1 < w.heap.size) :
  Calls Tryz.prog 6 #[.int .i64 2, .int .i64 k, .slice co cn cc, .int .i64 n] w (EncT 2 k n cs w) := by
 have HL := hidden (layout_2 w)
 have HM : Hid (∀ u, Below w.heap.size w u → Calls Tryz.prog 54 #[.int .i64 k, .slice co cn cc, .int .i64 n] u fun e w' => ∃ ao m cap c, e = .returned (.tuple #[.slice ao m cap, .int .i64 c]) ∧ Hid (EncT 2 k n cs w e w')) := hidden fun u hu => by
  refine (encU7 k n co cn cc cs u (hs.on hu) (by rw [szE_2] at hz; exact hz) (ht.on hu h0) (Nat.lt_of_lt_of_le h0 hu.size)).mono ?_
  rintro e w' ⟨ao, m, cap, rfl, h1, h2⟩
  refine ⟨ao, m, cap, _, rfl, hidden (EncT.from ⟨ao, m, cap, ?_, ?_, h2⟩ hu)⟩
  ·unfold encB; rw [if_neg (by decide), if_pos rfl]
  ·unfold enB; rw [if_neg (by decide), if_pos rfl]; exact h1
 clear hs hz ht h0
 go_enter Tryz.func6, Tryz.ntmps6
 go_wp2_with (first | (go_at_call 22; refine HL.out.mono ?_; rintro e w1 ⟨rfl, HB1⟩) | (go_at_call 54; refine (HM.out _ (bl_al HB1.out (Nat.le_refl _) _)).mono ?_; rintro e w2 ⟨ao, m, cap, c, rfl, HQ2⟩; refine Hid.out ?_))
 apply hidden
 go_wp2
 go_ret2
 exact HQ2.out
theorem nencode_0 (e k n : Int) (h1 : ¬ e = 1) (h2 : ¬ e = 2) (co : Option Addr) (cn cc : Nat) (cs : List Cl) (w : World) :
  Calls Tryz.prog 6 #[.int .i64 e, .int .i64 k, .slice co cn cc, .int .i64 n] w (EncT e k n cs w) := by
 have HL := hidden (layout_0 w e h1 h2)
 have HQ : Hid (encB e k n cs = 80 ∧ enB e k n cs = []) := hidden ⟨by unfold encB; rw [if_neg h1, if_neg h2], by unfold enB; rw [if_neg h1, if_neg h2]⟩
 unfold EncT
 rw [HQ.out.1, HQ.out.2]
 clear h1 h2 HQ
 go_enter Tryz.func6, Tryz.ntmps6
 go_wp2_with (first | (go_at_call 22; refine HL.out.mono ?_; rintro e w1 ⟨rfl, HB1⟩))
 go_ret2
 exact ⟨none, 0, 0, rfl, hidden (OwnB.nil _ _), hidden (bl_al HB1.out (Nat.le_refl _) _)⟩
theorem nencode_any (e k n : Int) (co : Option Addr) (cn cc : Nat) (cs : List Cl) (w : World) (hs : SlC w co cn cc cs) (hz : e = 1 ∨ e = 2 → szE e k cs ≤ 1099511627776) (ht : Tab w) (h0 : 1 < w.heap.size) :
  Calls Tryz.prog 6 #[.int .i64 e, .int .i64 k, .slice co cn cc, .int .i64 n] w (EncT e k n cs w) := by
 by_cases h1 : e = 1
 ·subst h1; exact nencode_1 k n co cn cc cs w hs (hz (.inl rfl)) ht h0
 by_cases h2 : e = 2
 ·subst h2; exact nencode_2 k n co cn cc cs w hs (hz (.inr rfl)) ht h0
 exact nencode_0 e k n h1 h2 co cn cc cs w
theorem nfit_any (e k n : Int) (co : Option Addr) (cn cc : Nat) (cs : List Cl) (w : World) (hs : SlC w co cn cc cs) (hz : e = 1 ∨ e = 2 → szE e k cs ≤ 1099511627776) (ht : Tab w) (h0 : 1 < w.heap.size) :
  Calls Tryz.prog 7 #[.int .i64 e, .int .i64 k, .slice co cn cc, .int .i64 n] w fun r w' => r = .returned (.bool (decide (encB e k n cs = 0))) ∧ Hid (Below w.heap.size w w') := by
 by_cases h12 : e = 1 ∨ e = 2
 ·have HEN : Hid (∀ u, Below w.heap.size w u → Calls Tryz.prog (if e = 1 then 46 else 54) #[.int .i64 k, .slice co cn cc, .int .i64 n] u fun r w' => ∃ ao m cap, r = .returned (.tuple #[.slice ao m cap, .int .i64 (encB e k n cs)]) ∧ Hid (Below w.heap.size w w')) := hidden fun u hu => by
   rcases h12 with rfl | rfl
   ·refine (encU6 k n co cn cc cs u (hs.on hu) (by have := hz (.inl rfl); rw [szE_1] at this; exact this) (ht.on hu h0) (Nat.lt_of_lt_of_le h0 hu.size)).mono ?_
    rintro e w' ⟨ao, m, cap, rfl, h1, h2⟩
    exact ⟨ao, m, cap, rfl, hidden (bl_go hu (Nat.le_refl _) h2.out)⟩
   ·refine (encU7 k n co cn cc cs u (hs.on hu) (by have := hz (.inr rfl); rw [szE_2] at this; exact this) (ht.on hu h0) (Nat.lt_of_lt_of_le h0 hu.size)).mono ?_
    rintro e w' ⟨ao, m, cap, rfl, h1, h2⟩
    exact ⟨ao, m, cap, rfl, hidden (bl_go hu (Nat.le_refl _) h2.out)⟩
  have HFT : Hid (∀ u, Below w.heap.size w u → Calls Tryz.prog 23 #[.agg (lyE e), .int .i64 k, .slice co cn cc, .int .i64 n] u fun r w' => r = .returned (.bool (decide (encB e k n cs = 0))) ∧ Hid (Below w.heap.size w w')) := hidden fun u hu => by
   have HE := hidden (HEN.out _ (bl_al hu (Nat.le_refl _) (.cells (lyE e) 54)))
   have HU := hidden hu
   obtain ⟨c, hc⟩ : ∃ c, encB e k n cs = c := ⟨_, rfl⟩
   rw [hc] at HE ⊢
   obtain ⟨Bz, hBz⟩ : ∃ Bz, decide (c = 0) = Bz := ⟨_, rfl⟩
   have HBZ := hidden hBz
   rw [hBz]
   clear hc HEN hs hz ht h0 hu hBz
   rcases h12 with rfl | rfl
   ·rw [show lyE 1 = ly1 from rfl] at *
    rw [if_pos rfl] at HE
    go_enter Tryz.func23, Tryz.ntmps23
    go_wp2_with (first | (go_at_call 46; refine HE.out.mono ?_; rintro e w2 ⟨bo, bm, bc, rfl, HB⟩; refine Hid.out ?_))
    apply hidden
    clear HE
    cases Bz with
    | true =>
     have hz : c = 0 := of_decide_eq_true HBZ.out
     subst hz
     clear HBZ
     go_wp2
     go_ret
     exact ⟨rfl, HB⟩
    | false =>
     have hz : ¬ c = 0 := of_decide_eq_false HBZ.out
     have h2 : (c == 0) = false := by simpa using hz
     clear HBZ
     go_wp2
     go_ret
     exact ⟨rfl, HB⟩
   ·rw [show lyE 2 = ly2 from rfl] at *
    rw [if_neg (by decide)] at HE
    go_enter Tryz.func23, Tryz.ntmps23
    go_wp2_with (first | (go_at_call 54; refine HE.out.mono ?_; rintro e w2 ⟨bo, bm, bc, rfl, HB⟩; refine Hid.out ?_))
    apply hidden
    clear HE
    cases Bz with
    | true =>
     have hz : c = 0 := of_decide_eq_true HBZ.out
     subst hz
     clear HBZ
     go_wp2
     go_ret
     exact ⟨rfl, HB⟩
    | false =>
     have hz : ¬ c = 0 := of_decide_eq_false HBZ.out
     have h2 : (c == 0) = false := by simpa using hz
     clear HBZ
     go_wp2
     go_ret
     exact ⟨rfl, HB⟩
  generalize decide (encB e k n cs = 0) = B at *
  clear HEN hs hz ht h0
  rcases h12 with rfl | rfl
  ·rw [show lyE 1 = ly1 from rfl] at HFT
   have HL := hidden (layout_1 w)
   go_enter Tryz.func7, Tryz.ntmps7
   go_wp2_with (first | (go_at_call 22; refine HL.out.mono ?_; rintro e w1 ⟨rfl, HB1⟩) | (go_at_call 23; refine (HFT.out _ (bl_al HB1.out (Nat.le_refl _) _)).mono ?_; rintro e w2 ⟨rfl, HB2⟩))
   go_ret
   exact ⟨rfl, HB2⟩
  ·rw [show lyE 2 = ly2 from rfl] at HFT
   have HL := hidden (layout_2 w)
   go_enter Tryz.func7, Tryz.ntmps7
   go_wp2_with (first | (go_at_call 22; refine HL.out.mono ?_; rintro e w1 ⟨rfl, HB1⟩) | (go_at_call 23; refine (HFT.out _ (bl_al HB1.out (Nat.le_refl _) _)).mono ?_; rintro e w2 ⟨rfl, HB2⟩))
   go_ret
   exact ⟨rfl, HB2⟩
 ·have h1 : ¬ e = 1 := fun h => h12 (.inl h)
  have h2 : ¬ e = 2 := fun h => h12 (.inr h)
  have HL := hidden (layout_0 w e h1 h2)
  have hb : decide (encB e k n cs = 0) = false := decide_eq_false (by unfold encB; rw [if_neg h1, if_neg h2]; decide)
  rw [hb]
  clear h1 h2 h12 hs hz ht h0 hb
  go_enter Tryz.func7, Tryz.ntmps7
  go_wp2_with (first | (go_at_call 22; refine HL.out.mono ?_; rintro e w1 ⟨rfl, HB1⟩))
  go_ret
  exact ⟨rfl, hidden (bl_al HB1.out (Nat.le_refl _) _)⟩
end Go.Proofs.YtlhkinlgolcpaaaGreatDoor

namespace Go.Proofs.YtlhkinlgolcpaaaGreatDoor
set_option maxRecDepth 100000
open Go.RowKit
theorem IsPage8_any (x : Int) (w : World) : Calls Tryz.prog 37 #[.int .i64 x] w fun e w' => e = .returned (.bool (pgs6 x)) ∧ w' = w := by
 go_enter Tryz.func37, Tryz.ntmps37
 go_wp2
 go_loop [3] (fun t => ∃ n : Int, t = .int .i64 n ∧ 512 ≤ n ∧ n ≤ 131072 ∧ (pgs6 n = true ∨ n = 131072) ∧ (pgs6 x = true → n ≤ x)) (fun t => (131072 - RowKit.intOf t).toNat)
 case atStart => exact ⟨512, rfl, by omega, by omega, .inl (by decide), fun h => by simp only [pgs6, decide_eq_true_eq] at h; omega⟩
 case round =>
  obtain ⟨n, rfl, h1, h2, h3, h4⟩ := hrel
  have H3 := hidden h3
  have H4 := hidden h4
  clear h3 h4
  by_cases hle : n ≤ 65536
  ·by_cases he : n = x
   ·have hp : pgs6 x = true := by
     rcases H3.out with h | h
     ·rw [← he]; exact h
     ·omega
    subst he
    have HP := hidden hp
    clear hp
    go_wp2
    go_ret
    exact ⟨by rw [HP.out]; rfl, rfl⟩
   ·have hne : (n == x) = false := by simpa using he
    go_wp2
    go_round
    case rel =>
     refine ⟨2 * n, rfl, by omega, by omega, ?_, ?_⟩
     ·have := H3.out
      simp only [pgs6, decide_eq_true_eq] at this ⊢
      omega
     ·intro h
      have h5 := H4.out h
      have h6 := H3.out
      simp only [pgs6, decide_eq_true_eq] at h h6
      omega
    case measure => simp [RowKit.intOf]; omega
  ·have hp : pgs6 x = false := by
    cases hx : pgs6 x
    ·rfl
    ·have h5 := H4.out hx
     have h6 := H3.out
     simp only [pgs6, decide_eq_true_eq] at hx h6
     omega
   have HP := hidden hp
   clear hp
   go_wp2
   go_ret
   exact ⟨by rw [HP.out]; rfl, rfl⟩
theorem rPage8_any (x : Int) (w : World) : Calls Tryz.prog 37 #[.int .i64 x] w fun e w' => e = .returned (.bool (decide (pw x))) ∧ w' = w := by
 have e : pgs6 x = decide (pw x) := by
  unfold pgs6 pw
  rfl
 rw [← e]
 exact IsPage8_any x w
def fillB (e k p : Int) (cs : List Cl) : Int := if (e = 1 ∨ e = 2) ∧ pw p then (szE e k cs : Int) * 256 / p else 0
theorem rmostKey8_any (p : Int) (w : World) : Calls Tryz.prog 15 #[.int .i64 p] w fun e w' => e = .returned (.int .i64 (if pw p then p / 8 else 0)) ∧ w' = w := by
 have HP := hidden (rPage8_any p w)
 by_cases hp : pw p
 ·have d : decide (pw p) = true := decide_eq_true hp
  rw [if_pos hp]
  rw [d] at HP
  have := pw_le hp
  have h0 : 0 ≤ p := by unfold pw at hp; omega
  clear hp d
  go_enter Tryz.func15, Tryz.ntmps15
  go_wp2_with (first | (go_at_call 37; refine same_call HP.out ?_))
  go_ret
  exact ⟨by first | rfl | (congr 2; go_num) | (congr 2; omega), rfl⟩
 ·have d : decide (pw p) = false := decide_eq_false hp
  rw [if_neg hp]
  rw [d] at HP
  clear hp d
  go_enter Tryz.func15, Tryz.ntmps15
  go_wp2_with (first | (go_at_call 37; refine same_call HP.out ?_))
  go_ret
  exact ⟨rfl, rfl⟩
theorem rmostValue8_any (p : Int) (w : World) : Calls Tryz.prog 17 #[.int .i64 p] w fun e w' => e = .returned (.int .i64 (if pw p then p / 16 * 3 else 0)) ∧ w' = w := by
 have HP := hidden (rPage8_any p w)
 by_cases hp : pw p
 ·have d : decide (pw p) = true := decide_eq_true hp
  rw [if_pos hp]
  rw [d] at HP
  have := pw_le hp
  have h0 : 0 ≤ p := by unfold pw at hp; omega
  clear hp d
  go_enter Tryz.func17, Tryz.ntmps17
  go_wp2_with (first | (go_at_call 37; refine same_call HP.out ?_))
  go_ret
  exact ⟨by first | rfl | (congr 2; go_num) | (congr 2; omega), rfl⟩
 ·have d : decide (pw p) = false := decide_eq_false hp
  rw [if_neg hp]
  rw [d] at HP
  clear hp d
  go_enter Tryz.func17, Tryz.ntmps17
  go_wp2_with (first | (go_at_call 37; refine same_call HP.out ?_))
  go_ret
  exact ⟨rfl, rfl⟩
structure Few (cs : List Cl) : Prop where
 len : cs.length ≤ 200000
 kv : ∀ c ∈ cs, c.key.length + c.val.length ≤ 1048576
theorem Few.kv7 {cs : List Cl} (h : Few cs) : ∀ c ∈ cs, c.key.length + c.val.length ≤ 35184372088832 := fun c hc => Nat.le_trans (h.kv c hc) (by omega)
theorem sum_few {f : Cl → Nat} {M : Nat} : ∀ {l : List Cl}, (∀ c ∈ l, f c ≤ M) → (l.map f).sum ≤ l.length * M
 | [], _ => by simp
 | c :: r, h => by
  have h1 := h c (by simp)
  have h2 := sum_few (l := r) fun d hd => h d (by simp [hd])
  simp only [List.map_cons, List.sum_cons, List.length_cons, Nat.succ_mul]
  omega
theorem Few.size {cs : List Cl} (h : Few cs) (e k : Int) : szE e k cs ≤ 1099511627776 := by
 have hl := h.len
 unfold szE
 split
 ·have h1 := sum_few (f := ctk) (M := 1048600) (l := cs) (fun c hc => by have := h.kv c hc; unfold ctk; split <;> omega)
  have h2 : cs.length * 1048600 ≤ 200000 * 1048600 := Nat.mul_le_mul_right _ hl
  unfold szN
  omega
 ·have hb : Beg k [] cs := fun c _ => by simp
  have h0 := szQ_less hb
  have h1 := sum_few (f := qtk 0) (M := 1048700) (l := cs) (fun c hc => by
   have h2 := h.kv c hc
   have a1 := (uB_length ((c.key.length : Nat) : Int)).1
   have a2 := (uB_length ((c.val.length : Nat) : Int)).1
   have a3 := (uB_length (c.pg % 18446744073709551616)).1
   have a4 := (uB_length (c.ct % 18446744073709551616)).1
   unfold qtk tL
   rw [Nat.sub_zero]
   split <;> omega)
  have h2 : cs.length * 1048700 ≤ 200000 * 1048700 := Nat.mul_le_mul_right _ hl
  unfold szQ at *
  rw [List.length_nil, qsm_zero] at h0
  omega
theorem rsize8_any (e k : Int) (he : e = 1 ∨ e = 2) (co : Option Addr) (cn cc : Nat) (cs : List Cl) (w : World) (hs : SlC w co cn cc cs) (hf : Few cs) (hz : szE e k cs ≤ 1099511627776) :
  Calls Tryz.prog 38 #[.int .i64 e, .int .i64 k, .slice co cn cc] w fun r w' => r = .returned (.int .i64 (szE e k cs : Int)) ∧ Hid (Below w.heap.size w w') := by
 have hn9 : cn ≤ 900000 := by have := hf.len; have := hs.hlen; omega
 rcases he with rfl | rfl
 ·rw [szE_1] at *
  have HS := hidden (rsize6_any k co cn cc cs w hs hz)
  generalize szN cs = Z at *
  clear hs hf hn9
  go_enter Tryz.func38, Tryz.ntmps38
  go_wp2_with (first | (go_at_call 69; refine HS.out.mono ?_; rintro e w1 ⟨rfl, HB⟩))
  go_ret
  exact ⟨rfl, HB⟩
 ·rw [szE_2] at *
  have HS := hidden (rsize_any k co cn cc cs w hs hn9 hf.kv7 hz)
  generalize szQ k (shP k cs).length cs = Z at *
  clear hs hf hn9
  go_enter Tryz.func38, Tryz.ntmps38
  go_wp2_with (first | (go_at_call 76; refine HS.out.mono ?_; rintro e w1 ⟨rfl, HB⟩))
  go_ret
  exact ⟨rfl, HB⟩
theorem rencode8_any (e k n : Int) (co : Option Addr) (cn cc : Nat) (cs : List Cl) (w : World) (hs : SlC w co cn cc cs) (hf : Few cs) (hz : e = 1 ∨ e = 2 → szE e k cs ≤ 1099511627776) :
  Calls Tryz.prog 11 #[.int .i64 e, .int .i64 k, .slice co cn cc, .int .i64 n] w (EncT e k n cs w) := by
 have hn9 : cn ≤ 900000 := by have := hf.len; have := hs.hlen; omega
 unfold EncT encB enB
 by_cases h1 : e = 1
 ·subst h1
  rw [if_pos rfl, if_pos rfl]
  have HR := hidden (rencU6 k n co cn cc cs w hs hn9 (by have := hz (.inl rfl); rw [szE_1] at this; exact this))
  generalize encE k n cs = E at *
  generalize en6 k n cs = X at *
  clear hs hf hz hn9
  go_enter Tryz.func11, Tryz.ntmps11
  go_wp2_with (first | (go_at_call 35; refine HR.out.mono ?_; rintro e w1 ⟨ao, m, cap, rfl, HO, HB⟩))
  go_ret2
  exact ⟨ao, m, cap, rfl, HO, HB⟩
 rw [if_neg h1, if_neg h1]
 have b1 : (e == 1) = false := by simpa using h1
 by_cases h2 : e = 2
 ·subst h2
  rw [if_pos rfl, if_pos rfl]
  have HR := hidden (rencU7 k n co cn cc cs w hs hn9 hf.kv7 (by have := hz (.inr rfl); rw [szE_2] at this; exact this))
  generalize encQ k n cs = E at *
  generalize enX k n cs = X at *
  clear hs hf hz hn9
  go_enter Tryz.func11, Tryz.ntmps11
  go_wp2_with (first | (go_at_call 36; refine HR.out.mono ?_; rintro e w1 ⟨ao, m, cap, rfl, HO, HB⟩))
  go_ret2
  exact ⟨ao, m, cap, rfl, HO, HB⟩
 rw [if_neg h2, if_neg h2]
 have b2 : (e == 2) = false := by simpa using h2
 clear hs hf hz hn9
 go_enter Tryz.func11, Tryz.ntmps11
 go_wp2_with fail
 go_ret2
 exact ⟨none, 0, 0, rfl, hidden (OwnB.nil _ _), hidden (Below.refl _ _)⟩
theorem rfits8_any (e k n : Int) (co : Option Addr) (cn cc : Nat) (cs : List Cl) (w : World) (hs : SlC w co cn cc cs) (hf : Few cs) (hz : e = 1 ∨ e = 2 → szE e k cs ≤ 1099511627776) :
  Calls Tryz.prog 40 #[.int .i64 e, .int .i64 k, .slice co cn cc, .int .i64 n] w fun r w' => r = .returned (.bool (decide (encB e k n cs = 0))) ∧ Hid (Below w.heap.size w w') := by
 have HR := hidden (rencode8_any e k n co cn cc cs w hs hf hz)
 unfold EncT at HR
 generalize encB e k n cs = E at *
 obtain ⟨Bz, hBz⟩ : ∃ Bz, decide (E = 0) = Bz := ⟨_, rfl⟩
 have HBZ := hidden hBz
 rw [hBz]
 clear hs hf hz hBz
 go_enter Tryz.func40, Tryz.ntmps40
 go_wp2_with (first | (go_at_call 11; refine HR.out.mono ?_; rintro e w1 ⟨ao, m, cap, rfl, _, HB⟩; refine Hid.out ?_))
 apply hidden
 clear HR
 cases Bz with
 | true =>
  have hz : E = 0 := of_decide_eq_true HBZ.out
  subst hz
  clear HBZ
  go_wp2
  go_ret
  exact ⟨rfl, HB⟩
 | false =>
  have hz : ¬ E = 0 := of_decide_eq_false HBZ.out
  have h2 : (E == 0) = false := by simpa using hz
  clear HBZ
  go_wp2
  go_ret
  exact ⟨rfl, HB⟩
theorem rfill8_any (e k p : Int) (co : Option Addr) (cn cc : Nat) (cs : List Cl) (w : World) (hs : SlC w co cn cc cs) (hf : Few cs) (hz : e = 1 ∨ e = 2 → szE e k cs ≤ 1099511627776) :
  Calls Tryz.prog 12 #[.int .i64 e, .int .i64 k, .slice co cn cc, .int .i64 p] w fun r w' => r = .returned (.int .i64 (fillB e k p cs)) ∧ Hid (Below w.heap.size w w') := by
 have HP := hidden (rPage8_any p w)
 unfold fillB
 by_cases he : e = 1 ∨ e = 2
 ·have HZ : Hid (∀ u, Below w.heap.size w u → Calls Tryz.prog 38 #[.int .i64 e, .int .i64 k, .slice co cn cc] u fun r w' => r = .returned (.int .i64 (szE e k cs : Int)) ∧ Hid (Below w.heap.size w w')) := hidden fun u hu => by
   refine (rsize8_any e k he co cn cc cs u (hs.on hu) hf (hz he)).mono ?_
   rintro r w' ⟨rfl, HB⟩
   exact ⟨rfl, hidden (bl_go hu (Nat.le_refl _) HB.out)⟩
  have hzz := hz he
  generalize szE e k cs = Z at *
  have l1 : ¬ e < 1 := by omega
  have l2 : ¬ 2 < e := by omega
  by_cases hp : pw p
  ·have d : decide (pw p) = true := decide_eq_true hp
   rw [if_pos ⟨he, hp⟩]
   rw [d] at HP
   have hp1 := pw_le hp
   have hp0 : 512 ≤ p := by unfold pw at hp; omega
   have HZ0 := HZ.out w (Below.refl _ _)
   have HZ1 := hidden HZ0
   have hZI : (Z : Int) ≤ 1099511627776 := by omega
   have hm : IntKind.i64.wrap ((Z : Int) * 256) = (Z : Int) * 256 := by rw [IntKind.wrap_i64]; omega
   clear hs hf hz he hp d hzz HZ HZ0
   go_enter Tryz.func12, Tryz.ntmps12
   go_wp2_with (first | (go_at_call 37; refine same_call HP.out ?_) | (go_at_call 38; refine HZ1.out.mono ?_; rintro r w2 ⟨rfl, HB⟩; refine Hid.out ?_))
   apply hidden
   go_wp2
   go_ret
   refine ⟨?_, HB⟩
   have hq : 0 ≤ (Z : Int) * 256 / p := Int.ediv_nonneg (by omega) (by omega)
   have hq2 : (Z : Int) * 256 / p ≤ (Z : Int) * 256 := Int.ediv_le_self _ (by omega)
   first
    | rfl
    | (congr 2; rw [Int.tdiv_eq_ediv_of_nonneg (by omega)]; done)
    | (congr 2; rw [Int.tdiv_eq_ediv_of_nonneg (by omega), IntKind.wrap_i64]; omega)
    | (congr 2; go_num)
  ·have d : decide (pw p) = false := decide_eq_false hp
   rw [if_neg (fun h => hp h.2)]
   rw [d] at HP
   clear hs hf hz he hp d hzz HZ
   go_enter Tryz.func12, Tryz.ntmps12
   go_wp2_with (first | (go_at_call 37; refine same_call HP.out ?_))
   go_ret
   exact ⟨rfl, hidden (Below.refl _ _)⟩
 ·rw [if_neg (fun h => he h.1)]
  clear hs hf hz
  obtain ⟨B, hB⟩ : ∃ B, decide (pw p) = B := ⟨_, rfl⟩
  rw [hB] at HP
  clear hB
  have hl : e < 1 ∨ 2 < e := by omega
  rcases hl with hl | hl
  ·clear he
   go_enter Tryz.func12, Tryz.ntmps12
   go_wp2_with (first | (go_at_call 37; refine same_call HP.out ?_))
   go_ret
   exact ⟨rfl, hidden (Below.refl _ _)⟩
  ·have hl1 : ¬ e < 1 := by omega
   clear he
   go_enter Tryz.func12, Tryz.ntmps12
   go_wp2_with (first | (go_at_call 37; refine same_call HP.out ?_))
   go_ret
   exact ⟨rfl, hidden (Below.refl _ _)⟩
end Go.Proofs.YtlhkinlgolcpaaaGreatDoor

namespace Go.Proofs.YtlhkinlgolcpaaaGreatDoor
set_option maxRecDepth 100000
open Go.RowKit
theorem rtL_get (k : Int) (cs : List Cl) (K t : Nat) : (rtL k cs K)[t]? = (cs[K + t]?).map (fun e => if t = 0 ∧ k = 3 then noKey e else e) := by
 unfold rtL
 rw [← List.getElem?_drop]
 cases h : cs.drop K with
 | nil => rw [rsd_nil]; simp
 | cons c r =>
  rw [rsd_cons]
  cases t with
  | zero => by_cases hk : k = 3 <;> simp [hk]
  | succ t => simp
set_option maxHeartbeats 4000000 in
theorem right9_any (w : World) (k : Int) (b off m cap K : Nat) (cs : List Cl) (hs : SlC w (some ⟨b, off, none⟩) m cap cs) (hm : m ≤ 200000) (hK : K ≤ m) :
  Calls Tryz.prog 39 #[.int .i64 k, .slice (some ⟨b, off, none⟩) m cap, .int .i64 (K : Int)] w fun e w' => ∃ v, e = .returned v ∧ Hid (OwK w w.heap.size w' v (rtL k cs K)) ∧ Hid (Below w.heap.size w w') := by
 have HS := hidden hs.srk
 have HLN := hidden hs.hlen
 have HRL : Hid ((rtL k cs K).length = m - K) := hidden (by rw [rtL_length, hs.hlen])
 have KI : (K : Int) ≤ 200000 := by omega
 have mI : (m : Int) ≤ 200000 := by omega
 have HKM := hidden hK
 clear hs
 go_enter Tryz.func39, Tryz.ntmps39
 go_wp2_with fail
 go_loopw [7, 8, 9] (fun o kv s9 wr => ∃ (t q : Nat) (ov : Value), ov = o ∧ q = K + t ∧ q ≤ m ∧ kv = .int .i64 (q : Int) ∧ Hid (OwK w w.heap.size wr ov ((rtL k cs K).take t)) ∧ Hid (Below w.heap.size w wr)) (fun _ kv _ _ => m - (intOf kv).toNat)
 case atStart => exact ⟨0, K, _, rfl, rfl, hK, rfl, hidden (OwK.nil _ _ _), hidden (Below.refl _ _)⟩
 case round =>
  obtain ⟨t, q, ov, rfl, hqt, hq, rfl, HO, HB⟩ := hrel
  have qI : (q : Int) ≤ 200000 := by omega
  have HSR : Hid (SrK w wr (some ⟨b, off, none⟩) m cap cs) := hidden (HS.out.on HB.out)
  have HQT := hidden hqt
  clear hqt
  by_cases hlt : q < m
  ·have hltI : (q : Int) < (m : Int) := by omega
   obtain ⟨b', off', e, ka', kc', va', vc', hbo, hb', hci, d0, d1, d2, d3, d4, hk', hv'⟩ := HSR.out.item q (by omega)
   injection hbo with hbo
   injection hbo with hbo1 hbo2
   subst hbo1 hbo2
   have HCI := hidden hci
   obtain ⟨kn, hkn⟩ : ∃ kn, e.key.length = kn := ⟨_, rfl⟩
   obtain ⟨vn, hvn⟩ : ∃ vn, e.val.length = vn := ⟨_, rfl⟩
   obtain ⟨kd', hkd⟩ : ∃ kd', e.kd = kd' := ⟨_, rfl⟩
   obtain ⟨pg, hpg⟩ : ∃ pg, e.pg = pg := ⟨_, rfl⟩
   obtain ⟨ct, hct⟩ : ∃ ct, e.ct = ct := ⟨_, rfl⟩
   have HKN := hidden (And.intro hkn (And.intro hvn (And.intro hkd (And.intro hpg hct))))
   have HKV := hidden (And.intro hk' hv')
   rw [hkn] at d0
   rw [hkd] at d1
   rw [hvn] at d2
   rw [hpg] at d3
   rw [hct] at d4
   obtain ⟨y, hy⟩ : ∃ y, wr.alloc (.cells #[.slice ka' kn kc', .int .i64 kd', .slice va' vn vc', .int .i64 pg, .int .i64 ct] 41) = y := ⟨_, rfl⟩
   have hby : Below wr.heap.size wr y := by rw [← hy]; exact bl_al (Below.refl _ _) (Nat.le_refl _) _
   obtain ⟨s, hsz⟩ : ∃ s, wr.heap.size = s := ⟨_, rfl⟩
   have h5 : C5 y s (.slice ka' kn kc') (.int .i64 kd') (.slice va' vn vc') (.int .i64 pg) (.int .i64 ct) := by rw [← hy, ← hsz]; exact C5.box _ _ _ _ _ _
   have H5 := hidden h5
   have HBY := hidden hby
   have HSZ := hidden hsz
   obtain ⟨z0, z1, z2, z3, z4⟩ := h5.cells
   obtain ⟨f0, f1, f2, f3, f4⟩ := h5.free
   clear hk' hv' hci hkn hvn hkd hpg hct h5 hby
   by_cases hcase : t = 0 ∧ k = 3
   ·obtain ⟨rfl, rfl⟩ := hcase
    obtain rfl : q = K := by have := HQT.out; omega
    obtain ⟨x, hx⟩ : ∃ x, y.setCell ⟨s, 0, none⟩ (.slice none 0 0) = x := ⟨_, rfl⟩
    have HX5 : Hid (C5 x s (.slice none 0 0) (.int .i64 kd') (.slice va' vn vc') (.int .i64 pg) (.int .i64 ct)) := hidden (by rw [← hx]; exact (H5.out.set _).1)
    have HBX : Hid (Below wr.heap.size wr x) := hidden (by rw [← hx]; exact HBY.out.setCell (p := ⟨s, 0, none⟩) (by rw [HSZ.out]; exact Nat.le_refl _) _)
    have HRO : Hid (Row5 w [.slice none 0 0, .int .i64 kd', .slice va' vn vc', .int .i64 pg, .int .i64 ct] [noKey e]) := hidden (by
     obtain ⟨k1, k2, k3, k4, k5⟩ := HKN.out
     rw [← k2, ← k3, ← k4, ← k5]
     exact ⟨none, 0, va', vc', [], rfl, Sl.nil_any _ _ _ (fun _ => rfl), HKV.out.2, rfl⟩)
    have HEL : Hid ((rtL 3 cs q).take (0 + 1) = (rtL 3 cs q).take 0 ++ [noKey e]) := hidden (take_snocC _ _ _ (by rw [rtL_get, Nat.add_zero, HCI.out]; simp))
    obtain ⟨y2, hy2⟩ : ∃ y2, x.alloc (.cells #[.slice none 0 0, .int .i64 kd', .slice va' vn vc', .int .i64 pg, .int .i64 ct] 41) = y2 := ⟨_, rfl⟩
    have hby2 : Below x.heap.size x y2 := by rw [← hy2]; exact bl_al (Below.refl _ _) (Nat.le_refl _) _
    have HBE2 : Hid (Below wr.heap.size wr y2) := hidden (bl_go HBX.out (Nat.le_refl _) hby2)
    have HOY : Hid (OwK w w.heap.size y2 ov ((rtL 3 cs q).take 0)) := hidden (HO.out.go HBE2.out)
    have HBY2 : Hid (Below w.heap.size w y2) := hidden (bl_go HB.out (Nat.le_refl _) HBE2.out)
    have HXY := hidden (five_at hy2)
    obtain ⟨a0, a1, a2, a3, a4⟩ := HX5.out.cells
    have HLT : Hid (((rtL 3 cs q).take 0).length ≤ 200000) := hidden (by rw [List.length_take, HRL.out]; omega)
    clear hby2 HO HB HBX HX5 HSR HBE2
    go_wp2_with (at_builtin; refine app_k w _ w.heap.size rfl _ _ rfl ((rtL 3 cs q).take 0) (noKey e) ov x.heap.size _ rfl rfl HOY.out HRO.out HXY.out (by have := HLT.out; omega) HBY2.out.size ?_; intro v2 u2 HO2 HBU2; refine Hid.out ?_)
    apply hidden
    have HBU : Hid (Below w.heap.size w u2) := hidden (HBY2.out.trans HBU2.out)
    rw [← HEL.out] at HO2
    clear HOY HBY2 HXY HRO hy2 hy d0 d1 d2 d3 d4 a0 a1 a2 a3 a4 z0 z1 z2 z3 z4 f0 f1 f2 f3 f4 HBU2 H5 HBY
    go_wp2
    go_roundw
    case rel => exact ⟨0 + 1, q + 1, _, rfl, by have := HQT.out; omega, by omega, by go_num, HO2, HBU⟩
    case measure => simp [intOf]; omega
   ·have hnb : (decide ((q : Int) = (K : Int)) && decide (k = 3)) = false := by
     simp only [Bool.and_eq_false_iff, decide_eq_false_iff_not]
     by_cases h1 : (q : Int) = (K : Int)
     ·exact .inr fun h2 => hcase ⟨by have := HQT.out; omega, h2⟩
     ·exact .inl h1
    have HX5 : Hid (C5 y s (.slice ka' kn kc') (.int .i64 kd') (.slice va' vn vc') (.int .i64 pg) (.int .i64 ct)) := hidden H5.out
    have HBX : Hid (Below wr.heap.size wr y) := hidden HBY.out
    have HRO : Hid (Row5 w [.slice ka' kn kc', .int .i64 kd', .slice va' vn vc', .int .i64 pg, .int .i64 ct] [e]) := hidden (by
     obtain ⟨k1, k2, k3, k4, k5⟩ := HKN.out
     rw [← k1, ← k2, ← k3, ← k4, ← k5]
     exact ⟨ka', kc', va', vc', [], rfl, HKV.out.1, HKV.out.2, rfl⟩)
    have HEL : Hid ((rtL k cs K).take (t + 1) = (rtL k cs K).take t ++ [e]) := hidden (take_snocC _ _ _ (by rw [rtL_get, ← HQT.out, HCI.out]; simp [hcase]))
    by_cases hqk : q = K
    ·have hk3 : ¬ k = 3 := fun h => hcase ⟨by have := HQT.out; omega, h⟩
     subst hqk
     clear hcase hnb
     obtain ⟨y2, hy2⟩ : ∃ y2, y.alloc (.cells #[.slice ka' kn kc', .int .i64 kd', .slice va' vn vc', .int .i64 pg, .int .i64 ct] 41) = y2 := ⟨_, rfl⟩
     have hby2 : Below y.heap.size y y2 := by rw [← hy2]; exact bl_al (Below.refl _ _) (Nat.le_refl _) _
     have HBE2 : Hid (Below wr.heap.size wr y2) := hidden (bl_go HBX.out (Nat.le_refl _) hby2)
     have HOY : Hid (OwK w w.heap.size y2 ov ((rtL k cs q).take t)) := hidden (HO.out.go HBE2.out)
     have HBY2 : Hid (Below w.heap.size w y2) := hidden (bl_go HB.out (Nat.le_refl _) HBE2.out)
     have HXY := hidden (five_at hy2)
     obtain ⟨a0, a1, a2, a3, a4⟩ := HX5.out.cells
     have HLT : Hid (((rtL k cs q).take t).length ≤ 200000) := hidden (by rw [List.length_take, HRL.out]; omega)
     clear hby2 HO HB HBX HX5 HSR HBE2
     go_wp2_with (at_builtin; refine app_k w _ w.heap.size rfl _ _ rfl ((rtL k cs q).take t) e ov y.heap.size _ rfl rfl HOY.out HRO.out HXY.out (by have := HLT.out; omega) HBY2.out.size ?_; intro v2 u2 HO2 HBU2; refine Hid.out ?_)
     apply hidden
     have HBU : Hid (Below w.heap.size w u2) := hidden (HBY2.out.trans HBU2.out)
     rw [← HEL.out] at HO2
     clear HOY HBY2 HXY HRO hy2 hy d0 d1 d2 d3 d4 a0 a1 a2 a3 a4 z0 z1 z2 z3 z4 f0 f1 f2 f3 f4 HBU2 H5 HBY
     go_wp2
     go_roundw
     case rel => exact ⟨t + 1, q + 1, _, rfl, by have := HQT.out; omega, by omega, by go_num, HO2, HBU⟩
     case measure => simp [intOf]; omega
    ·have hqK : ¬ (q : Int) = (K : Int) := by omega
     clear hcase hnb
     obtain ⟨y2, hy2⟩ : ∃ y2, y.alloc (.cells #[.slice ka' kn kc', .int .i64 kd', .slice va' vn vc', .int .i64 pg, .int .i64 ct] 41) = y2 := ⟨_, rfl⟩
     have hby2 : Below y.heap.size y y2 := by rw [← hy2]; exact bl_al (Below.refl _ _) (Nat.le_refl _) _
     have HBE2 : Hid (Below wr.heap.size wr y2) := hidden (bl_go HBX.out (Nat.le_refl _) hby2)
     have HOY : Hid (OwK w w.heap.size y2 ov ((rtL k cs K).take t)) := hidden (HO.out.go HBE2.out)
     have HBY2 : Hid (Below w.heap.size w y2) := hidden (bl_go HB.out (Nat.le_refl _) HBE2.out)
     have HXY := hidden (five_at hy2)
     obtain ⟨a0, a1, a2, a3, a4⟩ := HX5.out.cells
     have HLT : Hid (((rtL k cs K).take t).length ≤ 200000) := hidden (by rw [List.length_take, HRL.out]; omega)
     clear hby2 HO HB HBX HX5 HSR HBE2
     go_wp2_with (at_builtin; refine app_k w _ w.heap.size rfl _ _ rfl ((rtL k cs K).take t) e ov y.heap.size _ rfl rfl HOY.out HRO.out HXY.out (by have := HLT.out; omega) HBY2.out.size ?_; intro v2 u2 HO2 HBU2; refine Hid.out ?_)
     apply hidden
     have HBU : Hid (Below w.heap.size w u2) := hidden (HBY2.out.trans HBU2.out)
     rw [← HEL.out] at HO2
     clear HOY HBY2 HXY HRO hy2 hy d0 d1 d2 d3 d4 a0 a1 a2 a3 a4 z0 z1 z2 z3 z4 f0 f1 f2 f3 f4 HBU2 H5 HBY
     go_wp2
     go_roundw
     case rel => exact ⟨t + 1, q + 1, _, rfl, by have := HQT.out; omega, by omega, by go_num, HO2, HBU⟩
     case measure => simp [intOf]; omega
  ·obtain rfl : q = m := by omega
   have hltI : ¬ (q : Int) < (q : Int) := by omega
   go_wp2
   go_ret
   refine ⟨ov, rfl, ?_, HB⟩
   have h1 := HRL.out
   have h2 := HQT.out
   rwa [List.take_of_length_le (by omega)] at HO
end Go.Proofs.YtlhkinlgolcpaaaGreatDoor
