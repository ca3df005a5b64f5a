/- The document's check sum, and how many bytes there are. -/
import Derived.Test.YtehcemefhgebpaaDoorCrcMath
import Derived.Test.YtehcemefhgebpaaDoorSum
import Derived.Test.YtehcemefhgebpaaDoorTurnMath
import Derived.Test.YtehcemefhgebpaaDoorMe
import Derived.Test.YtehcemefhgebpaaDoorMath
import Derived.Test.YtehcemefhgebpaaDoorUb
import Derived.Test.YtehcemefhgebpaaDoorJa
namespace Go.Proofs.YtehcemefhgebpaaDoor
open Go.RowKit

set_option maxRecDepth 100000 in
theorem Sn_step (k y : Nat) (h : k < 8) : Sn (8 - k) y = Sn (8 - (k + 1)) (S y) := by
  rw [show 8 - k = (8 - (k + 1)) + 1 by omega]
  rfl
set_option maxRecDepth 100000 in
set_option maxHeartbeats 1000000 in
theorem step_any (r x : Nat) (w : World) (hr : r < 4294967296) (hx : x < 256) :
    Calls Tryd.prog 84 #[.int .u32 r, .int .u8 x] w fun e w' => e = .returned (.int .u32 (Sn 8 (r ^^^ x))) ∧ w' = w := by
  have hxr := u32_xor_nat r x hr (by omega)
  have hlt := xor32 hr (show x < 4294967296 by omega)
  generalize (r ^^^ x : Nat) = R at *
  generalize hF : Sn 8 R = F
  have HF := hidden hF
  clear hF
  go_enter Tryd.func84, Tryd.ntmps84
  go_wp2_with fail
  go_loop [5, 6] (fun v i => ∃ k y : Nat, k ≤ 8 ∧ y < 4294967296 ∧ i = .int .i64 k ∧ v = .int .u32 y ∧ Hid (Sn (8 - k) y = F)) (fun _ i => 8 - (intOf i).toNat)
  case atStart => exact ⟨0, R, by omega, hlt, rfl, rfl, HF⟩
  case round =>
    clear hxr hlt HF
    obtain ⟨k, y, hk, hy, rfl, rfl, HK⟩ := hrel
    by_cases hk8 : k < 8
    · have e := HK.out
      rw [Sn_step k y hk8] at e
      have hSl := S_lt hy
      clear HK
      obtain ⟨D, hD⟩ : ∃ D : Nat, y / 2 = D := ⟨_, rfl⟩
      have hD2 : (y : Int) / 2 = (D : Int) := by omega
      have hDl : D < 4294967296 := by omega
      by_cases hodd : y % 2 = 1
      · have hS : S y = D ^^^ 2197175160 := by unfold S; rw [if_pos hodd, hD]
        rw [hS] at e hSl
        have hz := u32_xor_nat D 2197175160 hDl (by omega)
        obtain ⟨Z, hZ⟩ : ∃ Z : Nat, D ^^^ 2197175160 = Z := ⟨_, rfl⟩
        rw [hZ] at e hz hSl
        have hz2 : bits .xor .u32 (D : Int) 2197175160 = (Z : Int) := hz
        have hb : ((y : Int) % 2 == 1) = true := by simp; omega
        have HE := hidden e
        clear e hS hz hZ hD hodd
        go_wp2
        go_round
        case rel => exact ⟨k + 1, Z, by omega, hSl, by go_num, rfl, HE⟩
        case measure => simp [intOf]; omega
      · have hS : S y = D := by unfold S; rw [if_neg hodd, hD]
        rw [hS] at e hSl
        have hb : ((y : Int) % 2 == 1) = false := by simp; omega
        have HE := hidden e
        clear e hS hD hodd
        go_wp2
        go_round
        case rel => exact ⟨k + 1, D, by omega, hSl, by go_num, rfl, HE⟩
        case measure => simp [intOf]; omega
    · have e : y = F := by rw [← HK.out, show 8 - k = 0 by omega]; rfl
      have HE := hidden e
      clear e HK
      go_wp2
      go_ret
      exact ⟨ret_int (by rw [HE.out]), rfl⟩

/-- How many bytes there are, one more for each list. -/
def tot (ls : List (List Int)) : Nat := (ls.map fun l => 1 + l.length).sum
set_option maxRecDepth 100000 in
theorem tot_snoc (ls : List (List Int)) (l : List Int) : tot (ls ++ [l]) = tot ls + (1 + l.length) := by simp [tot]
set_option maxRecDepth 100000 in
theorem take_snocS (ls : List (List Int)) (k : Nat) (h : k < ls.length) : ls.take (k + 1) = ls.take k ++ [ls.getD k []] := by
  rw [List.take_succ_eq_append_getElem h]
  simp [List.getD, List.getElem?_eq_getElem h]

/-- What Great answers: true, or false where there are few bytes. -/
def GreatSays (ls : List (List Int)) (e : Ending) : Prop := ∃ g, e = .returned (.bool g) ∧ (g = false → tot ls ≤ 1000000)
set_option maxRecDepth 100000 in
theorem GreatSays.mk {ls : List (List Int)} {g : Bool} (h : g = false → tot ls ≤ 1000000) : GreatSays ls (.returned (.bool g)) := ⟨g, rfl, h⟩

/-- The register behind all parts. -/
def crS (r : Nat) (ls : List (List Int)) : Nat := ls.foldl (fun r l => cr r (l.map Int.toNat)) r
set_option maxRecDepth 100000 in
theorem sumN_eq : ∀ (ls : List (List Int)) (r : Nat), r < 4294967296 → (∀ l ∈ ls, Wf l) → ls.foldl (fun r l => tk (l.map Int.toNat) r) r = crS r ls
  | [], _, _, _ => rfl
  | l :: ls, r, hr, hw => by
    have h1 := tk_eq (l.map Int.toNat) r hr (nat_lt l (hw l (by simp)))
    show ls.foldl _ (tk (l.map Int.toNat) r) = crS (cr r (l.map Int.toNat)) ls
    rw [h1]
    exact sumN_eq ls _ (cr_lt _ _ hr (nat_lt l (hw l (by simp)))) (fun x hx => hw x (by simp [hx]))
set_option maxRecDepth 100000 in
theorem crS_flat (r : Nat) (ls : List (List Int)) : crS r ls = cr r ((ls.flatMap id).map Int.toNat) := by
  induction ls generalizing r with
  | nil => rfl
  | cons l ls ih =>
    show crS (cr r (l.map Int.toNat)) ls = _
    rw [ih, List.flatMap_cons, List.map_append, cr_append]
    rfl

end Go.Proofs.YtehcemefhgebpaaDoor

/- The document's SumOf (of Ms, without layer 5's). -/

namespace Go.Proofs.YtehcemefhgebpaaDoor
open Go.RowKit

set_option maxRecDepth 100000 in
theorem sum_one (l : List Int) (h : Wf l) : sumN [l] = 4294967295 ^^^ cr 4294967295 (l.map Int.toNat) := by
  show 4294967295 ^^^ tk (l.map Int.toNat) 4294967295 = _
  rw [tk_eq _ _ (by omega) (nat_lt l h)]

set_option maxRecDepth 100000 in
set_option maxHeartbeats 1000000 in
theorem rSumOf_any (ao : Option Addr) (n cap : Nat) (l : List Int) (w : World) (hs : Sl w ao n cap l) :
    Calls Tryd.prog 62 #[.slice ao n cap] w fun e w' => e = .returned (.int .u32 (sumN [l] : Nat)) ∧ w' = w := by
  have HS := hidden hs
  have HW := hidden hs.wf
  have hlen := hs.hlen
  have hroom := hs.hroom
  have hE : sumN [l] = cr 4294967295 (l.map Int.toNat) ^^^ 4294967295 := by rw [sum_one l hs.wf, Nat.xor_comm]
  rw [hE]
  clear hE hs
  generalize hF : cr 4294967295 (l.map Int.toNat) = F
  have HF := hidden hF
  clear hF
  go_enter Tryd.func62, Tryd.ntmps62
  go_wp2_with fail
  go_loop [3, 4] (fun v i => ∃ k y : Nat, k ≤ n ∧ y < 4294967296 ∧ i = .int .i64 k ∧ v = .int .u32 y ∧ Hid (cr y ((l.drop k).map Int.toNat) = F)) (fun _ i => n - (intOf i).toNat)
  case atStart => exact ⟨0, 4294967295, by omega, by omega, rfl, rfl, HF⟩
  case round =>
    clear HF
    obtain ⟨k, y, hk, hy, rfl, rfl, HK⟩ := hrel
    by_cases hkn : k < n
    · rcases HS.out.hat with h | ⟨b', off', rfl, hbb', hc'⟩
      · omega
      have hcj := hc' k hkn
      have hby := HW.out.getD k
      have ej := HK.out
      rw [drop_cons l k (by omega)] at ej
      obtain ⟨C, hC⟩ := Int.eq_ofNat_of_zero_le hby.1
      rw [hC] at hcj hby ej
      have HEJ : Hid (cr (Sn 8 (y ^^^ C)) ((l.drop (k + 1)).map Int.toNat) = F) := ej
      have hst := step_any y C w hy (by omega)
      have hzl := Sn_lt 8 (xor32 hy (show C < 4294967296 by omega))
      generalize Sn 8 (y ^^^ C) = Z at *
      have HST := hidden hst
      clear hc' ej HK hC hst hlen
      go_wp2_with fail
      refine same_call HST.out ?_
      go_wp2
      go_round
      case rel => exact ⟨k + 1, Z, by omega, hzl, by go_num, rfl, HEJ⟩
      case measure => simp [intOf]; omega
    · have e : y = F := by rw [← HK.out, List.drop_eq_nil_of_le (by omega)]; rfl
      have HE := hidden e
      have hx := u32_xor_nat y 4294967295 hy (by omega)
      have hx2 : bits .xor .u32 (y : Int) 4294967295 = ((y ^^^ 4294967295 : Nat) : Int) := hx
      have HX := hidden hx2
      clear e HK hx hx2
      go_wp2
      go_ret
      exact ⟨ret_int (by rw [← HE.out]; exact HX.out), rfl⟩
end Go.Proofs.YtehcemefhgebpaaDoor

/- The document's Fixed and Uint come to the same bytes. -/

namespace Go.Proofs.YtehcemefhgebpaaDoor
open Go.RowKit

set_option maxRecDepth 100000 in
theorem refFixed_no (n x : Int) (w : World) (h : x < 1 ∨ 8 < x) :
    Calls Tryd.prog 60 #[.int .u64 n, .int .i64 x] w fun e w' => e = .returned (.slice none 0 0) ∧ w' = w := by
  rcases h with h | h
  · go_enter Tryd.func60, Tryd.ntmps60
    go_wp2
    go_ret
    exact ⟨rfl, rfl⟩
  · have h' : ¬ x < 1 := by omega
    go_enter Tryd.func60, Tryd.ntmps60
    go_wp2
    go_ret
    exact ⟨rfl, rfl⟩

set_option maxRecDepth 100000 in
set_option maxHeartbeats 1000000 in
theorem refFixed_yes (n x : Int) (w : World) (h0 : 0 ≤ n) (hn : n < 18446744073709551616) (h1 : 1 ≤ x) (h2 : x ≤ 8) :
    Calls Tryd.prog 60 #[.int .u64 n, .int .i64 x] w fun e w' => ∃ v, e = .returned v ∧ OwnB w' w.heap.size v (fB x.toNat n) ∧ Below w.heap.size w w' := by
  obtain ⟨width, rfl⟩ := Int.eq_ofNat_of_zero_le (show 0 ≤ x by omega)
  rw [Int.toNat_natCast]
  go_enter Tryd.func60, Tryd.ntmps60
  go_wp2_with fail
  go_loopw [5, 6] (fun v i wr => ∃ (k : Nat) (acc : List Int), k ≤ width ∧ i = .int .i64 ((k : Int) - 1) ∧ acc ++ fB k n = fB width n ∧ OwnB wr w.heap.size v acc ∧ Below w.heap.size w wr) (fun _ i _ => (intOf i + 1).toNat)
  case atStart => exact ⟨width, [], Nat.le_refl _, rfl, rfl, OwnB.nil _ _, Below.refl _ _⟩
  case round =>
    obtain ⟨k, acc, hk, rfl, hac, hown, hb⟩ := hrel
    have HA := hidden hac
    clear hac
    have hsz := hb.size
    have hlen : acc.length ≤ 8 := by
      have h1 := congrArg List.length HA.out
      simp only [List.length_append, fB_length] at h1
      omega
    by_cases hk0 : k = 0
    · subst hk0
      have e : acc = fB width n := by have := HA.out; simpa [fB] using this
      rw [e] at hown
      clear e HA
      go_wp2
      go_ret
      exact ⟨_, rfl, hown, hb⟩
    · obtain ⟨j, rfl⟩ : ∃ j, k = j + 1 := ⟨k - 1, by omega⟩
      go_wp2_with fail
      go_loopw [7, 8] (fun x i w' => ∃ t : Nat, t ≤ j ∧ i = .int .i64 t ∧ x = .int .u64 (n / 256 ^ t) ∧ w' = wr) (fun _ i _ => j - (intOf i).toNat)
      case atStart => exact ⟨0, by omega, rfl, by simp, rfl⟩
      case round =>
        obtain ⟨t, ht, rfl, rfl, rfl⟩ := hrel
        have hpos : 0 ≤ n / 256 ^ t := Int.ediv_nonneg h0 (Int.le_of_lt (Int.pow_pos (by omega)))
        have hle : n / 256 ^ t ≤ n := Int.ediv_le_self _ h0
        have HP := hidden (pow256 n t)
        by_cases hlt : t < j
        · generalize n / 256 ^ t = y at *
          go_wp2
          go_roundw
          case rel => exact ⟨t + 1, by omega, by go_num, by rw [← HP.out], trivial⟩
          case measure => simp [intOf]; omega
        · obtain rfl : t = j := by omega
          generalize hy : n / 256 ^ t = y at *
          have HY := hidden hy
          clear hy
          go_wp2_with (at_builtin; refine app_bytes _ rfl _ _ rfl w.heap.size acc _ rfl (hown.alloc _) _ 1 1 [y % 256] rfl rfl (one_cell _ _) (by omega) (by simp; omega) ?_)
          intro v2 w2 hown2 hb2
          have R2 : Below w.heap.size w w2 := (hb.alloc hsz _).trans hb2
          clear hb2 hown
          go_wp2
          go_roundw
          case rel => exact ⟨t, acc ++ [y % 256], by omega, by go_num, by rw [← HA.out, fB, HY.out]; simp, hown2, R2⟩
          case measure => simp [intOf]
end Go.Proofs.YtehcemefhgebpaaDoor

/- What the texts on espalierref03.Book ask besides Ub (of layer 9's texts). -/

namespace Go.Proofs.YtehcemefhgebpaaDoor
open Go.RowKit

set_option maxRecDepth 100000 in
theorem Gr.cf {w w' : World} {v v' : Value} (h : Gr w v w' v') : Cf (fun k => v.ownBlock = some k) w w' := ⟨h.grow.os, h.grow.tape, h.grow.output, h.grow.size, fun k hk hf => h.grow.block k hk (fun e => hf e.symm)⟩
set_option maxRecDepth 100000 in
theorem Cf.wide {F G : Nat → Prop} {a b : World} (h : Cf F a b) (hg : ∀ k, F k → G k) : Cf G a b := ⟨h.os, h.tape, h.output, h.size, fun k hk hf => h.block k hk (fun e => hf (hg k e))⟩
set_option maxRecDepth 100000 in
theorem Cf.thenB {F : Nat → Prop} {a b c : World} (h : Cf F a b) (k : Below a.heap.size b c) : Cf F a c :=
  ⟨k.os.trans h.os, k.tape.trans h.tape, k.output.trans h.output, Nat.le_trans h.size k.size, fun i hi hf => (k.block i hi).trans (h.block i hi hf)⟩
set_option maxRecDepth 100000 in
theorem OwnB.cf {w w' : World} {B : Nat} {v : Value} {l : List Int} {F : Nat → Prop} (h : OwnB w B v l) (hc : Cf F w w') (hf : ∀ k, v.ownBlock = some k → ¬ F k) : OwnB w' B v l := by
  unfold OwnB at *
  rcases h.2 with h2 | ⟨g, cap, cur, e, hg, hh, rest⟩
  · exact ⟨h.1, .inl h2⟩
  · refine ⟨h.1, .inr ⟨g, cap, cur, e, hg, ?_, rest⟩⟩
    rw [hc.block g (lt_some hh) (hf g (by rw [e]; rfl))]
    exact hh
set_option maxRecDepth 100000 in
theorem OwnB.sl2 {w : World} {B : Nat} {ao : Option Addr} {n c : Nat} {l : List Int} (h : OwnB w B (.slice ao n c) l) (hw : Wf l) (hl : l.length ≤ 140737488355328) : Sl w ao n c l := by
  obtain ⟨ao', c', e, hs, _⟩ := h.sl hw hl
  injection e with e1 e2 e3
  subst e1 e3
  rw [← e2] at hs
  exact hs
set_option maxRecDepth 100000 in
theorem OwnB.blk {w : World} {B : Nat} {v : Value} {l : List Int} (h : OwnB w B v l) {k : Nat} (hk : v.ownBlock = some k) : B ≤ k ∧ k < w.heap.size := by
  unfold OwnB at h
  exact h.lt k hk
end Go.Proofs.YtehcemefhgebpaaDoor

/- The document's Encode of a list's page. -/

namespace Go.Proofs.YtehcemefhgebpaaDoor
open Go.RowKit

def lnOf : Value → Nat
  | .slice _ n _ => n
  | _ => 0
set_option maxRecDepth 100000 in
theorem own_shape2 {w : World} {B : Nat} {u : Value} {l : List Int} (h : OwnB w B u l) : ∃ ao c, u = .slice ao l.length c := by
  unfold OwnB at h
  rcases h.2 with ⟨rfl, h0⟩ | ⟨g, cap, cur, rfl, hg, _⟩
  · exact ⟨none, 0, by rw [h0]⟩
  · exact ⟨_, cap, rfl⟩
set_option maxRecDepth 100000 in
theorem rfix (n : Int) (wd : Nat) (h0 : 0 ≤ n) (hn : n < 18446744073709551616) (h1 : 1 ≤ wd) (h2 : wd ≤ 8) (w : World) : Calls Tryd.prog 60 #[.int .u64 n, .int .i64 (wd : Int)] w fun e w' => ∃ fo fc, e = .returned (.slice fo wd fc) ∧ Hid (OwnB w' w.heap.size (.slice fo wd fc) (fB wd n)) ∧ Hid (Below w.heap.size w w') := by
  refine (refFixed_yes n wd w h0 hn (by omega) (by omega)).mono ?_
  rintro e w' ⟨v, rfl, ho, hb⟩
  rw [Int.toNat_natCast] at ho
  obtain ⟨ao, c, rfl⟩ := own_shape2 ho
  rw [fB_length] at ho ⊢
  exact ⟨ao, c, rfl, hidden ho, hidden hb⟩
set_option maxRecDepth 100000 in
/-- Fixed and add, one behind the other. -/
theorem radd_fix {w w1 : World} {B : Nat} {v : Value} {l : List Int} {fo : Option Addr} {wd fc : Nat} {n : Int} (ho : OwnB w B v l) (hB : B ≤ w.heap.size) (hf : OwnB w1 w.heap.size (.slice fo wd fc) (fB wd n)) (hb : Below w.heap.size w w1) (hl : l.length + wd ≤ 140737488355328) :
    Calls Tryd.prog 61 #[v, .slice fo wd fc] w1 fun e w' => ∃ v', e = .returned v' ∧ Hid (OwnB w' B v' (l ++ fB wd n)) ∧ Hid (Below B w w') := by
  have h1 := ho.on (Nat.le_refl _) hb
  have hwd : (fB wd n).length = wd := fB_length _ _
  refine (radd_any v B l (fB wd n) fo wd fc w1 h1 (hf.sl2 (fB_wf _ _) (by rw [hwd]; omega)) (own_far ho hf (Nat.le_refl _)) hl (Nat.le_trans hB hb.size)).mono ?_
  rintro e w' ⟨v', rfl, h2, h3⟩
  refine ⟨v', rfl, h2, hidden ?_⟩
  have := h3.out.below h1 (Nat.le_trans hB hb.size)
  exact Below.trans ⟨hb.os, hb.tape, hb.output, hb.size, fun k hk => hb.block k (by omega)⟩ this
end Go.Proofs.YtehcemefhgebpaaDoor
