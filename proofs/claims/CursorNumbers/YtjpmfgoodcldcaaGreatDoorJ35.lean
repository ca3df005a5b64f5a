import Derived.Test.YtjpmfgoodcldcaaGreatDoorJ02
import Derived.Test.YtjpmfgoodcldcaaGreatDoorJ03
import Derived.Test.YtjpmfgoodcldcaaGreatDoorJ34
import Derived.Laws.Cover1
namespace Go.Proofs.YtjpmfgoodcldcaaGreatDoor
set_option maxRecDepth 100000
open Go.RowKit
theorem Sn_step (k y : Nat) (h : k < 8) : Sn (8 - k) y = Sn (8 - (k + 1)) (S y) := by
 rw [show 8 - k = (8 - (k + 1)) + 1 by omega]
 rfl
set_option maxHeartbeats 1000000 in
theorem step_any (r x : Nat) (w : World) (hr : r < 4294967296) (hx : x < 256) :
  Calls Tryz.prog 46 #[.int .u32 r, .int .u8 x] w fun e w' => e = .returned (.int .u32 (Sn 8 (r ^^^ x))) ∧ w' = w := by
 have hxr := u32_xor_nat r x hr (by omega)
 have hlt := xor32 hr (show x < 4294967296 by omega)
 generalize (r ^^^ x : Nat) = R at *
 generalize hF : Sn 8 R = F
 have HF := hidden hF
 clear hF
 go_enter Tryz.func46, Tryz.ntmps46
 go_wp2_with fail
 go_loop [5, 6] (fun v i => ∃ k y : Nat, k ≤ 8 ∧ y < 4294967296 ∧ i = .int .i64 k ∧ v = .int .u32 y ∧ Hid (Sn (8 - k) y = F)) (fun _ i => 8 - (intOf i).toNat)
 case atStart => exact ⟨0, R, by omega, hlt, rfl, rfl, HF⟩
 case round =>
  clear hxr hlt HF
  obtain ⟨k, y, hk, hy, rfl, rfl, HK⟩ := hrel
  by_cases hk8 : k < 8
  ·have e := HK.out
   rw [Sn_step k y hk8] at e
   have hSl := S_lt hy
   clear HK
   obtain ⟨D, hD⟩ : ∃ D : Nat, y / 2 = D := ⟨_, rfl⟩
   have hD2 : (y : Int) / 2 = (D : Int) := by omega
   have hDl : D < 4294967296 := by omega
   by_cases hodd : y % 2 = 1
   ·have hS : S y = D ^^^ 2197175160 := by unfold S; rw [if_pos hodd, hD]
    rw [hS] at e hSl
    have hz := u32_xor_nat D 2197175160 hDl (by omega)
    obtain ⟨Z, hZ⟩ : ∃ Z : Nat, D ^^^ 2197175160 = Z := ⟨_, rfl⟩
    rw [hZ] at e hz hSl
    have hz2 : bits .xor .u32 (D : Int) 2197175160 = (Z : Int) := hz
    have hb : ((y : Int) % 2 == 1) = true := by simp; omega
    have HE := hidden e
    clear e hS hz hZ hD hodd
    go_wp2
    go_round
    case rel => exact ⟨k + 1, Z, by omega, hSl, by go_num, rfl, HE⟩
    case measure => simp [intOf]; omega
   ·have hS : S y = D := by unfold S; rw [if_neg hodd, hD]
    rw [hS] at e hSl
    have hb : ((y : Int) % 2 == 1) = false := by simp; omega
    have HE := hidden e
    clear e hS hD hodd
    go_wp2
    go_round
    case rel => exact ⟨k + 1, D, by omega, hSl, by go_num, rfl, HE⟩
    case measure => simp [intOf]; omega
  ·have e : y = F := by rw [← HK.out, show 8 - k = 0 by omega]; rfl
   have HE := hidden e
   clear e HK
   go_wp2
   go_ret
   exact ⟨ret_int (by rw [HE.out]), rfl⟩
end Go.Proofs.YtjpmfgoodcldcaaGreatDoor

namespace Go.Proofs.YtjpmfgoodcldcaaGreatDoor
set_option maxRecDepth 100000
open Go.RowKit
theorem sum_one (l : List Int) (h : Wf l) : sumN [l] = 4294967295 ^^^ cr 4294967295 (l.map Int.toNat) := by
 show 4294967295 ^^^ tk (l.map Int.toNat) 4294967295 = _
 rw [tk_eq _ _ (by omega) (nat_lt l h)]
set_option maxHeartbeats 1000000 in
theorem rSumOf_any (ao : Option Addr) (n cap : Nat) (l : List Int) (w : World) (hs : Sl w ao n cap l) :
  Calls Tryz.prog 28 #[.slice ao n cap] w fun e w' => e = .returned (.int .u32 (sumN [l] : Nat)) ∧ w' = w := by
 have HS := hidden hs
 have HW := hidden hs.wf
 have hlen := hs.hlen
 have hroom := hs.hroom
 have hE : sumN [l] = cr 4294967295 (l.map Int.toNat) ^^^ 4294967295 := by rw [sum_one l hs.wf, Nat.xor_comm]
 rw [hE]
 clear hE hs
 generalize hF : cr 4294967295 (l.map Int.toNat) = F
 have HF := hidden hF
 clear hF
 go_enter Tryz.func28, Tryz.ntmps28
 go_wp2_with fail
 go_loop [3, 4] (fun v i => ∃ k y : Nat, k ≤ n ∧ y < 4294967296 ∧ i = .int .i64 k ∧ v = .int .u32 y ∧ Hid (cr y ((l.drop k).map Int.toNat) = F)) (fun _ i => n - (intOf i).toNat)
 case atStart => exact ⟨0, 4294967295, by omega, by omega, rfl, rfl, HF⟩
 case round =>
  clear HF
  obtain ⟨k, y, hk, hy, rfl, rfl, HK⟩ := hrel
  by_cases hkn : k < n
  ·rcases HS.out.hat with h | ⟨b', off', rfl, hbb', hc'⟩
   ·omega
   have hcj := hc' k hkn
   have hby := HW.out.getD k
   have ej := HK.out
   rw [drop_cons l k (by omega)] at ej
   obtain ⟨C, hC⟩ := Int.eq_ofNat_of_zero_le hby.1
   rw [hC] at hcj hby ej
   have HEJ : Hid (cr (Sn 8 (y ^^^ C)) ((l.drop (k + 1)).map Int.toNat) = F) := ej
   have hst := step_any y C w hy (by omega)
   have hzl := Sn_lt 8 (xor32 hy (show C < 4294967296 by omega))
   generalize Sn 8 (y ^^^ C) = Z at *
   have HST := hidden hst
   clear hc' ej HK hC hst hlen
   go_wp2_with fail
   refine same_call HST.out ?_
   go_wp2
   go_round
   case rel => exact ⟨k + 1, Z, by omega, hzl, by go_num, rfl, HEJ⟩
   case measure => simp [intOf]; omega
  ·have e : y = F := by rw [← HK.out, List.drop_eq_nil_of_le (by omega)]; rfl
   have HE := hidden e
   have hx := u32_xor_nat y 4294967295 hy (by omega)
   have hx2 : bits .xor .u32 (y : Int) 4294967295 = ((y ^^^ 4294967295 : Nat) : Int) := hx
   have HX := hidden hx2
   clear e HK hx hx2
   go_wp2
   go_ret
   exact ⟨ret_int (by rw [← HE.out]; exact HX.out), rfl⟩
end Go.Proofs.YtjpmfgoodcldcaaGreatDoor

namespace Go.Proofs.YtjpmfgoodcldcaaGreatDoor
set_option maxRecDepth 100000
open Go.RowKit
def pgs6 (x : Int) : Bool := decide (x = 512 ∨ x = 1024 ∨ x = 2048 ∨ x = 4096 ∨ x = 8192 ∨ x = 16384 ∨ x = 32768 ∨ x = 65536)
theorem IsPage6_any (x : Int) (w : World) : Calls Tryz.prog 22 #[.int .i64 x] w fun e w' => e = .returned (.bool (pgs6 x)) ∧ w' = w := by
 go_enter Tryz.func22, Tryz.ntmps22
 go_wp2
 go_loop [3] (fun t => ∃ n : Int, t = .int .i64 n ∧ 512 ≤ n ∧ n ≤ 131072 ∧ (pgs6 n = true ∨ n = 131072) ∧ (pgs6 x = true → n ≤ x)) (fun t => (131072 - RowKit.intOf t).toNat)
 case atStart => exact ⟨512, rfl, by omega, by omega, .inl (by decide), fun h => by simp only [pgs6, decide_eq_true_eq] at h; omega⟩
 case round =>
  obtain ⟨n, rfl, h1, h2, h3, h4⟩ := hrel
  have H3 := hidden h3
  have H4 := hidden h4
  clear h3 h4
  by_cases hle : n ≤ 65536
  ·by_cases he : n = x
   ·have hp : pgs6 x = true := by
     rcases H3.out with h | h
     ·rw [← he]; exact h
     ·omega
    subst he
    have HP := hidden hp
    clear hp
    go_wp2
    go_ret
    exact ⟨by rw [HP.out]; rfl, rfl⟩
   ·have hne : (n == x) = false := by simpa using he
    go_wp2
    go_round
    case rel =>
     refine ⟨2 * n, rfl, by omega, by omega, ?_, ?_⟩
     ·have := H3.out
      simp only [pgs6, decide_eq_true_eq] at this ⊢
      omega
     ·intro h
      have h5 := H4.out h
      have h6 := H3.out
      simp only [pgs6, decide_eq_true_eq] at h h6
      omega
    case measure => simp [RowKit.intOf]; omega
  ·have hp : pgs6 x = false := by
    cases hx : pgs6 x
    ·rfl
    ·have h5 := H4.out hx
     have h6 := H3.out
     simp only [pgs6, decide_eq_true_eq] at hx h6
     omega
   have HP := hidden hp
   clear hp
   go_wp2
   go_ret
   exact ⟨by rw [HP.out]; rfl, rfl⟩
theorem rIsPage6_any (x : Int) (w : World) : Calls Tryz.prog 22 #[.int .i64 x] w fun e w' => e = .returned (.bool (decide (pw x))) ∧ w' = w := by
 have e : pgs6 x = decide (pw x) := by
  unfold pgs6 pw
  rfl
 rw [← e]
 exact IsPage6_any x w
theorem rIsKind6_any (k : Int) (w : World) : Calls Tryz.prog 23 #[.int .i64 k] w fun e w' => e = .returned (.bool (decide (isKd k))) ∧ w' = w := by
 by_cases h : k = 2
 ·subst h
  have e : decide (isKd 2) = true := by decide
  rw [e]
  go_enter Tryz.func23, Tryz.ntmps23
  go_wp2_with fail
  go_ret
  exact ⟨rfl, rfl⟩
 ·have hb : (k == 2) = false := by rw [beq_eq_false_iff_ne]; exact h
  have e : decide (isKd k) = (k == 3) := by
   rw [Bool.eq_iff_iff, decide_eq_true_iff, beq_iff_eq]
   unfold isKd
   omega
  rw [e]
  clear e
  go_enter Tryz.func23, Tryz.ntmps23
  go_wp2_with fail
  go_ret
  exact ⟨rfl, rfl⟩
def Apt (u v : Value) : Prop := u.ownBlock = none ∨ u.ownBlock ≠ v.ownBlock
theorem Apt.symm {u v : Value} (h : Apt u v) : Apt v u := by
 unfold Apt at *
 cases hv : v.ownBlock with
 | none => exact .inl rfl
 | some b =>
  right
  rcases h with h | h
  ·rw [h]; simp
  ·intro e; exact h (by rw [hv, e])
theorem Apt.gr {w w' : World} {B : Nat} {u v v' : Value} {l : List Int} (h : Apt u v) (hu : OwnB w B u l) (hg : Gr w v w' v') : Apt u v' := by
 unfold Apt at *
 rcases h with h | h
 ·exact .inl h
 ·cases hub : u.ownBlock with
  | none => exact .inl rfl
  | some b =>
   right
   have hlt : b < w.heap.size := (World.ownsRow.lt hu b hub).2
   rcases hg.own with e | ⟨k, e, hk⟩
   ·rw [e, ← hub]; exact h
   ·rw [e]; intro e2; injection e2 with e2; omega
theorem own_keep {w w' : World} {B : Nat} {u v v' : Value} {l : List Int} (h : OwnB w B u l) (hg : Gr w v w' v') (ha : Apt u v) : OwnB w' B u l := World.ownsRow.kept h hg.grow ha
theorem own_sl6 {w : World} {B : Nat} {ao : Option Addr} {n c : Nat} {l : List Int} (h : OwnB w B (.slice ao n c) l) (hw : Wf l) (hl : l.length ≤ 140737488355328) : Sl w ao n c l := by
 obtain ⟨ao', c', e, hs, _⟩ := h.sl hw hl
 injection e with e1 e2 e3
 subst e1 e3
 rw [← e2] at hs
 exact hs
theorem apt_far {ao : Option Addr} {n c : Nat} {v : Value} (h : Apt (.slice ao n c) v) : Far ao n v := by
 right
 rintro p rfl e
 rcases h with h | h
 ·cases h
 ·exact h (by rw [e]; rfl)
theorem apt_new {w w' : World} {B C : Nat} {u v : Value} {l m : List Int} (h : OwnB w B u l) (k : OwnB w' C v m) (hC : w.heap.size ≤ C) : Apt u v := by
 cases hu : u.ownBlock with
 | none => exact .inl hu
 | some b =>
  right
  intro e
  have h1 := (World.ownsRow.lt h b hu).2
  have h2 := (World.ownsRow.lt k b (by rw [← e]; exact hu)).1
  omega
theorem sts_snoc6 : ∀ (cs : List Cl) (b j : Nat) (c : Cl), cs[j]? = some c → sts b (cs.take (j + 1)) = sts b (cs.take j) ++ [b + (bdy (cs.take j)).length]
 | [], _, j, _, h => by simp at h
 | d :: r, b, 0, c, h => by simp [sts, bdy]
 | d :: r, b, j + 1, c, h => by
  have ih := sts_snoc6 r (b + (cB d).length) j c (by simpa using h)
  simp only [List.take_succ_cons, sts, bdy_cons, List.length_append]
  rw [ih]
  simp [Nat.add_assoc]
theorem bdy_snoc6 (cs : List Cl) (j : Nat) (c : Cl) (h : cs[j]? = some c) : bdy (cs.take (j + 1)) = bdy (cs.take j) ++ cB c := by
 rw [List.take_add_one, h, bdy_append]
 simp [bdy]
theorem bdy_le6 (cs : List Cl) (j : Nat) : (bdy (cs.take j)).length ≤ (bdy cs).length := by
 have e : bdy cs = bdy (cs.take j) ++ bdy (cs.drop j) := by rw [← bdy_append, List.take_append_drop]
 rw [e, List.length_append]
 omega
theorem bdy_wf6 : ∀ cs : List Cl, (∀ c ∈ cs, c.Wf) → Wf (bdy cs)
 | [], _ => by intro x hx; cases hx
 | c :: r, h => by rw [bdy_cons]; exact (cB_wf (h c (by simp))).append (bdy_wf6 r (fun d hd => h d (by simp [hd])))
theorem sloB_snoc6 (l : List Nat) (s : Nat) : sloB (l ++ [s]) = sloB l ++ fB 2 (s : Int) := by simp [sloB]
theorem chk_all6 (k p : Int) : ∀ (pr : Option (List Int)) (cs : List Cl), chk k p pr cs = 0 → ∀ c ∈ cs, mayP k p c
 | _, [], _, c, hc => by cases hc
 | pr, d :: r, h, c, hc => by
  unfold chk at h
  by_cases h1 : mayP k p d
  ·rw [if_pos h1] at h
   by_cases h2 : ahead pr d.key
   ·rw [if_pos h2] at h
    rcases List.mem_cons.1 hc with rfl | hc
    ·exact h1
    ·exact chk_all6 k p _ r h c hc
   ·rw [if_neg h2] at h; cases h
  ·rw [if_neg h1] at h; cases h
theorem may_nums6 {k p : Int} {c : Cl} (h : mayP k p c) (hp : p ≤ 65536) : (¬ c.kd = 1 → (0 ≤ c.pg ∧ c.pg < 9223372036854775808) ∧ (0 ≤ c.ct ∧ c.ct < 9223372036854775808)) ∧ c.key.length + c.val.length ≤ 35184372088832 := by
 unfold mayP leadsP nowhere at h
 have hv : c.val = [] → c.val.length = 0 := fun e => by rw [e]; rfl
 refine ⟨fun hk => ?_, ?_⟩
 ·rcases h.2 with ⟨_, _, _, h3⟩ | ⟨_, _, ⟨h4, _⟩ | ⟨_, _, h5⟩ | ⟨_, _, h6⟩⟩
  ·omega
  ·exact absurd h4 hk
  ·omega
  ·omega
 ·rcases h.2 with ⟨_, _, h2, _⟩ | ⟨_, _, ⟨_, h4, _⟩ | ⟨_, h5, _⟩ | ⟨_, h6, _⟩⟩
  ·have := hv h2; omega
  ·omega
  ·have := hv h5; omega
  ·have := hv h6; omega
def lnOf6 : Value → Nat
 | .slice _ n _ => n
 | _ => 0
theorem one_sl6 (w : World) (x : Int) (hx : 0 ≤ x ∧ x ≤ 255) : Sl (w.alloc (.cells #[.int .u8 x] 5)) (some ⟨w.heap.size, 0, none⟩) 1 1 [x] := by
 refine ⟨rfl, Nat.le_refl _, by omega, Wf.cons hx Wf.nil, (by intro h; cases h), .inr ⟨w.heap.size, 0, rfl, by simp, ?_⟩⟩
 intro i hi
 obtain rfl : i = 0 := by omega
 simp
end Go.Proofs.YtjpmfgoodcldcaaGreatDoor
