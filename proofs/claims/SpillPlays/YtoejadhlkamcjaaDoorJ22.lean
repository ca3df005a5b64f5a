import Derived.Test.YtoejadhlkamcjaaDoorJ21
import Derived.Deep.QuietTactic
import Derived.Handy
import Derived.BigQuiet
namespace Go.Proofs.YtoejadhlkamcjaaDoor
set_option maxRecDepth 100000
open Go.RowKit Go.Maps
def pgs (x : Int) : Bool := decide (x = 512 ∨ x = 1024 ∨ x = 2048 ∨ x = 4096 ∨ x = 8192 ∨ x = 16384 ∨ x = 32768 ∨ x = 65536)
theorem IsPage_any (x : Int) (w : World) : Calls Tryd.prog 65 #[.int .i64 x] w fun e w' => e = .returned (.bool (pgs x)) ∧ w' = w := by
 go_enter Tryd.func65, Tryd.ntmps65
 go_wp2
 go_loop [3] (fun t => ∃ n : Int, t = .int .i64 n ∧ 512 ≤ n ∧ n ≤ 131072 ∧ (pgs n = true ∨ n = 131072) ∧ (pgs x = true → n ≤ x)) (fun t => (131072 - intOf t).toNat)
 case atStart => exact ⟨512, rfl, by omega, by omega, .inl (by decide), fun h => by simp only [pgs, decide_eq_true_eq] at h; omega⟩
 case round =>
  obtain ⟨n, rfl, h1, h2, h3, h4⟩ := hrel
  have H3 := hidden h3
  have H4 := hidden h4
  clear h3 h4
  by_cases hle : n ≤ 65536
  ·by_cases he : n = x
   ·have hp : pgs x = true := by
     rcases H3.out with h | h
     ·rw [← he]; exact h
     ·omega
    subst he
    have HP := hidden hp
    clear hp
    go_wp2
    go_ret
    exact ⟨by rw [HP.out]; rfl, rfl⟩
   ·have hne : (n == x) = false := by simpa using he
    go_wp2
    go_round
    case rel =>
     refine ⟨2 * n, rfl, by omega, by omega, ?_, ?_⟩
     ·have := H3.out
      simp only [pgs, decide_eq_true_eq] at this ⊢
      omega
     ·intro h
      have h5 := H4.out h
      have h6 := H3.out
      simp only [pgs, decide_eq_true_eq] at h h6
      omega
    case measure => simp [intOf]; omega
  ·have hp : pgs x = false := by
    cases hx : pgs x
    ·rfl
    ·have h5 := H4.out hx
     have h6 := H3.out
     simp only [pgs, decide_eq_true_eq] at hx h6
     omega
   have HP := hidden hp
   clear hp
   go_wp2
   go_ret
   exact ⟨by rw [HP.out]; rfl, rfl⟩
theorem refIsPage_any (x : Int) (w : World) : Calls Tryd.prog 65 #[.int .i64 x] w fun e w' => e = .returned (.bool (decide (pw x))) ∧ w' = w := by
 have e : pgs x = decide (pw x) := by
  unfold pgs pw
  rfl
 rw [← e]
 exact IsPage_any x w
theorem refPages_any (p n : Int) (hn : n ≤ 1000000) (w : World) : Calls Tryd.prog 48 #[.int .i64 p, .int .i64 n] w fun e u => e = .returned (.int .i64 (pgN p n)) ∧ u = w := by
 have HI := hidden (refIsPage_any p w)
 by_cases hp : pw p
 ·have e1 : decide (pw p) = true := by simpa using hp
  have hpl := pw_le hp
  by_cases h1 : n < 1
  ·have he : pgN p n = 0 := by unfold pgN; rw [if_pos (.inr h1)]
   rw [he]
   have h2 : decide (0 < n) = false := by simp; omega
   have h3 : ¬ 0 < n := by omega
   clear hp
   go_enter Tryd.func48, Tryd.ntmps48
   go_wp2_with (first | (go_at_call 65; refine same_call HI.out ?_; rw [e1]))
   go_loop [1, 6] (fun x k => x = .int .i64 n ∧ k = .int .i64 0) (fun _ _ => 0)
   case atStart => exact ⟨rfl, rfl⟩
   case round =>
    obtain ⟨rfl, rfl⟩ := hrel
    go_wp2
    go_ret
    exact ⟨rfl, rfl⟩
  ·have he := pgN_pos hp (show 1 ≤ n by omega)
   obtain ⟨q, hq⟩ : ∃ q : Nat, n - 1 = (q : Int) := ⟨(n - 1).toNat, by omega⟩
   obtain ⟨h, hh⟩ : ∃ h : Nat, p - 16 = (h : Int) := ⟨(p - 16).toNat, by omega⟩
   have hC : pgN p n = ((q / h + 1 : Nat) : Int) := by
    rw [he, hq, hh]
    rfl
   obtain ⟨C, hCC⟩ : ∃ C, q / h + 1 = C := ⟨_, rfl⟩
   have hc1 : h * (C - 1) ≤ q := by
    rw [← hCC, Nat.add_sub_cancel]
    exact Nat.mul_div_le q h
   have hc2 : q < h * C := by
    rw [← hCC]
    exact Nat.lt_mul_div_succ q (by omega)
   have hc3 : C ≤ q + 1 := by
    have := Nat.div_le_self q h
    omega
   have hc4 : 1 ≤ C := by rw [← hCC]; exact Nat.succ_le_succ (Nat.zero_le _)
   rw [hC, hCC]
   have hpe : p = (h : Int) + 16 := by omega
   have hne : n = (q : Int) + 1 := by omega
   have hhb : (h : Int) ≤ 65520 := by omega
   have hqb : (q : Int) < 1000000 := by omega
   have hh0 : 496 ≤ h := by omega
   have hne' := hidden hne
   clear hp he hC hCC hq hpe hne
   go_enter Tryd.func48, Tryd.ntmps48
   go_wp2_with (first | (go_at_call 65; refine same_call HI.out ?_; rw [e1]))
   go_loop [1, 6] (fun x k => ∃ (j : Nat) (z : Int), j ≤ C ∧ Hid (z = n - ((h * j : Nat) : Int)) ∧ x = .int .i64 z ∧ k = .int .i64 (j : Int)) (fun _ k => C - (intOf k).toNat)
   case atStart => exact ⟨0, n, by omega, hidden (by simp), rfl, rfl⟩
   case round =>
    obtain ⟨j, z, hj, HZ, rfl, rfl⟩ := hrel
    have HMS : Hid (h * (j + 1) = h * j + h) := hidden (Nat.mul_succ _ _)
    have hjI : (j : Int) ≤ 1000001 := by omega
    have hn9 := hne'.out
    by_cases hlt : j < C
    ·have hm : h * j ≤ h * (C - 1) := Nat.mul_le_mul_left _ (by omega)
     have hz := HZ.out
     have hposI : 0 < z := by omega
     have hzI : z ≤ 1000000 := by omega
     clear hm hz hn9
     go_wp2
     go_round
     case rel => exact ⟨j + 1, z - (h : Int), by omega, hidden (by have a1 := HZ.out; have a2 := HMS.out; omega), by congr 1, by go_num⟩
     case measure => simp [intOf]; omega
    ·obtain rfl : j = C := by omega
     have hz := HZ.out
     have hnegI : ¬ 0 < z := by omega
     clear hz hn9
     go_wp2
     go_ret
     exact ⟨rfl, rfl⟩
 ·have e1 : decide (pw p) = false := by simpa using hp
  have he : pgN p n = 0 := by unfold pgN; rw [if_pos (.inl hp)]
  rw [he]
  clear hp
  go_enter Tryd.func48, Tryd.ntmps48
  go_wp2_with (first | (go_at_call 65; refine same_call HI.out ?_; rw [e1]))
  go_loop [1, 6] (fun x k => x = .int .i64 n ∧ k = .int .i64 0) (fun _ _ => 0)
  case atStart => exact ⟨rfl, rfl⟩
  case round =>
   obtain ⟨rfl, rfl⟩ := hrel
   go_wp2
   go_ret
   exact ⟨rfl, rfl⟩
end Go.Proofs.YtoejadhlkamcjaaDoor

namespace Go.Proofs.YtoejadhlkamcjaaDoor
set_option maxRecDepth 100000
open Go.RowKit Go.Maps
theorem OwnJ.slj {w : World} {B : Nat} {ao : Option Addr} {n c : Nat} {l : List Int} (h : OwnJ w B (.slice ao n c) l) : SlJ w ao n c l := by
 obtain ⟨ao', c', e, hs⟩ := h.sl
 injection e with e1 e2 e3
 subst e1 e3
 rw [← e2] at hs
 exact hs
end Go.Proofs.YtoejadhlkamcjaaDoor

namespace Go.Proofs.YtoejadhlkamcjaaDoor
set_option maxRecDepth 100000
open Go.RowKit
def mkB (i k : Nat) : Int := (((i + k / 251) % 256 : Nat) : Int)
def mkL (i : Nat) : Nat → List Int
 | 0 => []
 | n + 1 => mkL i n ++ [mkB i n]
theorem mkB_ok (i k : Nat) : 0 ≤ mkB i k ∧ mkB i k ≤ 255 := by
 unfold mkB
 omega
theorem mkL_length (i : Nat) : ∀ n, (mkL i n).length = n
 | 0 => rfl
 | n + 1 => by simp [mkL, mkL_length i n]
theorem mkL_wf (i : Nat) : ∀ n, Wf (mkL i n)
 | 0 => Wf.nil
 | n + 1 => (mkL_wf i n).append (Wf.cons (mkB_ok i n) Wf.nil)
theorem mkL_get (i : Nat) : ∀ n k, k < n → (mkL i n).getD k 0 = mkB i k
 | 0, k, h => by omega
 | n + 1, k, h => by
  unfold mkL
  by_cases e : k < n
  ·rw [show (mkL i n ++ [mkB i n]).getD k 0 = (mkL i n).getD k 0 from by simp [List.getD, List.getElem?_append_left (show k < (mkL i n).length by rw [mkL_length]; exact e)]]
   exact mkL_get i n k e
  ·obtain rfl : k = n := by omega
   simp [List.getD, mkL_length]
theorem mark_run (i k : Nat) (_ : i ≤ 1300000000000) (_ : k ≤ 140737488355328) : Int.tdiv (k : Int) 251 = ((k / 251 : Nat) : Int) ∧ IntKind.u8.wrap ((i : Int) + ((k / 251 : Nat) : Int)) = mkB i k := by
 constructor
 ·rw [Int.tdiv_eq_ediv_of_nonneg (by omega)]
  rfl
 ·rw [IntKind.wrap_u8]
  unfold mkB
  omega
theorem marked_any (ao : Option Addr) (n cap i : Nat) (w : World) (hs : Sl w ao n cap (mkL i n)) (hi : i ≤ 1300000000000) : Calls Tryd.prog 54 #[.slice ao n cap, .int .i64 (i : Int)] w fun e u => e = .returned (.bool true) ∧ u = w := by
 have HS := hidden hs
 have hr := hs.hroom
 have hrI : (n : Int) ≤ 140737488355328 := by omega
 have hiI : (i : Int) ≤ 1300000000000 := by omega
 clear hs
 go_enter Tryd.func54, Tryd.ntmps54
 go_wp2_with fail
 go_loop [5] (fun x => ∃ k : Nat, k ≤ n ∧ x = .int .i64 (k : Int)) (fun x => n - (RowKit.intOf x).toNat)
 case atStart => exact ⟨0, by omega, rfl⟩
 case round =>
  obtain ⟨k, hk, rfl⟩ := hrel
  by_cases hlt : k < n
  ·have hltI : (k : Int) < (n : Int) := by omega
   obtain ⟨b, off, rfl, hb, hc⟩ : ∃ b off, ao = some ⟨b, off, none⟩ ∧ b < w.heap.size ∧ ∀ j, j < n → w.cell? ⟨b, off + j, none⟩ = some (.int .u8 ((mkL i n).getD j 0)) := by
    rcases HS.out.hat with h | h
    ·omega
    ·exact h
   have hck := hc k hlt
   rw [mkL_get i n k hlt] at hck
   obtain ⟨m1, m2⟩ := mark_run i k hi (by omega)
   have m3 := mkB_ok i k
   obtain ⟨q, hq⟩ : ∃ q, k / 251 = q := ⟨_, rfl⟩
   rw [hq] at m1 m2
   have hqk : (q : Int) ≤ (k : Int) := by have := Nat.div_le_self k 251; omega
   have m4 : IntKind.i64.wrap ((i : Int) + (q : Int)) = (i : Int) + (q : Int) := by rw [IntKind.wrap_i64]; omega
   have m5 : IntKind.i64.wrap (q : Int) = (q : Int) := by rw [IntKind.wrap_i64]; omega
   generalize mkB i k = y at *
   clear hc hq
   go_wp2
   go_round
   case rel => exact ⟨k + 1, by omega, by go_num⟩
   case measure => simp [RowKit.intOf]; omega
  ·obtain rfl : k = n := by omega
   have hlI : ¬ (k : Int) < (k : Int) := by omega
   go_wp2
   go_ret
   exact ⟨rfl, rfl⟩
theorem app_one (w : World) (B : Nat) (ty : TypeId) (v : Value) (l : List Int) (y : Int) (b : Nat) (hown : OwnB w B v l) (hc : w.cell? ⟨b, 0, none⟩ = some (.int .u8 y)) (hb : l.length + 1 ≤ 140737488355328) (hB : B ≤ w.heap.size) :
  ∃ v' w', (Builtin.append_ #[33, 33] ty #[v, .slice (some ⟨b, 0, none⟩) 1 1]).run Tryd.prog w = .ok v' w' ∧ OwnB w' B v' (l ++ [y]) ∧
   ((v'.ownBlock = v.ownBlock ∧ w.grownBy w' v.ownBlock) ∨ (Below w.heap.size w w' ∧ ∀ k, v'.ownBlock = some k → w.heap.size ≤ k)) := by
 obtain ⟨i0, hi, hz0, hz1, hz2⟩ := info_parts info5
 have hnews : ∀ j u, (By [y])[j]? = some u → w.cell? ((⟨b, 0, none⟩ : Addr).add j) = some u := fun j u hu => by
  obtain ⟨h1, rfl⟩ := getElem?_By [y] j u hu
  have hj : j = 0 := by simpa using h1
  subst hj
  simpa [Addr.add_lit] using hc
 obtain ⟨v', w', hr, h2, h3, h4⟩ := run_append_own (P := Tryd.prog) w B 33 ty 5 i0 (.int .u8 0) 1 1 Tryd.underlying33 hi hz0 hz1 hz2 rfl (by decide) v l.length (By l) hown ⟨b, 0, none⟩ 1 1 (By [y]) rfl hnews (By_one [y]) (by unfold maxLen; omega) (by omega) hB
 refine ⟨v', w', hr, ?_, ?_⟩
 ·unfold OwnB
  rw [By_append, List.length_append]
  exact h2
 ·rcases hown.2 with ⟨rfl, h0⟩ | ⟨g, cap, cur, rfl, hbg, hg, hnc, hcm, hcs, htake⟩
  ·have hr' := run_append_nil (P := Tryd.prog) w 33 ty 5 i0 (.int .u8 0) Tryd.underlying33 hi hz0 ⟨b, 0, none⟩ 1 1 (By [y]) (by rw [hz1]; rfl) hnews (by omega) (by omega) (by rw [hz2]; omega)
   rw [hr] at hr'
   injection hr' with e1 e2
   refine .inr ⟨by rw [e2]; exact (Below.refl _ _).drew.alloc (Nat.le_refl _) _, fun k hk => ?_⟩
   rw [e1] at hk
   injection hk with hk
   have : w.heap.size = k := hk
   omega
  ·by_cases hroom : l.length + 1 ≤ cap
   ·have hr' := run_append_room (P := Tryd.prog) w 33 ty 5 i0 Tryd.underlying33 hi g l.length cap cur hg ⟨b, 0, none⟩ 1 1 (By [y]) (by rw [hz1]; rfl) hnews (By_one [y]) hroom (by rw [hz1]; simp only [By_length, List.length_cons, List.length_nil]; omega)
    rw [hr] at hr'
    injection hr' with e1 e2
    exact .inl ⟨by rw [e1]; rfl, h3⟩
   ·have holds : ∀ j u, (By l)[j]? = some u → w.cell? ((⟨g, 0, none⟩ : Addr).add j) = some u := World.ownsRow.cells (show w.ownsRow B 5 1 _ _ _ from hown) (g := g) rfl
    have hr' := run_append_grow (P := Tryd.prog) w 33 ty 5 i0 (.int .u8 0) Tryd.underlying33 hi hz0 ⟨g, 0, none⟩ l.length cap (By l) (by rw [hz1]; simp [By]) holds ⟨b, 0, none⟩ 1 1 (By [y]) (by rw [hz1]; rfl) hnews (by omega) (by omega) (by rw [hz2]; exact growslice_fits (by omega) (by omega))
    rw [hr] at hr'
    injection hr' with e1 e2
    refine .inr ⟨by rw [e2]; exact (Below.refl _ _).drew.alloc (Nat.le_refl _) _, fun k hk => ?_⟩
    rw [e1] at hk
    injection hk with hk
    have : w.heap.size = k := hk
    omega
structure Pk9 (w : World) (x : Value) (i L : Nat) (ao : Option Addr) (n cap j : Nat) : Prop where
 sl : Sl w ao n cap (mkL j n)
 far : Far ao n x ∨ (j = i ∧ n ≤ L ∧ ∃ g, ao = some ⟨g, 0, none⟩ ∧ x.ownBlock = some g)
theorem OwnB.marks {w : World} {B : Nat} {x : Value} {i L g : Nat} (h : OwnB w B x (mkL i L)) (hg : x.ownBlock = some g) {n cap : Nat} (hn : n ≤ L) (hc : n ≤ cap) (hr : n ≤ 140737488355328) : Sl w (some ⟨g, 0, none⟩) n cap (mkL i n) := by
 have hb := h
 unfold OwnB at hb
 rcases hb.2 with ⟨rfl, _⟩ | ⟨g', c, cur, rfl, _, hh, _⟩
 ·cases hg
 ·injection hg with hg
  have hg' : g' = g := hg
  subst hg'
  refine ⟨mkL_length i n, hc, hr, mkL_wf i n, (by intro h; cases h), .inr ⟨g', 0, rfl, lt_some hh, fun k hk => ?_⟩⟩
  rw [Nat.zero_add, own_cell h rfl (by rw [mkL_length]; omega), mkL_get i L k (by omega), mkL_get i n k hk]
theorem Pk9.app {w w' : World} {B : Nat} {x x' : Value} {i L : Nat} {ao : Option Addr} {n cap j : Nat} (h : Pk9 w x i L ao n cap j) (ho : OwnB w' B x' (mkL i (L + 1)))
  (hc : (x'.ownBlock = x.ownBlock ∧ w.grownBy w' x.ownBlock) ∨ (Below w.heap.size w w' ∧ ∀ k, x'.ownBlock = some k → w.heap.size ≤ k)) : Pk9 w' x' i (L + 1) ao n cap j := by
 rcases hc with ⟨e, hg⟩ | ⟨hb, hn⟩
 ·rcases h.far with hf | ⟨rfl, hl, g, rfl, hx⟩
  ·refine ⟨h.sl.gr (v' := x') ⟨hg, .inl e⟩ hf, .inl ?_⟩
   rcases hf with hf | hf
   ·exact .inl hf
   ·right
    rw [e]
    exact hf
  ·exact ⟨ho.marks (by rw [e]; exact hx) (by omega) h.sl.hcap h.sl.hroom, .inr ⟨rfl, by omega, g, rfl, by rw [e]; exact hx⟩⟩
 ·refine ⟨h.sl.on (Nat.le_refl _) hb, .inl ?_⟩
  rcases h.sl.hat with h0 | ⟨b, off, rfl, hlt, _⟩
  ·exact .inl h0
  ·right
   intro p hp e
   cases hp
   have := hn _ e
   simp only at this
   omega
theorem Pk9.on {w w' : World} {x : Value} {i L : Nat} {ao : Option Addr} {n cap j : Nat} (h : Pk9 w x i L ao n cap j) (hb : Below w.heap.size w w') : Pk9 w' x i L ao n cap j := ⟨h.sl.on (Nat.le_refl _) hb, h.far⟩
end Go.Proofs.YtoejadhlkamcjaaDoor
