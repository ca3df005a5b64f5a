/- espalierref03.Book: the marks; what they are written to and grown by. -/
import Derived.Test.YtllcbilhpijjhaaDoorLw
import Derived.Deep.QuietTactic
import Derived.BigQuiet
namespace Go.Proofs.YtllcbilhpijjhaaDoor
open Go.RowKit

/-- The k-th byte of the i-th list. -/
def mkB (i k : Nat) : Int := (((i + k / 251) % 256 : Nat) : Int)
def mkL (i : Nat) : Nat → List Int
  | 0 => []
  | n + 1 => mkL i n ++ [mkB i n]
set_option maxRecDepth 100000 in
theorem mkB_ok (i k : Nat) : 0 ≤ mkB i k ∧ mkB i k ≤ 255 := by
  unfold mkB
  omega
set_option maxRecDepth 100000 in
theorem mkL_length (i : Nat) : ∀ n, (mkL i n).length = n
  | 0 => rfl
  | n + 1 => by simp [mkL, mkL_length i n]
set_option maxRecDepth 100000 in
theorem mkL_wf (i : Nat) : ∀ n, Wf (mkL i n)
  | 0 => Wf.nil
  | n + 1 => (mkL_wf i n).append (Wf.cons (mkB_ok i n) Wf.nil)
set_option maxRecDepth 100000 in
theorem mkL_get (i : Nat) : ∀ n k, k < n → (mkL i n).getD k 0 = mkB i k
  | 0, k, h => by omega
  | n + 1, k, h => by
    unfold mkL
    by_cases e : k < n
    · rw [show (mkL i n ++ [mkB i n]).getD k 0 = (mkL i n).getD k 0 from by simp [List.getD, List.getElem?_append_left (show k < (mkL i n).length by rw [mkL_length]; exact e)]]
      exact mkL_get i n k e
    · obtain rfl : k = n := by omega
      simp [List.getD, mkL_length]
set_option maxRecDepth 100000 in
theorem mark_run (i k : Nat) (_ : i ≤ 1000000) (_ : k ≤ 140737488355328) : Int.tdiv (k : Int) 251 = ((k / 251 : Nat) : Int) ∧ IntKind.u8.wrap ((i : Int) + ((k / 251 : Nat) : Int)) = mkB i k := by
  constructor
  · rw [Int.tdiv_eq_ediv_of_nonneg (by omega)]
    rfl
  · rw [IntKind.wrap_u8]
    unfold mkB
    omega
set_option maxRecDepth 100000 in
theorem marked_any (ao : Option Addr) (n cap i : Nat) (w : World) (hs : Sl w ao n cap (mkL i n)) (hi : i ≤ 1000000) : Calls Tryd.prog 36 #[.slice ao n cap, .int .i64 (i : Int)] w fun e u => e = .returned (.bool true) ∧ u = w := by
  have HS := hidden hs
  have hr := hs.hroom
  have hrI : (n : Int) ≤ 140737488355328 := by omega
  have hiI : (i : Int) ≤ 1000000 := by omega
  clear hs
  go_enter Tryd.func36, Tryd.ntmps36
  go_wp2_with fail
  go_loop [5] (fun x => ∃ k : Nat, k ≤ n ∧ x = .int .i64 (k : Int)) (fun x => n - (intOf x).toNat)
  case atStart => exact ⟨0, by omega, rfl⟩
  case round =>
    obtain ⟨k, hk, rfl⟩ := hrel
    by_cases hlt : k < n
    · have hltI : (k : Int) < (n : Int) := by omega
      obtain ⟨b, off, rfl, hb, hc⟩ : ∃ b off, ao = some ⟨b, off, none⟩ ∧ b < w.heap.size ∧ ∀ j, j < n → w.cell? ⟨b, off + j, none⟩ = some (.int .u8 ((mkL i n).getD j 0)) := by
        rcases HS.out.hat with h | h
        · omega
        · exact h
      have hck := hc k hlt
      rw [mkL_get i n k hlt] at hck
      obtain ⟨m1, m2⟩ := mark_run i k hi (by omega)
      have m3 := mkB_ok i k
      obtain ⟨q, hq⟩ : ∃ q, k / 251 = q := ⟨_, rfl⟩
      rw [hq] at m1 m2
      have hqk : (q : Int) ≤ (k : Int) := by have := Nat.div_le_self k 251; omega
      have m4 : IntKind.i64.wrap ((i : Int) + (q : Int)) = (i : Int) + (q : Int) := by rw [IntKind.wrap_i64]; omega
      have m5 : IntKind.i64.wrap (q : Int) = (q : Int) := by rw [IntKind.wrap_i64]; omega
      generalize mkB i k = y at *
      clear hc hq
      go_wp2
      go_round
      case rel => exact ⟨k + 1, by omega, by go_num⟩
      case measure => simp [intOf]; omega
    · obtain rfl : k = n := by omega
      have hlI : ¬ (k : Int) < (k : Int) := by omega
      go_wp2
      go_ret
      exact ⟨rfl, rfl⟩
set_option maxRecDepth 100000 in
/-- append(x, y): in its place, or anew. -/
theorem app_one (w : World) (B : Nat) (ty : TypeId) (v : Value) (l : List Int) (y : Int) (b : Nat) (hown : OwnB w B v l) (hc : w.cell? ⟨b, 0, none⟩ = some (.int .u8 y)) (hb : l.length + 1 ≤ 140737488355328) (hB : B ≤ w.heap.size) :
    ∃ v' w', (Builtin.append_ #[22, 22] ty #[v, .slice (some ⟨b, 0, none⟩) 1 1]).run Tryd.prog w = .ok v' w' ∧ OwnB w' B v' (l ++ [y]) ∧
      ((v'.ownBlock = v.ownBlock ∧ w.grownBy w' v.ownBlock) ∨ (Below w.heap.size w w' ∧ ∀ k, v'.ownBlock = some k → w.heap.size ≤ k)) := by
  obtain ⟨i0, hi, hz0, hz1, hz2⟩ := info_parts info5
  have hnews : ∀ j u, (By [y])[j]? = some u → w.cell? ((⟨b, 0, none⟩ : Addr).add j) = some u := fun j u hu => by
    obtain ⟨h1, rfl⟩ := getElem?_By [y] j u hu
    have hj : j = 0 := by simpa using h1
    subst hj
    simpa [Addr.add_lit] using hc
  obtain ⟨v', w', hr, h2, h3, h4⟩ := run_append_own (P := Tryd.prog) w B 22 ty 5 i0 (.int .u8 0) 1 1 Tryd.underlying22 hi hz0 hz1 hz2 rfl (by decide) v l.length (By l) hown ⟨b, 0, none⟩ 1 1 (By [y]) rfl hnews (By_one [y]) (by unfold maxLen; omega) (by omega) hB
  refine ⟨v', w', hr, ?_, ?_⟩
  · unfold OwnB
    rw [By_append, List.length_append]
    exact h2
  · rcases hown.2 with ⟨rfl, h0⟩ | ⟨g, cap, cur, rfl, hbg, hg, hnc, hcm, hcs, htake⟩
    · have hr' := run_append_nil (P := Tryd.prog) w 22 ty 5 i0 (.int .u8 0) Tryd.underlying22 hi hz0 ⟨b, 0, none⟩ 1 1 (By [y]) (by rw [hz1]; rfl) hnews (by omega) (by omega) (by rw [hz2]; omega)
      rw [hr] at hr'
      injection hr' with e1 e2
      refine .inr ⟨by rw [e2]; exact (Below.refl _ _).drew.alloc (Nat.le_refl _) _, fun k hk => ?_⟩
      rw [e1] at hk
      injection hk with hk
      have : w.heap.size = k := hk
      omega
    · by_cases hroom : l.length + 1 ≤ cap
      · have hr' := run_append_room (P := Tryd.prog) w 22 ty 5 i0 Tryd.underlying22 hi g l.length cap cur hg ⟨b, 0, none⟩ 1 1 (By [y]) (by rw [hz1]; rfl) hnews (By_one [y]) hroom (by rw [hz1]; simp only [By_length, List.length_cons, List.length_nil]; omega)
        rw [hr] at hr'
        injection hr' with e1 e2
        exact .inl ⟨by rw [e1]; rfl, h3⟩
      · have holds : ∀ j u, (By l)[j]? = some u → w.cell? ((⟨g, 0, none⟩ : Addr).add j) = some u := World.ownsRow.cells (show w.ownsRow B 5 1 _ _ _ from hown) (g := g) rfl
        have hr' := run_append_grow (P := Tryd.prog) w 22 ty 5 i0 (.int .u8 0) Tryd.underlying22 hi hz0 ⟨g, 0, none⟩ l.length cap (By l) (by rw [hz1]; simp [By]) holds ⟨b, 0, none⟩ 1 1 (By [y]) (by rw [hz1]; rfl) hnews (by omega) (by omega) (by rw [hz2]; exact growslice_fits (by omega) (by omega))
        rw [hr] at hr'
        injection hr' with e1 e2
        refine .inr ⟨by rw [e2]; exact (Below.refl _ _).drew.alloc (Nat.le_refl _) _, fun k hk => ?_⟩
        rw [e1] at hk
        injection hk with hk
        have : w.heap.size = k := hk
        omega
/-- A slice of the marks i that is not touched, or that what is grown begins with. -/
structure Pk (w : World) (x : Value) (i L : Nat) (ao : Option Addr) (n cap j : Nat) : Prop where
  sl : Sl w ao n cap (mkL j n)
  far : Far ao n x ∨ (j = i ∧ n ≤ L ∧ ∃ g, ao = some ⟨g, 0, none⟩ ∧ x.ownBlock = some g)
set_option maxRecDepth 100000 in
theorem OwnB.marks {w : World} {B : Nat} {x : Value} {i L g : Nat} (h : OwnB w B x (mkL i L)) (hg : x.ownBlock = some g) {n cap : Nat} (hn : n ≤ L) (hc : n ≤ cap) (hr : n ≤ 140737488355328) : Sl w (some ⟨g, 0, none⟩) n cap (mkL i n) := by
  have hb := h
  unfold OwnB at hb
  rcases hb.2 with ⟨rfl, _⟩ | ⟨g', c, cur, rfl, _, hh, _⟩
  · cases hg
  · injection hg with hg
    have hg' : g' = g := hg
    subst hg'
    refine ⟨mkL_length i n, hc, hr, mkL_wf i n, (by intro h; cases h), .inr ⟨g', 0, rfl, lt_some hh, fun k hk => ?_⟩⟩
    rw [Nat.zero_add, own_cell h rfl (by rw [mkL_length]; omega), mkL_get i L k (by omega), mkL_get i n k hk]
set_option maxRecDepth 100000 in
theorem Pk.app {w w' : World} {B : Nat} {x x' : Value} {i L : Nat} {ao : Option Addr} {n cap j : Nat} (h : Pk w x i L ao n cap j) (ho : OwnB w' B x' (mkL i (L + 1)))
    (hc : (x'.ownBlock = x.ownBlock ∧ w.grownBy w' x.ownBlock) ∨ (Below w.heap.size w w' ∧ ∀ k, x'.ownBlock = some k → w.heap.size ≤ k)) : Pk w' x' i (L + 1) ao n cap j := by
  rcases hc with ⟨e, hg⟩ | ⟨hb, hn⟩
  · rcases h.far with hf | ⟨rfl, hl, g, rfl, hx⟩
    · refine ⟨h.sl.gr (v' := x') ⟨hg, .inl e⟩ hf, .inl ?_⟩
      rcases hf with hf | hf
      · exact .inl hf
      · right
        rw [e]
        exact hf
    · exact ⟨ho.marks (by rw [e]; exact hx) (by omega) h.sl.hcap h.sl.hroom, .inr ⟨rfl, by omega, g, rfl, by rw [e]; exact hx⟩⟩
  · refine ⟨h.sl.on (Nat.le_refl _) hb, .inl ?_⟩
    rcases h.sl.hat with h0 | ⟨b, off, rfl, hlt, _⟩
    · exact .inl h0
    · right
      intro p hp e
      cases hp
      have := hn _ e
      simp only at this
      omega
set_option maxRecDepth 100000 in
theorem Pk.on {w w' : World} {x : Value} {i L : Nat} {ao : Option Addr} {n cap j : Nat} (h : Pk w x i L ao n cap j) (hb : Below w.heap.size w w') : Pk w' x i L ao n cap j := ⟨h.sl.on (Nat.le_refl _) hb, h.far⟩
end Go.Proofs.YtllcbilhpijjhaaDoor
