/- What the texts on espalierref03.Book ask besides layer 6's texts. -/
import Derived.Test.YtphjnahmbdinmaaGreatDoorZd
import Derived.Deep.QuietTactic
import Derived.Handy
import Derived.BigQuiet
namespace Go.Proofs.YtphjnahmbdinmaaGreatDoor
open Go.RowKit

set_option maxRecDepth 100000 in
theorem Gr.cf {w w' : World} {v v' : Value} (h : Gr w v w' v') : Cf (fun k => v.ownBlock = some k) w w' := ⟨h.grow.os, h.grow.tape, h.grow.output, h.grow.size, fun k hk hf => h.grow.block k hk (fun e => hf e.symm)⟩
set_option maxRecDepth 100000 in
theorem Cf.wide {F G : Nat → Prop} {a b : World} (h : Cf F a b) (hg : ∀ k, F k → G k) : Cf G a b := ⟨h.os, h.tape, h.output, h.size, fun k hk hf => h.block k hk (fun e => hf (hg k e))⟩
set_option maxRecDepth 100000 in
theorem Cf.thenB {F : Nat → Prop} {a b c : World} (h : Cf F a b) (k : Below a.heap.size b c) : Cf F a c :=
  ⟨k.os.trans h.os, k.tape.trans h.tape, k.output.trans h.output, Nat.le_trans h.size k.size, fun i hi hf => (k.block i hi).trans (h.block i hi hf)⟩
set_option maxRecDepth 100000 in
theorem OwnB.cfX {w w' : World} {B : Nat} {v : Value} {l : List Int} {F : Nat → Prop} (h : OwnB w B v l) (hc : Cf F w w') (hf : ∀ k, v.ownBlock = some k → ¬ F k) : OwnB w' B v l := by
  unfold OwnB at *
  rcases h.2 with h2 | ⟨g, cap, cur, e, hg, hh, rest⟩
  · exact ⟨h.1, .inl h2⟩
  · refine ⟨h.1, .inr ⟨g, cap, cur, e, hg, ?_, rest⟩⟩
    rw [hc.block g (lt_some hh) (hf g (by rw [e]; rfl))]
    exact hh
set_option maxRecDepth 100000 in
theorem OwnB.sl2 {w : World} {B : Nat} {ao : Option Addr} {n c : Nat} {l : List Int} (h : OwnB w B (.slice ao n c) l) (hw : Wf l) (hl : l.length ≤ 140737488355328) : Sl w ao n c l := by
  obtain ⟨ao', c', e, hs, _⟩ := h.sl hw hl
  injection e with e1 e2 e3
  subst e1 e3
  rw [← e2] at hs
  exact hs
set_option maxRecDepth 100000 in
theorem OwnB.blk {w : World} {B : Nat} {v : Value} {l : List Int} (h : OwnB w B v l) {k : Nat} (hk : v.ownBlock = some k) : B ≤ k ∧ k < w.heap.size := by
  unfold OwnB at h
  exact h.lt k hk
end Go.Proofs.YtphjnahmbdinmaaGreatDoor

/- espalierref03.Book: the marks; what they are written to and grown by. -/

namespace Go.Proofs.YtphjnahmbdinmaaGreatDoor
open Go.RowKit

/-- The k-th byte of the i-th list. -/
def mkB (i k : Nat) : Int := (((i + k / 251) % 256 : Nat) : Int)
def mkL (i : Nat) : Nat → List Int
  | 0 => []
  | n + 1 => mkL i n ++ [mkB i n]
set_option maxRecDepth 100000 in
theorem mkB_ok (i k : Nat) : 0 ≤ mkB i k ∧ mkB i k ≤ 255 := by
  unfold mkB
  omega
set_option maxRecDepth 100000 in
theorem mkL_length (i : Nat) : ∀ n, (mkL i n).length = n
  | 0 => rfl
  | n + 1 => by simp [mkL, mkL_length i n]
set_option maxRecDepth 100000 in
theorem mkL_wf (i : Nat) : ∀ n, Wf (mkL i n)
  | 0 => Wf.nil
  | n + 1 => (mkL_wf i n).append (Wf.cons (mkB_ok i n) Wf.nil)
set_option maxRecDepth 100000 in
theorem mkL_get (i : Nat) : ∀ n k, k < n → (mkL i n).getD k 0 = mkB i k
  | 0, k, h => by omega
  | n + 1, k, h => by
    unfold mkL
    by_cases e : k < n
    · rw [show (mkL i n ++ [mkB i n]).getD k 0 = (mkL i n).getD k 0 from by simp [List.getD, List.getElem?_append_left (show k < (mkL i n).length by rw [mkL_length]; exact e)]]
      exact mkL_get i n k e
    · obtain rfl : k = n := by omega
      simp [List.getD, mkL_length]
set_option maxRecDepth 100000 in
theorem mark_run (i k : Nat) (_ : i ≤ 4000000) (_ : k ≤ 140737488355328) : Int.tdiv (k : Int) 251 = ((k / 251 : Nat) : Int) ∧ IntKind.u8.wrap ((i : Int) + ((k / 251 : Nat) : Int)) = mkB i k := by
  constructor
  · rw [Int.tdiv_eq_ediv_of_nonneg (by omega)]
    rfl
  · rw [IntKind.wrap_u8]
    unfold mkB
    omega
set_option maxRecDepth 100000 in
theorem marked_any (ao : Option Addr) (n cap i : Nat) (w : World) (hs : Sl w ao n cap (mkL i n)) (hi : i ≤ 4000000) : Calls Tryz.prog 87 #[.slice ao n cap, .int .i64 (i : Int)] w fun e u => e = .returned (.bool true) ∧ u = w := by
  have HS := hidden hs
  have hr := hs.hroom
  have hrI : (n : Int) ≤ 140737488355328 := by omega
  have hiI : (i : Int) ≤ 4000000 := by omega
  clear hs
  go_enter Tryz.func87, Tryz.ntmps87
  go_wp2_with fail
  go_loop [5] (fun x => ∃ k : Nat, k ≤ n ∧ x = .int .i64 (k : Int)) (fun x => n - (RowKit.intOf x).toNat)
  case atStart => exact ⟨0, by omega, rfl⟩
  case round =>
    obtain ⟨k, hk, rfl⟩ := hrel
    by_cases hlt : k < n
    · have hltI : (k : Int) < (n : Int) := by omega
      obtain ⟨b, off, rfl, hb, hc⟩ : ∃ b off, ao = some ⟨b, off, none⟩ ∧ b < w.heap.size ∧ ∀ j, j < n → w.cell? ⟨b, off + j, none⟩ = some (.int .u8 ((mkL i n).getD j 0)) := by
        rcases HS.out.hat with h | h
        · omega
        · exact h
      have hck := hc k hlt
      rw [mkL_get i n k hlt] at hck
      obtain ⟨m1, m2⟩ := mark_run i k hi (by omega)
      have m3 := mkB_ok i k
      obtain ⟨q, hq⟩ : ∃ q, k / 251 = q := ⟨_, rfl⟩
      rw [hq] at m1 m2
      have hqk : (q : Int) ≤ (k : Int) := by have := Nat.div_le_self k 251; omega
      have m4 : IntKind.i64.wrap ((i : Int) + (q : Int)) = (i : Int) + (q : Int) := by rw [IntKind.wrap_i64]; omega
      have m5 : IntKind.i64.wrap (q : Int) = (q : Int) := by rw [IntKind.wrap_i64]; omega
      generalize mkB i k = y at *
      clear hc hq
      go_wp2
      go_round
      case rel => exact ⟨k + 1, by omega, by go_num⟩
      case measure => simp [RowKit.intOf]; omega
    · obtain rfl : k = n := by omega
      have hlI : ¬ (k : Int) < (k : Int) := by omega
      go_wp2
      go_ret
      exact ⟨rfl, rfl⟩
set_option maxRecDepth 100000 in
/-- append(x, y): in its place, or anew. -/
theorem app_one (w : World) (B : Nat) (ty : TypeId) (v : Value) (l : List Int) (y : Int) (b : Nat) (hown : OwnB w B v l) (hc : w.cell? ⟨b, 0, none⟩ = some (.int .u8 y)) (hb : l.length + 1 ≤ 140737488355328) (hB : B ≤ w.heap.size) :
    ∃ v' w', (Builtin.append_ #[38, 38] ty #[v, .slice (some ⟨b, 0, none⟩) 1 1]).run Tryz.prog w = .ok v' w' ∧ OwnB w' B v' (l ++ [y]) ∧
      ((v'.ownBlock = v.ownBlock ∧ w.grownBy w' v.ownBlock) ∨ (Below w.heap.size w w' ∧ ∀ k, v'.ownBlock = some k → w.heap.size ≤ k)) := by
  obtain ⟨i0, hi, hz0, hz1, hz2⟩ := info_parts info5
  have hnews : ∀ j u, (By [y])[j]? = some u → w.cell? ((⟨b, 0, none⟩ : Addr).add j) = some u := fun j u hu => by
    obtain ⟨h1, rfl⟩ := getElem?_By [y] j u hu
    have hj : j = 0 := by simpa using h1
    subst hj
    simpa [Addr.add_lit] using hc
  obtain ⟨v', w', hr, h2, h3, h4⟩ := run_append_own (P := Tryz.prog) w B 38 ty 5 i0 (.int .u8 0) 1 1 Tryz.underlying38 hi hz0 hz1 hz2 rfl (by decide) v l.length (By l) hown ⟨b, 0, none⟩ 1 1 (By [y]) rfl hnews (By_one [y]) (by unfold maxLen; omega) (by omega) hB
  refine ⟨v', w', hr, ?_, ?_⟩
  · unfold OwnB
    rw [By_append, List.length_append]
    exact h2
  · rcases hown.2 with ⟨rfl, h0⟩ | ⟨g, cap, cur, rfl, hbg, hg, hnc, hcm, hcs, htake⟩
    · have hr' := run_append_nil (P := Tryz.prog) w 38 ty 5 i0 (.int .u8 0) Tryz.underlying38 hi hz0 ⟨b, 0, none⟩ 1 1 (By [y]) (by rw [hz1]; rfl) hnews (by omega) (by omega) (by rw [hz2]; omega)
      rw [hr] at hr'
      injection hr' with e1 e2
      refine .inr ⟨by rw [e2]; exact (Below.refl _ _).drew.alloc (Nat.le_refl _) _, fun k hk => ?_⟩
      rw [e1] at hk
      injection hk with hk
      have : w.heap.size = k := hk
      omega
    · by_cases hroom : l.length + 1 ≤ cap
      · have hr' := run_append_room (P := Tryz.prog) w 38 ty 5 i0 Tryz.underlying38 hi g l.length cap cur hg ⟨b, 0, none⟩ 1 1 (By [y]) (by rw [hz1]; rfl) hnews (By_one [y]) hroom (by rw [hz1]; simp only [By_length, List.length_cons, List.length_nil]; omega)
        rw [hr] at hr'
        injection hr' with e1 e2
        exact .inl ⟨by rw [e1]; rfl, h3⟩
      · have holds : ∀ j u, (By l)[j]? = some u → w.cell? ((⟨g, 0, none⟩ : Addr).add j) = some u := World.ownsRow.cells (show w.ownsRow B 5 1 _ _ _ from hown) (g := g) rfl
        have hr' := run_append_grow (P := Tryz.prog) w 38 ty 5 i0 (.int .u8 0) Tryz.underlying38 hi hz0 ⟨g, 0, none⟩ l.length cap (By l) (by rw [hz1]; simp [By]) holds ⟨b, 0, none⟩ 1 1 (By [y]) (by rw [hz1]; rfl) hnews (by omega) (by omega) (by rw [hz2]; exact growslice_fits (by omega) (by omega))
        rw [hr] at hr'
        injection hr' with e1 e2
        refine .inr ⟨by rw [e2]; exact (Below.refl _ _).drew.alloc (Nat.le_refl _) _, fun k hk => ?_⟩
        rw [e1] at hk
        injection hk with hk
        have : w.heap.size = k := hk
        omega
/-- A slice of the marks i that is not touched, or that what is grown begins with. -/
structure Pk (w : World) (x : Value) (i L : Nat) (ao : Option Addr) (n cap j : Nat) : Prop where
  sl : Sl w ao n cap (mkL j n)
  far : Far ao n x ∨ (j = i ∧ n ≤ L ∧ ∃ g, ao = some ⟨g, 0, none⟩ ∧ x.ownBlock = some g)
set_option maxRecDepth 100000 in
theorem OwnB.marks {w : World} {B : Nat} {x : Value} {i L g : Nat} (h : OwnB w B x (mkL i L)) (hg : x.ownBlock = some g) {n cap : Nat} (hn : n ≤ L) (hc : n ≤ cap) (hr : n ≤ 140737488355328) : Sl w (some ⟨g, 0, none⟩) n cap (mkL i n) := by
  have hb := h
  unfold OwnB at hb
  rcases hb.2 with ⟨rfl, _⟩ | ⟨g', c, cur, rfl, _, hh, _⟩
  · cases hg
  · injection hg with hg
    have hg' : g' = g := hg
    subst hg'
    refine ⟨mkL_length i n, hc, hr, mkL_wf i n, (by intro h; cases h), .inr ⟨g', 0, rfl, lt_some hh, fun k hk => ?_⟩⟩
    rw [Nat.zero_add, own_cell h rfl (by rw [mkL_length]; omega), mkL_get i L k (by omega), mkL_get i n k hk]
set_option maxRecDepth 100000 in
theorem Pk.app {w w' : World} {B : Nat} {x x' : Value} {i L : Nat} {ao : Option Addr} {n cap j : Nat} (h : Pk w x i L ao n cap j) (ho : OwnB w' B x' (mkL i (L + 1)))
    (hc : (x'.ownBlock = x.ownBlock ∧ w.grownBy w' x.ownBlock) ∨ (Below w.heap.size w w' ∧ ∀ k, x'.ownBlock = some k → w.heap.size ≤ k)) : Pk w' x' i (L + 1) ao n cap j := by
  rcases hc with ⟨e, hg⟩ | ⟨hb, hn⟩
  · rcases h.far with hf | ⟨rfl, hl, g, rfl, hx⟩
    · refine ⟨h.sl.gr (v' := x') ⟨hg, .inl e⟩ hf, .inl ?_⟩
      rcases hf with hf | hf
      · exact .inl hf
      · right
        rw [e]
        exact hf
    · exact ⟨ho.marks (by rw [e]; exact hx) (by omega) h.sl.hcap h.sl.hroom, .inr ⟨rfl, by omega, g, rfl, by rw [e]; exact hx⟩⟩
  · refine ⟨h.sl.on (Nat.le_refl _) hb, .inl ?_⟩
    rcases h.sl.hat with h0 | ⟨b, off, rfl, hlt, _⟩
    · exact .inl h0
    · right
      intro p hp e
      cases hp
      have := hn _ e
      simp only at this
      omega
set_option maxRecDepth 100000 in
theorem Pk.on {w w' : World} {x : Value} {i L : Nat} {ao : Option Addr} {n cap j : Nat} (h : Pk w x i L ao n cap j) (hb : Below w.heap.size w w') : Pk w' x i L ao n cap j := ⟨h.sl.on (Nat.le_refl _) hb, h.far⟩
end Go.Proofs.YtphjnahmbdinmaaGreatDoor

/- espalierref03.Book in memory. -/

namespace Go.Proofs.YtphjnahmbdinmaaGreatDoor
open Go.RowKit

set_option maxRecDepth 100000 in
theorem infoSl9 : (Tryz.prog.info? 38).map (fun i => (i.zero, i.size, i.bytes)) = some (some (.slice none 0 0), 1, 24) := by kernel_rfl
/-- The slice value v owns the values xs. -/
def OwnX (w : World) (B : Nat) (v : Value) (xs : List Value) : Prop := w.ownsRow B 38 1 v xs.length xs
set_option maxRecDepth 100000 in
theorem OwnX.nil (w : World) (B : Nat) : OwnX w B (.slice none 0 0) [] := World.ownsRow_nil w B 38 1
set_option maxRecDepth 100000 in
theorem u8_neX : 5 ≠ 38 := by decide
set_option maxRecDepth 100000 in
theorem bk_neX : 70 ≠ 38 := by decide
set_option maxRecDepth 100000 in
theorem bk_ne8 : 70 ≠ 5 := by decide
set_option maxRecDepth 100000 in
/-- A row of values is not a block of another type. -/
theorem OwnX.noty {w : World} {B : Nat} {v : Value} {xs : List Value} (h : OwnX w B v xs) {g : Nat} {c : Array Value} {t : TypeId} {fz : Nat × Nat} (hg : w.heap[g]? = some (.cells c t fz)) (ht : t ≠ 38) : v.ownBlock ≠ some g := by
  intro e
  rcases h.2 with ⟨rfl, _⟩ | ⟨k, cap, cur, rfl, _, hk, _⟩
  · cases e
  · injection e with e
    have e' : k = g := e
    rw [← e', hk] at hg
    injection hg with hg
    injection hg with _ h2 _
    exact ht h2.symm
set_option maxRecDepth 100000 in
theorem OwnB.noty {w : World} {B : Nat} {v : Value} {l : List Int} (h : OwnB w B v l) {g : Nat} {c : Array Value} {t : TypeId} {fz : Nat × Nat} (hg : w.heap[g]? = some (.cells c t fz)) (ht : t ≠ 5) : v.ownBlock ≠ some g := by
  intro e
  unfold OwnB at h
  rcases h.2 with ⟨rfl, _⟩ | ⟨k, cap, cur, rfl, _, hk, _⟩
  · cases e
  · injection e with e
    have e' : k = g := e
    rw [← e', hk] at hg
    injection hg with hg
    injection hg with _ h2 _
    exact ht h2.symm
set_option maxRecDepth 100000 in
theorem OwnX.noB {w : World} {B C : Nat} {v u : Value} {xs : List Value} {l : List Int} (h : OwnX w B v xs) (k : OwnB w C u l) : v.ownBlock = none ∨ v.ownBlock ≠ u.ownBlock := by
  have k2 := k
  unfold OwnB at k2
  rcases k2.2 with ⟨rfl, _⟩ | ⟨g, cap, cur, rfl, _, hk, _⟩
  · cases e : v.ownBlock with
    | none => exact .inl rfl
    | some _ => right; simp [Value.ownBlock]
  · exact .inr (h.noty hk u8_neX)
set_option maxRecDepth 100000 in
theorem OwnX.kept {w w' : World} {B : Nat} {v : Value} {xs : List Value} {row : Option Nat} (h : OwnX w B v xs) (hg : w.grownBy w' row) (hne : v.ownBlock = none ∨ v.ownBlock ≠ row) : OwnX w' B v xs := World.ownsRow.kept h hg hne
set_option maxRecDepth 100000 in
theorem OwnX.on {w w' : World} {B : Nat} {v : Value} {xs : List Value} (h : OwnX w B v xs) (hb : Below w.heap.size w w') : OwnX w' B v xs := h.kept (row := none) ⟨hb.os, hb.tape, hb.output, hb.size, fun k hk _ => hb.block k hk⟩ (by
  cases e : v.ownBlock with
  | none => exact .inl rfl
  | some k => exact .inr (by simp))
set_option maxRecDepth 100000 in
theorem OwnX.cells {w : World} {B : Nat} {v : Value} {xs : List Value} (h : OwnX w B v xs) : ∃ ao cap, v = .slice ao xs.length cap ∧ (xs.length = 0 ∨ ∃ g, ao = some ⟨g, 0, none⟩ ∧ xs.length ≤ cap ∧ ∀ (t : Nat) (u : Value), xs[t]? = some u → w.cell? ⟨g, t, none⟩ = some u) := by
  rcases h.2 with ⟨rfl, h0⟩ | ⟨g, cap, cur, rfl, hg, hh, hnc, hm, hs, ht⟩
  · exact ⟨none, 0, by rw [h0], .inl h0⟩
  · refine ⟨_, cap, rfl, .inr ⟨g, rfl, hnc, fun t u hu => ?_⟩⟩
    have hlt := (List.getElem?_eq_some_iff.1 hu).1
    have := World.ownsRow.cellAt h t (by omega)
    rw [this]
    exact hu
set_option maxRecDepth 100000 in
/-- 'append(got, b)'. -/
theorem app_x {ops : Array Oper} {rest : List Oper} {o : Oper} {a : Act} {Q : Exit → Act → World → Prop} (w : World) (hgd : o.guard = none) (s x : Operand)
    (ho : o.op = .call { callee := .builtin .append, args := #[s, x], argTypes := #[33, 33] }) (B : Nat) (xs : List Value) (v y : Value) (hs : a.eval s = v) (h1 : y.oneCell' = true)
    (hown : OwnX w B v xs) (b : Nat) (hx : a.eval x = .slice (some ⟨b, 0, none⟩) 1 1) (hc : w.cell? ⟨b, 0, none⟩ = some y) (hb : xs.length + 1 ≤ 100000000) (hbase : B ≤ w.heap.size)
    (h : ∀ v' w', OwnX w' B v' (xs ++ [y]) → Gr w v w' v' → wpList Tryz.prog ops Q rest (a.put o.dst v') w') : wpList Tryz.prog ops Q (o :: rest) a w := by
  obtain ⟨i0, hi, hz0, hz1, hz2⟩ := info_parts infoSl9
  refine wpList_append_own_at w hgd s x 33 ho B 38 i0 (.slice none 0 0) 1 24 Tryz.underlying33 hi hz0 hz1 hz2 rfl (by decide) v xs.length xs hs hown ⟨b, 0, none⟩ 1 1 [y] hx rfl
    (fun j u hu => by
      have hj : j = 0 := by
        have := (List.getElem?_eq_some_iff.1 hu).1
        simpa using this
      subst hj
      simp at hu
      subst hu
      simpa [Addr.add_lit] using hc) (fun u hu => by simp at hu; subst hu; exact h1) (by unfold maxLen; omega) (by omega) hbase ?_
  intro v' w' h1 h2 _ h4
  refine h v' w' ?_ ⟨h2, h4.imp id fun e => ⟨_, e, Nat.le_refl _⟩⟩
  unfold OwnX
  rw [List.length_append]
  exact h1
/-- A BOOK IN MEMORY: the lists V, list t has the bytes D t. -/
structure Bo9 (w : World) (B bk : Nat) (v : Value) (V : List Value) (D : Nat → List Int) : Prop where
  box : w.heap[bk]? = some (.cells #[v] 70 (0, 0))
  row : OwnX w B v V
  own : ∀ (t : Nat) (u : Value), V[t]? = some u → OwnB w B u (D t) ∧ Wf (D t) ∧ (D t).length ≤ 65536
  ne : ∀ (t t' : Nat) (u u' : Value), V[t]? = some u → V[t']? = some u' → t ≠ t' → u.ownBlock = none ∨ u.ownBlock ≠ u'.ownBlock
set_option maxRecDepth 100000 in
theorem own_shape {w : World} {B : Nat} {u : Value} {l : List Int} (h : OwnB w B u l) : ∃ ao c, u = .slice ao l.length c ∧ (l.length = 0 ∨ ∃ g, ao = some ⟨g, 0, none⟩ ∧ B ≤ g) := by
  have h2 := h
  unfold OwnB at h2
  rcases h2.2 with ⟨rfl, h0⟩ | ⟨g, cap, cur, rfl, hg, _⟩
  · exact ⟨none, 0, by rw [h0], .inl h0⟩
  · exact ⟨_, cap, rfl, .inr ⟨g, rfl, hg⟩⟩
set_option maxRecDepth 100000 in
theorem Bo9.set {w : World} {B bk : Nat} {v : Value} {V : List Value} {D : Nat → List Int} (h : Bo9 w B bk v V D) {i g n c k : Nat} {y : Int} (hi : V[i]? = some (.slice (some ⟨g, 0, none⟩) n c)) (hn : (D i).length = n) (hk : k < n) (hy : 0 ≤ y ∧ y ≤ 255) :
    Bo9 (w.setCell ⟨g, k, none⟩ (.int .u8 y)) B bk v V (fun t => if t = i then (D i).set k y else D t) := by
  obtain ⟨ho, hw, hl⟩ := h.own i _ hi
  have hgu : (Value.slice (some ⟨g, 0, none⟩) n c).ownBlock = some g := rfl
  have hc : Cf (· = g) w (w.setCell ⟨g, k, none⟩ (.int .u8 y)) := Cf.setCell (F := (· = g)) w (p := ⟨g, k, none⟩) rfl _
  have hgr : w.grownBy (w.setCell ⟨g, k, none⟩ (.int .u8 y)) (some g) := ⟨hc.os, hc.tape, hc.output, hc.size, fun q hq hne => hc.block q hq (fun e => hne (by rw [e]))⟩
  refine ⟨(hc.block bk (lt_some h.box) (fun e => ho.noty h.box bk_ne8 (by rw [hgu, e]))).trans h.box, h.row.kept hgr ?_, fun t u ht => ?_, h.ne⟩
  · rcases h.row.noB ho with e | e
    · exact .inl e
    · exact .inr e
  · by_cases e : t = i
    · subst e
      rw [hi] at ht
      cases ht
      simp only [if_true]
      refine ⟨own_set ho hn hk, ?_, by rw [List.length_set]; exact hl⟩
      intro z hz
      rcases List.mem_or_eq_of_mem_set hz with hz | hz
      · exact hw z hz
      · rw [hz]; exact hy
    · simp only [if_neg e]
      obtain ⟨o2, w2, l2⟩ := h.own t u ht
      exact ⟨World.ownsRow.kept o2 hgr (by
        rcases h.ne t i u _ ht hi e with e2 | e2
        · exact .inl e2
        · exact .inr e2), w2, l2⟩
set_option maxRecDepth 100000 in
theorem Bo9.on {w w' : World} {B bk : Nat} {v : Value} {V : List Value} {D : Nat → List Int} (h : Bo9 w B bk v V D) (hb : Below w.heap.size w w') : Bo9 w' B bk v V D :=
  ⟨(hb.block _ (lt_some h.box)).trans h.box, h.row.on hb, fun t u ht => ⟨(h.own t u ht).1.on (Nat.le_refl _) hb, (h.own t u ht).2⟩, h.ne⟩
set_option maxRecDepth 100000 in
theorem Bo9.cong {w : World} {B bk : Nat} {v : Value} {V : List Value} {D E : Nat → List Int} (h : Bo9 w B bk v V D) (he : ∀ t, t < V.length → D t = E t) : Bo9 w B bk v V E :=
  ⟨h.box, h.row, fun t u ht => by rw [← he t (List.getElem?_eq_some_iff.1 ht).1]; exact h.own t u ht, h.ne⟩
set_option maxRecDepth 100000 in
/-- Take. -/
theorem take9 (w : World) (B bk : Nat) (v : Value) (V : List Value) (D : Nat → List Int) (ao : Option Addr) (n c : Nat) (l : List Int) (h : Bo9 w B bk v V D) (hn : V.length ≤ 4000000) (hB : B ≤ w.heap.size) (ho : OwnB w B (.slice ao n c) l) (hw : Wf l) (hl : l.length ≤ 65536)
    (hne : ∀ (t : Nat) (u : Value), V[t]? = some u → u.ownBlock = none ∨ u.ownBlock ≠ (Value.slice ao n c).ownBlock) :
    Calls Tryz.prog 38 #[.pointer (some ⟨bk, 0, none⟩), .slice ao n c] w fun e w' => e = .returned (.tuple #[]) ∧ Hid (∃ v', Bo9 w' B bk v' (V ++ [.slice ao n c]) (fun t => if t < V.length then D t else l) ∧ Cf (fun k => k = bk ∨ v.ownBlock = some k) w w') := by
  have hbx := h.box
  have c0 : w.cell? ⟨bk, 0, none⟩ = some v := by rw [cell_of_row _ _ 0 _ _ _ hbx]; rfl
  have f0 : w.frozen? ⟨bk, 0, none⟩ = false := by simp [World.frozen?, hbx]
  obtain ⟨x, hx⟩ : ∃ x, w.alloc (.cells #[.slice ao n c] 38) = x := ⟨_, rfl⟩
  have hbx2 : Below w.heap.size w x := by rw [← hx]; exact bl_al (Below.refl _ _) (Nat.le_refl _) _
  have hcx : x.cell? ⟨w.heap.size, 0, none⟩ = some (.slice ao n c) := by rw [← hx]; simp
  have HX := hidden (h.on hbx2)
  have HOX : Hid (OwnB x B (.slice ao n c) l) := hidden (ho.on (Nat.le_refl _) hbx2)
  have hxs : B ≤ x.heap.size := Nat.le_trans hB hbx2.size
  have HBX := hidden hbx2
  have HNE := hidden hne
  have c0x : x.cell? ⟨bk, 0, none⟩ = some v := (hbx2.cell (p := ⟨bk, 0, none⟩) (lt_some hbx)).trans c0
  clear h ho hne hbx hbx2
  go_enter Tryz.func38, Tryz.ntmps38
  go_wp2_with (at_builtin; refine app_x _ rfl _ _ rfl B V v (.slice ao n c) rfl rfl HX.out.row w.heap.size rfl hcx (by omega) hxs ?_; refine Hid.out ?_)
  apply hidden
  intro v' w1 ho1 hg1
  obtain ⟨vo, vn, vc, rfl⟩ : ∃ vo vn vc, v' = .slice vo vn vc := by
    obtain ⟨vo, vc, e, _⟩ := ho1.cells
    exact ⟨vo, _, vc, e⟩
  have hbk1 : v.ownBlock ≠ some bk := HX.out.row.noty HX.out.box bk_neX
  have hbox1 : w1.heap[bk]? = some (.cells #[v] 70 (0, 0)) := (hg1.cf.block bk (lt_some HX.out.box) hbk1).trans HX.out.box
  have c1 : ∃ z, w1.cell? ⟨bk, 0, none⟩ = some z := ⟨v, by rw [cell_of_row _ _ 0 _ _ _ hbox1]; rfl⟩
  obtain ⟨z, c1⟩ := c1
  have f1 : w1.frozen? ⟨bk, 0, none⟩ = false := by simp [World.frozen?, hbox1]
  have hbk2 : (Value.slice vo vn vc).ownBlock ≠ some bk := ho1.noty hbox1 bk_neX
  have HF : Hid (Bo9 (w1.setCell ⟨bk, 0, none⟩ (.slice vo vn vc)) B bk (.slice vo vn vc) (V ++ [.slice ao n c]) (fun t => if t < V.length then D t else l) ∧ Cf (fun k => k = bk ∨ v.ownBlock = some k) w (w1.setCell ⟨bk, 0, none⟩ (.slice vo vn vc))) := hidden (by
    have hc2 : Cf (· = bk) w1 (w1.setCell ⟨bk, 0, none⟩ (.slice vo vn vc)) := Cf.setCell (F := (· = bk)) w1 (p := ⟨bk, 0, none⟩) rfl _
    have hgr2 : w1.grownBy (w1.setCell ⟨bk, 0, none⟩ (.slice vo vn vc)) (some bk) := ⟨hc2.os, hc2.tape, hc2.output, hc2.size, fun q hq hne => hc2.block q hq (fun e => hne (by rw [e]))⟩
    have keep : ∀ u d, OwnB x B u d → OwnB (w1.setCell ⟨bk, 0, none⟩ (.slice vo vn vc)) B u d := by
      intro u d hu
      have h1 : OwnB w1 B u d := World.ownsRow.kept hu hg1.grow (by
        rcases HX.out.row.noB hu with e | e
        · rw [e]
          cases e2 : u.ownBlock with
          | none => exact .inl rfl
          | some _ => exact .inr (by simp)
        · exact .inr fun e2 => e e2.symm)
      exact World.ownsRow.kept h1 hgr2 (.inr (h1.noty hbox1 bk_ne8))
    refine ⟨⟨?_, ho1.kept hgr2 (.inr hbk2), fun t u ht => ?_, fun t t' u u' ht ht' hne => ?_⟩, ((Cf.of_below HBX.out).go (hg1.cf.wide (fun k hk => .inr hk))).go (hc2.wide (fun k hk => .inl hk))⟩
    · have := set_row (w := w1) (a := bk) (cs := [v]) (i := 0) (u := .slice vo vn vc) hbox1
      simpa using this
    · by_cases e : t < V.length
      · rw [List.getElem?_append_left e] at ht
        rw [if_pos e]
        obtain ⟨a1, a2, a3⟩ := HX.out.own t u ht
        exact ⟨keep u _ a1, a2, a3⟩
      · have hlt := (List.getElem?_eq_some_iff.1 ht).1
        rw [List.length_append] at hlt
        simp only [List.length_cons, List.length_nil] at hlt
        obtain rfl : t = V.length := by omega
        rw [List.getElem?_concat_length] at ht
        cases ht
        rw [if_neg e]
        exact ⟨keep _ _ HOX.out, hw, hl⟩
    · have l1 := (List.getElem?_eq_some_iff.1 ht).1
      have l2 := (List.getElem?_eq_some_iff.1 ht').1
      rw [List.length_append] at l1 l2
      simp only [List.length_cons, List.length_nil] at l1 l2
      by_cases e : t < V.length
      · rw [List.getElem?_append_left e] at ht
        by_cases e' : t' < V.length
        · rw [List.getElem?_append_left e'] at ht'
          exact HX.out.ne t t' u u' ht ht' hne
        · obtain rfl : t' = V.length := by omega
          rw [List.getElem?_concat_length] at ht'
          cases ht'
          exact HNE.out t u ht
      · obtain rfl : t = V.length := by omega
        rw [List.getElem?_concat_length] at ht
        cases ht
        have e' : t' < V.length := by omega
        rw [List.getElem?_append_left e'] at ht'
        rcases HNE.out t' u' ht' with e2 | e2
        · rw [e2]
          cases e3 : (Value.slice ao n c).ownBlock with
          | none => exact .inl rfl
          | some _ => exact .inr (by simp)
        · exact .inr fun e3 => e2 e3.symm)
  clear ho1 hg1 hx hcx c0 f0
  go_wp2
  go_end0
  exact ⟨rfl, hidden ⟨_, HF.out⟩⟩
end Go.Proofs.YtphjnahmbdinmaaGreatDoor
