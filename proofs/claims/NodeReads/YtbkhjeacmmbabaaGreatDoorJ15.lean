import Derived.Test.YtbkhjeacmmbabaaGreatDoorJ13
import Derived.Deep.QuietTactic
import Derived.Handy
import Derived.BigQuiet
import Derived.Deep.DeepAppendWide
namespace Go.Proofs.YtbkhjeacmmbabaaGreatDoor
set_option maxRecDepth 100000
open Go.RowKit
def mkB (i k : Nat) : Int := (((i + k / 251) % 256 : Nat) : Int)
def mkL (i : Nat) : Nat → List Int
 | 0 => []
 | n + 1 => mkL i n ++ [mkB i n]
theorem mkB_ok (i k : Nat) : 0 ≤ mkB i k ∧ mkB i k ≤ 255 := by
 unfold mkB
 omega
theorem zax (i : Nat) : ∀ n, (mkL i n).length = n
 | 0 => rfl
 | n + 1 => by simp [mkL, zax i n]
theorem mkL_wf (i : Nat) : ∀ n, Wf (mkL i n)
 | 0 => Wf.nil
 | n + 1 => (mkL_wf i n).append (Wf.cons (mkB_ok i n) Wf.nil)
theorem mkL_get (i : Nat) : ∀ n k, k < n → (mkL i n).getD k 0 = mkB i k
 | 0, k, h => by omega
 | n + 1, k, h => by
  unfold mkL
  by_cases e : k < n
  ·rw [show (mkL i n ++ [mkB i n]).getD k 0 = (mkL i n).getD k 0 from by simp [List.getD, zL (show k < (mkL i n).length by rw [zax]; exact e)]]
   exact mkL_get i n k e
  ·obtain rfl : k = n := by omega
   simp [List.getD, zax]
theorem mark_run (i k : Nat) (_ : i ≤ 1300000000000) (_ : k ≤ 140737488355328) : Int.tdiv (k : Int) 251 = ((k / 251 : Nat) : Int) ∧ IntKind.u8.wrap ((i : Int) + ((k / 251 : Nat) : Int)) = mkB i k := by
 constructor
 ·rw [Int.tdiv_eq_ediv_of_nonneg (by omega)]
  rfl
 ·rw [IntKind.wrap_u8]
  unfold mkB
  omega
theorem marked_any (ao : Option Addr) (n cap i : Nat) (w : World) (hs : Sl w ao n cap (mkL i n)) (hi : i ≤ 1300000000000) : Calls Tryz.prog 68 #[.slice ao n cap, .int .i64 (i : Int)] w fun e u => e = .returned (.bool true) ∧ u = w := by
 have HS := zaa hs
 have hr := hs.hroom
 have hrI : (n : Int) ≤ 140737488355328 := by omega
 have hiI : (i : Int) ≤ 1300000000000 := by omega
 clear hs
 go_enter Tryz.func68, Tryz.ntmps68
 go_wp2_with fail
 go_loop [5] (fun x => ∃ k : Nat, k ≤ n ∧ x = .int .i64 (k : Int)) (fun x => n - (RowKit.intOf x).toNat)
 case atStart => exact ⟨0, by omega, rfl⟩
 case round =>
  obtain ⟨k, hk, rfl⟩ := hrel
  by_cases hlt : k < n
  ·have hltI : (k : Int) < (n : Int) := by omega
   obtain ⟨b, off, rfl, hb, hc⟩ : ∃ b off, ao = some ⟨b, off, none⟩ ∧ b < w.heap.size ∧ ∀ j, j < n → w.cell? ⟨b, off + j, none⟩ = some (.int .u8 ((mkL i n).getD j 0)) := by
    rcases HS.out.hat with h | h
    ·omega
    ·exact h
   have hck := hc k hlt
   rw [mkL_get i n k hlt] at hck
   obtain ⟨m1, m2⟩ := mark_run i k hi (by omega)
   have m3 := mkB_ok i k
   obtain ⟨q, hq⟩ : ∃ q, k / 251 = q := ⟨_, rfl⟩
   rw [hq] at m1 m2
   have hqk : (q : Int) ≤ (k : Int) := by have := Nat.div_le_self k 251; omega
   have m4 : IntKind.i64.wrap ((i : Int) + (q : Int)) = (i : Int) + (q : Int) := by rw [IntKind.wrap_i64]; omega
   have m5 : IntKind.i64.wrap (q : Int) = (q : Int) := by rw [IntKind.wrap_i64]; omega
   generalize mkB i k = y at *
   clear hc hq
   go_wp2
   go_round
   case rel => exact ⟨k + 1, by omega, by go_num⟩
   case measure => simp [RowKit.intOf]; omega
  ·obtain rfl : k = n := by omega
   have hlI : ¬ (k : Int) < (k : Int) := by omega
   go_wp2
   go_ret
   exact ⟨rfl, rfl⟩
theorem app_one (w : World) (B : Nat) (ty : TypeId) (v : Value) (l : List Int) (y : Int) (b : Nat) (hown : OwnB w B v l) (hc : w.cell? ⟨b, 0, none⟩ = some (.int .u8 y)) (hb : l.length + 1 ≤ 140737488355328) (hB : B ≤ w.heap.size) :
  ∃ v' w', (Builtin.append_ #[22, 22] ty #[v, .slice (some ⟨b, 0, none⟩) 1 1]).run Tryz.prog w = .ok v' w' ∧ OwnB w' B v' (l ++ [y]) ∧
   ((v'.ownBlock = v.ownBlock ∧ w.grownBy w' v.ownBlock) ∨ (Below w.heap.size w w' ∧ ∀ k, v'.ownBlock = some k → w.heap.size ≤ k)) := by
 obtain ⟨i0, hi, hz0, hz1, hz2⟩ := info_parts zbj
 have hnews : ∀ j u, (By [y])[j]? = some u → w.cell? ((⟨b, 0, none⟩ : Addr).add j) = some u := fun j u hu => by
  obtain ⟨h1, rfl⟩ := getElem?_By [y] j u hu
  have hj : j = 0 := by simpa using h1
  subst hj
  simpa [Addr.add_lit] using hc
 obtain ⟨v', w', hr, h2, h3, h4⟩ := run_append_own (P := Tryz.prog) w B 22 ty 5 i0 (.int .u8 0) 1 1 Tryz.underlying22 hi hz0 hz1 hz2 rfl (by decide) v l.length (By l) hown ⟨b, 0, none⟩ 1 1 (By [y]) rfl hnews (zby [y]) (by unfold maxLen; omega) (by omega) hB
 refine ⟨v', w', hr, ?_, ?_⟩
 ·unfold OwnB
  rw [zdn, zG]
  exact h2
 ·rcases hown.2 with ⟨rfl, h0⟩ | ⟨g, cap, cur, rfl, hbg, hg, hnc, hcm, hcs, htake⟩
  ·have hr' := run_append_nil (P := Tryz.prog) w 22 ty 5 i0 (.int .u8 0) Tryz.underlying22 hi hz0 ⟨b, 0, none⟩ 1 1 (By [y]) (by rw [hz1]; rfl) hnews (by omega) (by omega) (by rw [hz2]; omega)
   rw [hr] at hr'
   injection hr' with e1 e2
   refine .inr ⟨by rw [e2]; exact Br.drew.alloc Lr _, fun k hk => ?_⟩
   rw [e1] at hk
   injection hk with hk
   have : w.heap.size = k := hk
   omega
  ·by_cases hroom : l.length + 1 ≤ cap
   ·have hr' := run_append_room (P := Tryz.prog) w 22 ty 5 i0 Tryz.underlying22 hi g l.length cap cur hg ⟨b, 0, none⟩ 1 1 (By [y]) (by rw [hz1]; rfl) hnews (zby [y]) hroom (by rw [hz1]; simp only [zbk, List.length_cons, List.length_nil]; omega)
    rw [hr] at hr'
    injection hr' with e1 e2
    exact .inl ⟨by rw [e1]; rfl, h3⟩
   ·have holds : ∀ j u, (By l)[j]? = some u → w.cell? ((⟨g, 0, none⟩ : Addr).add j) = some u := World.ownsRow.cells (show w.ownsRow B 5 1 _ _ _ from hown) (g := g) rfl
    have hr' := run_append_grow (P := Tryz.prog) w 22 ty 5 i0 (.int .u8 0) Tryz.underlying22 hi hz0 ⟨g, 0, none⟩ l.length cap (By l) (by rw [hz1]; simp [By]) holds ⟨b, 0, none⟩ 1 1 (By [y]) (by rw [hz1]; rfl) hnews (by omega) (by omega) (by rw [hz2]; exact growslice_fits (by omega) (by omega))
    rw [hr] at hr'
    injection hr' with e1 e2
    refine .inr ⟨by rw [e2]; exact Br.drew.alloc Lr _, fun k hk => ?_⟩
    rw [e1] at hk
    injection hk with hk
    have : w.heap.size = k := hk
    omega
structure Pk9 (w : World) (x : Value) (i L : Nat) (ao : Option Addr) (n cap j : Nat) : Prop where
 sl : Sl w ao n cap (mkL j n)
 far : Far ao n x ∨ (j = i ∧ n ≤ L ∧ ∃ g, ao = some ⟨g, 0, none⟩ ∧ x.ownBlock = some g)
theorem OwnB.marks {w : World} {B : Nat} {x : Value} {i L g : Nat} (h : OwnB w B x (mkL i L)) (hg : x.ownBlock = some g) {n cap : Nat} (hn : n ≤ L) (hc : n ≤ cap) (hr : n ≤ 140737488355328) : Sl w (some ⟨g, 0, none⟩) n cap (mkL i n) := by
 have hb := h
 unfold OwnB at hb
 rcases hb.2 with ⟨rfl, _⟩ | ⟨g', c, cur, rfl, _, hh, _⟩
 ·cases hg
 ·injection hg with hg
  have hg' : g' = g := hg
  subst hg'
  refine ⟨zax i n, hc, hr, mkL_wf i n, (by intro h; cases h), .inr ⟨g', 0, rfl, zaf hh, fun k hk => ?_⟩⟩
  rw [Nat.zero_add, own_cell h rfl (by rw [zax]; omega), mkL_get i L k (by omega), mkL_get i n k hk]
theorem Pk9.app {w w' : World} {B : Nat} {x x' : Value} {i L : Nat} {ao : Option Addr} {n cap j : Nat} (h : Pk9 w x i L ao n cap j) (ho : OwnB w' B x' (mkL i (L + 1)))
  (hc : (x'.ownBlock = x.ownBlock ∧ w.grownBy w' x.ownBlock) ∨ (Below w.heap.size w w' ∧ ∀ k, x'.ownBlock = some k → w.heap.size ≤ k)) : Pk9 w' x' i (L + 1) ao n cap j := by
 rcases hc with ⟨e, hg⟩ | ⟨hb, hn⟩
 ·rcases h.far with hf | ⟨rfl, hl, g, rfl, hx⟩
  ·refine ⟨h.sl.gr (v' := x') ⟨hg, .inl e⟩ hf, .inl ?_⟩
   rcases hf with hf | hf
   ·exact .inl hf
   ·right
    rw [e]
    exact hf
  ·exact ⟨ho.marks (by rw [e]; exact hx) (by omega) h.sl.hcap h.sl.hroom, .inr ⟨rfl, by omega, g, rfl, by rw [e]; exact hx⟩⟩
 ·refine ⟨h.sl.on Lr hb, .inl ?_⟩
  rcases h.sl.hat with h0 | ⟨b, off, rfl, hlt, _⟩
  ·exact .inl h0
  ·right
   intro p hp e
   cases hp
   have := hn _ e
   simp only at this
   omega
theorem Pk9.on {w w' : World} {x : Value} {i L : Nat} {ao : Option Addr} {n cap j : Nat} (h : Pk9 w x i L ao n cap j) (hb : Below w.heap.size w w') : Pk9 w' x i L ao n cap j := ⟨h.sl.on Lr hb, h.far⟩
theorem infoSl9 : (Tryz.prog.info? 22).map (fun i => (i.zero, i.size, i.bytes)) = some (some (.slice none 0 0), 1, 24) := by kernel_rfl
def OwnX (w : World) (B : Nat) (v : Value) (xs : List Value) : Prop := w.ownsRow B 22 1 v xs.length xs
theorem OwnX.nil (w : World) (B : Nat) : OwnX w B (.slice none 0 0) [] := World.ownsRow_nil w B 22 1
theorem u8_neX : 5 ≠ 22 := by decide
theorem bk_neX : 39 ≠ 22 := by decide
theorem bk_ne8 : 39 ≠ 5 := by decide
theorem OwnX.noty {w : World} {B : Nat} {v : Value} {xs : List Value} (h : OwnX w B v xs) {g : Nat} {c : Array Value} {t : TypeId} {fz : Nat × Nat} (hg : w.heap[g]? = some (.cells c t fz)) (ht : t ≠ 22) : v.ownBlock ≠ some g := by
 intro e
 rcases h.2 with ⟨rfl, _⟩ | ⟨k, cap, cur, rfl, _, hk, _⟩
 ·cases e
 ·injection e with e
  have e' : k = g := e
  rw [← e', hk] at hg
  injection hg with hg
  injection hg with _ h2 _
  exact ht h2.symm
theorem OwnB.noty {w : World} {B : Nat} {v : Value} {l : List Int} (h : OwnB w B v l) {g : Nat} {c : Array Value} {t : TypeId} {fz : Nat × Nat} (hg : w.heap[g]? = some (.cells c t fz)) (ht : t ≠ 5) : v.ownBlock ≠ some g := by
 intro e
 unfold OwnB at h
 rcases h.2 with ⟨rfl, _⟩ | ⟨k, cap, cur, rfl, _, hk, _⟩
 ·cases e
 ·injection e with e
  have e' : k = g := e
  rw [← e', hk] at hg
  injection hg with hg
  injection hg with _ h2 _
  exact ht h2.symm
theorem OwnX.noB {w : World} {B C : Nat} {v u : Value} {xs : List Value} {l : List Int} (h : OwnX w B v xs) (k : OwnB w C u l) : v.ownBlock = none ∨ v.ownBlock ≠ u.ownBlock := by
 have k2 := k
 unfold OwnB at k2
 rcases k2.2 with ⟨rfl, _⟩ | ⟨g, cap, cur, rfl, _, hk, _⟩
 ·cases e : v.ownBlock with
  | none => exact .inl rfl
  | some _ => right; simp [Value.ownBlock]
 ·exact .inr (h.noty hk u8_neX)
theorem OwnX.kept {w w' : World} {B : Nat} {v : Value} {xs : List Value} {row : Option Nat} (h : OwnX w B v xs) (hg : w.grownBy w' row) (hne : v.ownBlock = none ∨ v.ownBlock ≠ row) : OwnX w' B v xs := World.ownsRow.kept h hg hne
theorem OwnX.on {w w' : World} {B : Nat} {v : Value} {xs : List Value} (h : OwnX w B v xs) (hb : Below w.heap.size w w') : OwnX w' B v xs := h.kept (row := none) ⟨hb.os, hb.tape, hb.output, hb.size, fun k hk _ => hb.block k hk⟩ (by
 cases e : v.ownBlock with
 | none => exact .inl rfl
 | some k => exact .inr (by simp))
theorem OwnX.cells {w : World} {B : Nat} {v : Value} {xs : List Value} (h : OwnX w B v xs) : ∃ ao cap, v = .slice ao xs.length cap ∧ (xs.length = 0 ∨ ∃ g, ao = some ⟨g, 0, none⟩ ∧ xs.length ≤ cap ∧ ∀ (t : Nat) (u : Value), xs[t]? = some u → w.cell? ⟨g, t, none⟩ = some u) := by
 rcases h.2 with ⟨rfl, h0⟩ | ⟨g, cap, cur, rfl, hg, hh, hnc, hm, hs, ht⟩
 ·exact ⟨none, 0, by rw [h0], .inl h0⟩
 ·refine ⟨_, cap, rfl, .inr ⟨g, rfl, hnc, fun t u hu => ?_⟩⟩
  have hlt := (zH.1 hu).1
  have := World.ownsRow.cellAt h t (by omega)
  rw [this]
  exact hu
theorem own_at9 {w : World} (B : Nat) (t ty e : TypeId) (i : TypeInfo) (z : Value) (bytes : Nat) (ht : Tryz.prog.underlying t = some (.slice e)) (hi : Tryz.prog.info? e = some i) (hz : i.zero = some z)
  (hs1 : i.size = 1) (hby : i.bytes = bytes) (v : Value) (n : Nat) (xs : List Value) (hown : w.ownsRow B e 1 v n xs) (a : Addr) (y : Value) (hc : ∀ j u, [y][j]? = some u → w.cell? (a.add j) = some u) (h1 : ∀ u ∈ [y], u.oneCell' = true)
  (h63 : n + 1 ≤ maxLen) (hbytes : ((n + 1) + (n + 1) / 4 + 192) * bytes ≤ 281474976710656) {v' : Value} {w' : World} (hr : (Builtin.append_ #[t, t] ty #[v, .slice (some a) 1 1]).run Tryz.prog w = .ok v' w') :
  v'.ownBlock = v.ownBlock ∨ v'.ownBlock = some w.heap.size := by
 have hm : maxLen ≤ 9223372036854775807 := by unfold maxLen; omega
 subst hby
 rcases hown.2 with ⟨rfl, rfl⟩ | ⟨g, cap, cur, rfl, hbg, hg, hnc, hcm, hcs, htake⟩
 ·rw [run_append_nil (P := Tryz.prog) w t ty e i z ht hi hz a 1 1 [y] (by simp [hs1]) hc (by omega) (by omega) (zN (Nat.mul_le_mul_right _ (by omega)) hbytes)] at hr
  injection hr with e1 e2
  rw [← e1]
  exact .inr rfl
 ·by_cases hroom : n + 1 ≤ cap
  ·rw [run_append_room (P := Tryz.prog) w t ty e i ht hi g n cap cur hg a 1 1 [y] (by simp [hs1]) hc h1 hroom (by simp [hs1, hcs]; omega)] at hr
   injection hr with e1 e2
   rw [← e1]
   exact .inl rfl
  ·rw [run_append_grow (P := Tryz.prog) w t ty e i z ht hi hz ⟨g, 0, none⟩ n cap xs (by rw [hs1]; exact hown.1) (hown.cells (g := g) rfl) a 1 1 [y] (by simp [hs1]) hc (by omega) (by omega) (growslice_fits_wide (by omega) hbytes)] at hr
   injection hr with e1 e2
   rw [← e1]
   exact .inr rfl
theorem app_x {ops : Array Oper} {rest : List Oper} {o : Oper} {a : Act} {Q : Exit → Act → World → Prop} (w : World) (hgd : o.guard = none) (s x : Operand)
  (ho : o.op = .call { callee := .builtin .append, args := #[s, x], argTypes := #[37, 37] }) (B : Nat) (xs : List Value) (v y : Value) (hs : a.eval s = v) (h1 : y.oneCell' = true)
  (hown : OwnX w B v xs) (b : Nat) (hx : a.eval x = .slice (some ⟨b, 0, none⟩) 1 1) (hc : w.cell? ⟨b, 0, none⟩ = some y) (hb : xs.length + 1 ≤ 6500000000000) (hbase : B ≤ w.heap.size)
  (h : ∀ v' w', OwnX w' B v' (xs ++ [y]) → Gr w v w' v' → wpList Tryz.prog ops Q rest (a.put o.dst v') w') : wpList Tryz.prog ops Q (o :: rest) a w := by
 obtain ⟨i0, hi, hz0, hz1, hz2⟩ := info_parts infoSl9
 have hcs : ∀ j u, [y][j]? = some u → w.cell? ((⟨b, 0, none⟩ : Addr).add j) = some u := fun j u hu => by
   have hj : j = 0 := by
    have := (zH.1 hu).1
    simpa using this
   subst hj
   simp at hu
   subst hu
   simpa [Addr.add_lit] using hc
 have h1' : ∀ u ∈ [y], u.oneCell' = true := fun u hu => by simp at hu; subst hu; exact h1
 have h63 : xs.length + 1 ≤ maxLen := by unfold maxLen; omega
 have hby : ((xs.length + 1) + (xs.length + 1) / 4 + 192) * 24 ≤ 281474976710656 := by omega
 refine wpList_plain hgd fun K hK => ?_
 obtain ⟨v', w', hr, h2, h3, h4⟩ := run_append_own_wide (P := Tryz.prog) w B 37 o.type 22 i0 (.slice none 0 0) 1 24 Tryz.underlying37 hi hz0 hz1 hz2 rfl (by decide) v xs.length xs hown ⟨b, 0, none⟩ 1 1 [y] rfl hcs h1' h63 hby hbase
 have h5 := own_at9 B 37 o.type 22 i0 (.slice none 0 0) 24 Tryz.underlying37 hi hz0 hz1 hz2 v xs.length xs hown ⟨b, 0, none⟩ y hcs h1' h63 hby hr
 unfold Oper.wp execOp
 simp only [ho, resolve, invoke, builtin, Sem.run_bind, Sem.run_pure, Result.andThen_ok, List.map_toArray, List.map_cons, List.map_nil, hs, hx, hr]
 refine hK _ _ (h v' w' ?_ ⟨h3, h5.imp id fun e => ⟨_, e, Lr⟩⟩)
 unfold OwnX
 rw [zG]
 exact h2
structure Bo9 (w : World) (B bk : Nat) (v : Value) (V : List Value) (D : Nat → List Int) : Prop where
 box : w.heap[bk]? = some (.cells #[v] 39 (0, 0))
 row : OwnX w B v V
 own : ∀ (t : Nat) (u : Value), V[t]? = some u → OwnB w B u (D t) ∧ Wf (D t) ∧ (D t).length ≤ 65536
 ne : ∀ (t t' : Nat) (u u' : Value), V[t]? = some u → V[t']? = some u' → t ≠ t' → u.ownBlock = none ∨ u.ownBlock ≠ u'.ownBlock
theorem zcw {w : World} {B : Nat} {u : Value} {l : List Int} (h : OwnB w B u l) : ∃ ao c, u = .slice ao l.length c ∧ (l.length = 0 ∨ ∃ g, ao = some ⟨g, 0, none⟩ ∧ B ≤ g) := by
 have h2 := h
 unfold OwnB at h2
 rcases h2.2 with ⟨rfl, h0⟩ | ⟨g, cap, cur, rfl, hg, _⟩
 ·exact ⟨none, 0, by rw [h0], .inl h0⟩
 ·exact ⟨_, cap, rfl, .inr ⟨g, rfl, hg⟩⟩
theorem Bo9.set {w : World} {B bk : Nat} {v : Value} {V : List Value} {D : Nat → List Int} (h : Bo9 w B bk v V D) {i g n c k : Nat} {y : Int} (hi : V[i]? = some (.slice (some ⟨g, 0, none⟩) n c)) (hn : (D i).length = n) (hk : k < n) (hy : 0 ≤ y ∧ y ≤ 255) :
  Bo9 (w.setCell ⟨g, k, none⟩ (.int .u8 y)) B bk v V (fun t => if t = i then (D i).set k y else D t) := by
 obtain ⟨ho, hw, hl⟩ := h.own i _ hi
 have hgu : (Value.slice (some ⟨g, 0, none⟩) n c).ownBlock = some g := rfl
 have hc : Cf (· = g) w (w.setCell ⟨g, k, none⟩ (.int .u8 y)) := Cf.setCell (F := (· = g)) w (p := ⟨g, k, none⟩) rfl _
 have hgr : w.grownBy (w.setCell ⟨g, k, none⟩ (.int .u8 y)) (some g) := ⟨hc.os, hc.tape, hc.output, hc.size, fun q hq hne => hc.block q hq (fun e => hne (by rw [e]))⟩
 refine ⟨(hc.block bk (zaf h.box) (fun e => ho.noty h.box bk_ne8 (by rw [hgu, e]))).trans h.box, h.row.kept hgr ?_, fun t u ht => ?_, h.ne⟩
 ·rcases h.row.noB ho with e | e
  ·exact .inl e
  ·exact .inr e
 ·by_cases e : t = i
  ·subst e
   rw [hi] at ht
   cases ht
   simp only [if_true]
   refine ⟨own_set ho hn hk, ?_, by rw [List.length_set]; exact hl⟩
   intro z hz
   rcases List.mem_or_eq_of_mem_set hz with hz | hz
   ·exact hw z hz
   ·rw [hz]; exact hy
  ·simp only [if_neg e]
   obtain ⟨o2, w2, l2⟩ := h.own t u ht
   exact ⟨World.ownsRow.kept o2 hgr (by
    rcases h.ne t i u _ ht hi e with e2 | e2
    ·exact .inl e2
    ·exact .inr e2), w2, l2⟩
theorem Bo9.on {w w' : World} {B bk : Nat} {v : Value} {V : List Value} {D : Nat → List Int} (h : Bo9 w B bk v V D) (hb : Below w.heap.size w w') : Bo9 w' B bk v V D :=
 ⟨(hb.block _ (zaf h.box)).trans h.box, h.row.on hb, fun t u ht => ⟨(h.own t u ht).1.on Lr hb, (h.own t u ht).2⟩, h.ne⟩
theorem Bo9.cong {w : World} {B bk : Nat} {v : Value} {V : List Value} {D E : Nat → List Int} (h : Bo9 w B bk v V D) (he : ∀ t, t < V.length → D t = E t) : Bo9 w B bk v V E :=
 ⟨h.box, h.row, fun t u ht => by rw [← he t (zH.1 ht).1]; exact h.own t u ht, h.ne⟩
theorem take9G (w : World) (B bk : Nat) (v : Value) (V : List Value) (D : Nat → List Int) (ao : Option Addr) (n c : Nat) (l : List Int) (h : Bo9 w B bk v V D) (hn : V.length ≤ 1300000000000) (hB : B ≤ w.heap.size) (ho : OwnB w B (.slice ao n c) l) (hw : Wf l) (hl : l.length ≤ 65536)
  (hne : ∀ (t : Nat) (u : Value), V[t]? = some u → u.ownBlock = none ∨ u.ownBlock ≠ (Value.slice ao n c).ownBlock) :
  Calls Tryz.prog 60 #[.pointer (some ⟨bk, 0, none⟩), .slice ao n c] w fun e w' => e = .returned (.tuple #[]) ∧ Hid (∃ v', Bo9 w' B bk v' (V ++ [.slice ao n c]) (fun t => if t < V.length then D t else l) ∧ Cf (fun k => k = bk ∨ v.ownBlock = some k) w w' ∧ ∀ g, v'.ownBlock = some g → v.ownBlock = some g ∨ w.heap.size ≤ g) := by
 have hbx := h.box
 have c0 : w.cell? ⟨bk, 0, none⟩ = some v := by rw [cell_of_row _ _ 0 _ _ _ hbx]; rfl
 have f0 : w.frozen? ⟨bk, 0, none⟩ = false := by simp [World.frozen?, hbx]
 obtain ⟨x, hx⟩ : ∃ x, w.alloc (.cells #[.slice ao n c] 22) = x := ⟨_, rfl⟩
 have hbx2 : Below w.heap.size w x := by rw [← hx]; exact zad Br Lr _
 have hcx : x.cell? ⟨w.heap.size, 0, none⟩ = some (.slice ao n c) := by rw [← hx]; simp
 have HX := zaa (h.on hbx2)
 have HOX : Hid (OwnB x B (.slice ao n c) l) := zaa (ho.on Lr hbx2)
 have hxs : B ≤ x.heap.size := zN hB hbx2.size
 have HBX := zaa hbx2
 have HNE := zaa hne
 have c0x : x.cell? ⟨bk, 0, none⟩ = some v := (hbx2.cell (p := ⟨bk, 0, none⟩) (zaf hbx)).trans c0
 clear h ho hne hbx hbx2
 go_enter Tryz.func60, Tryz.ntmps60
 go_wp2_with (at_builtin; refine app_x _ rfl _ _ rfl B V v (.slice ao n c) rfl rfl HX.out.row w.heap.size rfl hcx (by omega) hxs ?_; refine Hid.out ?_)
 apply zaa
 intro v' w1 ho1 hg1
 obtain ⟨vo, vn, vc, rfl⟩ : ∃ vo vn vc, v' = .slice vo vn vc := by
  obtain ⟨vo, vc, e, _⟩ := ho1.cells
  exact ⟨vo, _, vc, e⟩
 have hbk1 : v.ownBlock ≠ some bk := HX.out.row.noty HX.out.box bk_neX
 have hbox1 : w1.heap[bk]? = some (.cells #[v] 39 (0, 0)) := (hg1.cf.block bk (zaf HX.out.box) hbk1).trans HX.out.box
 have c1 : ∃ z, w1.cell? ⟨bk, 0, none⟩ = some z := ⟨v, by rw [cell_of_row _ _ 0 _ _ _ hbox1]; rfl⟩
 obtain ⟨z, c1⟩ := c1
 have f1 : w1.frozen? ⟨bk, 0, none⟩ = false := by simp [World.frozen?, hbox1]
 have hbk2 : (Value.slice vo vn vc).ownBlock ≠ some bk := ho1.noty hbox1 bk_neX
 have HF : Hid (Bo9 (w1.setCell ⟨bk, 0, none⟩ (.slice vo vn vc)) B bk (.slice vo vn vc) (V ++ [.slice ao n c]) (fun t => if t < V.length then D t else l) ∧ Cf (fun k => k = bk ∨ v.ownBlock = some k) w (w1.setCell ⟨bk, 0, none⟩ (.slice vo vn vc)) ∧ ∀ g, (Value.slice vo vn vc).ownBlock = some g → v.ownBlock = some g ∨ w.heap.size ≤ g) := zaa (by
  have hc2 : Cf (· = bk) w1 (w1.setCell ⟨bk, 0, none⟩ (.slice vo vn vc)) := Cf.setCell (F := (· = bk)) w1 (p := ⟨bk, 0, none⟩) rfl _
  have hgr2 : w1.grownBy (w1.setCell ⟨bk, 0, none⟩ (.slice vo vn vc)) (some bk) := ⟨hc2.os, hc2.tape, hc2.output, hc2.size, fun q hq hne => hc2.block q hq (fun e => hne (by rw [e]))⟩
  have keep : ∀ u d, OwnB x B u d → OwnB (w1.setCell ⟨bk, 0, none⟩ (.slice vo vn vc)) B u d := by
   intro u d hu
   have h1 : OwnB w1 B u d := World.ownsRow.kept hu hg1.grow (by
    rcases HX.out.row.noB hu with e | e
    ·rw [e]
     cases e2 : u.ownBlock with
     | none => exact .inl rfl
     | some _ => exact .inr (by simp)
    ·exact .inr fun e2 => e e2.symm)
   exact World.ownsRow.kept h1 hgr2 (.inr (h1.noty hbox1 bk_ne8))
  refine ⟨⟨?_, ho1.kept hgr2 (.inr hbk2), fun t u ht => ?_, fun t t' u u' ht ht' hne => ?_⟩, ((Cf.of_below HBX.out).go (hg1.cf.wide (fun k hk => .inr hk))).go (hc2.wide (fun k hk => .inl hk)), fun g e => by
   rcases hg1.own with e1 | ⟨k, e1, hk⟩
   ·exact .inl (e1.symm.trans e)
   ·rw [e1] at e
    injection e with e
    subst e
    exact .inr (zN HBX.out.size hk)⟩
  ·have := zaw (w := w1) (a := bk) (cs := [v]) (i := 0) (u := .slice vo vn vc) hbox1
   simpa using this
  ·by_cases e : t < V.length
   ·rw [zL e] at ht
    rw [if_pos e]
    obtain ⟨a1, a2, a3⟩ := HX.out.own t u ht
    exact ⟨keep u _ a1, a2, a3⟩
   ·have hlt := (zH.1 ht).1
    rw [zG] at hlt
    simp only [List.length_cons, List.length_nil] at hlt
    obtain rfl : t = V.length := by omega
    rw [List.getElem?_concat_length] at ht
    cases ht
    rw [if_neg e]
    exact ⟨keep _ _ HOX.out, hw, hl⟩
  ·have l1 := (zH.1 ht).1
   have l2 := (zH.1 ht').1
   rw [zG] at l1 l2
   simp only [List.length_cons, List.length_nil] at l1 l2
   by_cases e : t < V.length
   ·rw [zL e] at ht
    by_cases e' : t' < V.length
    ·rw [zL e'] at ht'
     exact HX.out.ne t t' u u' ht ht' hne
    ·obtain rfl : t' = V.length := by omega
     rw [List.getElem?_concat_length] at ht'
     cases ht'
     exact HNE.out t u ht
   ·obtain rfl : t = V.length := by omega
    rw [List.getElem?_concat_length] at ht
    cases ht
    have e' : t' < V.length := by omega
    rw [zL e'] at ht'
    rcases HNE.out t' u' ht' with e2 | e2
    ·rw [e2]
     cases e3 : (Value.slice ao n c).ownBlock with
     | none => exact .inl rfl
     | some _ => exact .inr (by simp)
    ·exact .inr fun e3 => e2 e3.symm)
 clear ho1 hg1 hx hcx c0 f0
 go_wp2
 go_end0
 exact ⟨rfl, zaa ⟨_, HF.out⟩⟩
theorem take9 (w : World) (B bk : Nat) (v : Value) (V : List Value) (D : Nat → List Int) (ao : Option Addr) (n c : Nat) (l : List Int) (h : Bo9 w B bk v V D) (hn : V.length ≤ 1300000000000) (hB : B ≤ w.heap.size) (ho : OwnB w B (.slice ao n c) l) (hw : Wf l) (hl : l.length ≤ 65536)
  (hne : ∀ (t : Nat) (u : Value), V[t]? = some u → u.ownBlock = none ∨ u.ownBlock ≠ (Value.slice ao n c).ownBlock) :
  Calls Tryz.prog 60 #[.pointer (some ⟨bk, 0, none⟩), .slice ao n c] w fun e w' => e = .returned (.tuple #[]) ∧ Hid (∃ v', Bo9 w' B bk v' (V ++ [.slice ao n c]) (fun t => if t < V.length then D t else l) ∧ Cf (fun k => k = bk ∨ v.ownBlock = some k) w w') := by
 refine (take9G w B bk v V D ao n c l h hn hB ho hw hl hne).mono ?_
 rintro e w' ⟨rfl, hq⟩
 obtain ⟨v', h1, h2, _⟩ := hq.out
 exact ⟨rfl, zaa ⟨v', h1, h2⟩⟩
theorem app_run9 {ops : Array Oper} {rest : List Oper} {o : Oper} {a : Act} {w : World} {Q : Exit → Act → World → Prop} (hgd : o.guard = none) (s x : Operand) (t1 t2 : TypeId)
  (ho : o.op = .call { callee := .builtin .append, args := #[s, x], argTypes := #[t1, t2] }) (v u : Value) (hs : a.eval s = v) (hx : a.eval x = u) {v' : Value} {w' : World}
  (hr : (Builtin.append_ #[t1, t2] o.type #[v, u]).run Tryz.prog w = .ok v' w') (h : wpList Tryz.prog ops Q rest (a.put o.dst v') w') : wpList Tryz.prog ops Q (o :: rest) a w := by
 refine wpList_plain hgd fun K hK => ?_
 unfold Oper.wp execOp
 simp only [ho, resolve, invoke, builtin, Sem.run_bind, Sem.run_pure, Result.andThen_ok, List.map_toArray, List.map_cons, List.map_nil, hs, hx, hr]
 exact hK _ _ h
def U8 (w : World) (ao : Option Addr) (n : Nat) : Prop := n = 0 ∨ ∀ p, ao = some p → ∃ cs fz, w.heap[p.block]? = some (.cells cs 5 fz)
theorem U8.on {w w' : World} {ao : Option Addr} {n : Nat} (h : U8 w ao n) (hb : Below w.heap.size w w') : U8 w' ao n := h.imp id fun h p hp => by
 obtain ⟨cs, fz, e⟩ := h p hp
 exact ⟨cs, fz, (hb.block _ (zaf e)).trans e⟩
theorem OwnB.u8 {w : World} {B : Nat} {x : Value} {l : List Int} (h : OwnB w B x l) {g : Nat} (hg : x.ownBlock = some g) : ∃ cs fz, w.heap[g]? = some (.cells cs 5 fz) := by
 unfold OwnB at h
 rcases h.2 with ⟨rfl, _⟩ | ⟨g', c, cur, rfl, _, hh, _⟩
 ·cases hg
 ·injection hg with hg
  have hg' : g' = g := hg
  rw [← hg']
  exact ⟨_, _, hh⟩
theorem U8.app {w w' : World} {B : Nat} {x x' : Value} {l : List Int} {ao : Option Addr} {n : Nat} (h : U8 w ao n) (ho : OwnB w' B x' l)
  (hc : (x'.ownBlock = x.ownBlock ∧ w.grownBy w' x.ownBlock) ∨ (Below w.heap.size w w' ∧ ∀ k, x'.ownBlock = some k → w.heap.size ≤ k)) : U8 w' ao n := by
 rcases hc with ⟨e, hg⟩ | ⟨hb, _⟩
 ·refine h.imp id fun h p hp => ?_
  by_cases e2 : x.ownBlock = some p.block
  ·exact ho.u8 (by rw [e]; exact e2)
  ·obtain ⟨cs, fz, e3⟩ := h p hp
   exact ⟨cs, fz, (hg.block _ (zaf e3) (fun e4 => e2 e4.symm)).trans e3⟩
 ·exact h.on hb
structure Ps (w : World) (x : Value) (i L : Nat) (u : Value) (n j : Nat) : Prop where
 ex : ∃ ao c, u = .slice ao n c ∧ Pk9 w x i L ao n c j ∧ U8 w ao n
theorem Ps.app {w w' : World} {B : Nat} {x x' : Value} {i L : Nat} {u : Value} {n j : Nat} (h : Ps w x i L u n j) (ho : OwnB w' B x' (mkL i (L + 1)))
  (hc : (x'.ownBlock = x.ownBlock ∧ w.grownBy w' x.ownBlock) ∨ (Below w.heap.size w w' ∧ ∀ k, x'.ownBlock = some k → w.heap.size ≤ k)) : Ps w' x' i (L + 1) u n j := by
 obtain ⟨ao, c, rfl, h1, h2⟩ := h.ex
 exact ⟨ao, c, rfl, h1.app ho hc, h2.app ho hc⟩
theorem Ps.on {w w' : World} {x : Value} {i L : Nat} {u : Value} {n j : Nat} (h : Ps w x i L u n j) (hb : Below w.heap.size w w') : Ps w' x i L u n j := by
 obtain ⟨ao, c, rfl, h1, h2⟩ := h.ex
 exact ⟨ao, c, rfl, h1.on hb, h2.on hb⟩
theorem Ps.grow {w w' : World} {B : Nat} {vG vG' : Value} {H : List Value} {x : Value} {i L : Nat} {u : Value} {n j : Nat} (h : Ps w x i L u n j) (hG : OwnX w B vG H) (hg : Gr w vG w' vG') : Ps w' x i L u n j := by
 obtain ⟨ao, c, rfl, h1, h2⟩ := h.ex
 have hf : n = 0 ∨ ∀ p, ao = some p → vG.ownBlock ≠ some p.block := h2.imp id fun h p hp => by
  obtain ⟨cs, fz, e⟩ := h p hp
  exact hG.noty e u8_neX
 refine ⟨ao, c, rfl, ⟨h1.sl.gr hg hf, h1.far⟩, ?_⟩
 rcases h2 with h0 | h2
 ·exact .inl h0
 ·rcases hf with h0 | hf
  ·exact .inl h0
  ·right
   intro p hp
   obtain ⟨cs, fz, e⟩ := h2 p hp
   exact ⟨cs, fz, (hg.grow.block _ (zaf e) (fun e4 => hf p hp e4.symm)).trans e⟩
structure P9 (w : World) (B bk : Nat) (v : Value) (V : List Value) (nn : Nat → Nat) (i k : Nat) (x vG : Value) (H : List Value) : Prop where
 box : w.heap[bk]? = some (.cells #[v] 39 (0, 0))
 row : OwnX w B v V
 rowG : OwnX w B vG H
 gne : v.ownBlock = none ∨ v.ownBlock ≠ vG.ownBlock
 xo : OwnB w B x (mkL i (nn i + k))
 lst : ∀ (t : Nat) (u : Value), V[t]? = some u → Ps w x i (nn i + k) u (nn t) t
 own : ∀ (t : Nat) (u : Value), V[t]? = some u → i < t → OwnB w B u (mkL t (nn t)) ∧ (u.ownBlock = none ∨ u.ownBlock ≠ x.ownBlock)
 gr : ∀ (s : Nat) (u : Value), H[s]? = some u → ∃ n, Ps w x i (nn i + k) u n (s / 5)
 gfar : ∀ (s : Nat) (y : Value), H[s]? = some y → ∀ (t : Nat) (u : Value), V[t]? = some u → i < t → y.ownBlock = none ∨ y.ownBlock ≠ u.ownBlock
theorem P9.on {w w' : World} {B bk : Nat} {v : Value} {V : List Value} {nn : Nat → Nat} {i k : Nat} {x vG : Value} {H : List Value} (h : P9 w B bk v V nn i k x vG H) (hb : Below w.heap.size w w') : P9 w' B bk v V nn i k x vG H :=
 ⟨(hb.block _ (zaf h.box)).trans h.box, h.row.on hb, h.rowG.on hb, h.gne, h.xo.on Lr hb, fun t u ht => (h.lst t u ht).on hb, fun t u ht hi => ⟨(h.own t u ht hi).1.on Lr hb, (h.own t u ht hi).2⟩, fun s u hs => by
  obtain ⟨n, h1⟩ := h.gr s u hs
  exact ⟨n, h1.on hb⟩, h.gfar⟩
theorem P9.appX {w w' : World} {B bk : Nat} {v : Value} {V : List Value} {nn : Nat → Nat} {i k : Nat} {x x' vG : Value} {H : List Value} (h : P9 w B bk v V nn i k x vG H) (ho : OwnB w' B x' (mkL i (nn i + k + 1)))
  (hc : (x'.ownBlock = x.ownBlock ∧ w.grownBy w' x.ownBlock) ∨ (Below w.heap.size w w' ∧ ∀ q, x'.ownBlock = some q → w.heap.size ≤ q)) : P9 w' B bk v V nn i (k + 1) x' vG H := by
 have hXx : ∀ {y : Value} {ys : List Value}, OwnX w B y ys → OwnX w' B y ys := by
  intro y ys hy
  rcases hc with ⟨_, hg⟩ | ⟨hb, _⟩
  ·exact hy.kept hg (hy.noB h.xo)
  ·exact hy.on hb
 refine ⟨?_, hXx h.row, hXx h.rowG, h.gne, ho, fun t u ht => (h.lst t u ht).app ho hc, fun t u ht hi => ?_, fun s u hs => ?_, h.gfar⟩
 ·rcases hc with ⟨_, hg⟩ | ⟨hb, _⟩
  ·exact (hg.block bk (zaf h.box) (fun e => h.xo.noty h.box bk_ne8 e.symm)).trans h.box
  ·exact (hb.block _ (zaf h.box)).trans h.box
 ·obtain ⟨o1, n1⟩ := h.own t u ht hi
  rcases hc with ⟨e, hg⟩ | ⟨hb, hn⟩
  ·exact ⟨World.ownsRow.kept o1 hg n1, by rw [e]; exact n1⟩
  ·refine ⟨o1.on Lr hb, ?_⟩
   cases e : u.ownBlock with
   | none => exact .inl rfl
   | some q =>
    right
    intro e2
    have h1 := (o1.blk e).2
    have h2 := hn q e2.symm
    omega
 ·obtain ⟨n, h1⟩ := h.gr s u hs
  exact ⟨n, h1.app ho hc⟩
theorem P9.appG {w w' : World} {B bk : Nat} {v : Value} {V : List Value} {nn : Nat → Nat} {i k : Nat} {x vG vG' : Value} {H : List Value} (h : P9 w B bk v V nn i k x vG H) (hG : OwnX w' B vG' (H ++ [x])) (hg : Gr w vG w' vG') (hs : H.length / 5 = i) (h0 : 0 < nn i + k) (hl : nn i + k ≤ 140737488355328) : P9 w' B bk v V nn i k x vG' (H ++ [x]) := by
 have hkeep : ∀ {y : Value} {l : List Int}, OwnB w B y l → OwnB w' B y l := by
  intro y l hy
  refine World.ownsRow.kept hy hg.grow ?_
  rcases h.rowG.noB hy with e | e
  ·rw [e]
   cases e2 : y.ownBlock with
   | none => exact .inl rfl
   | some _ => exact .inr (by simp)
  ·exact .inr fun e2 => e e2.symm
 have hxo := hkeep h.xo
 refine ⟨(hg.grow.block bk (zaf h.box) (fun e => h.rowG.noty h.box bk_neX e.symm)).trans h.box, h.row.kept hg.grow h.gne, hG, ?_, hxo, fun t u ht => (h.lst t u ht).grow h.rowG hg, fun t u ht hi => ⟨hkeep (h.own t u ht hi).1, (h.own t u ht hi).2⟩, fun s u hsu => ?_, fun s y hsy t u ht hi => ?_⟩
 ·rcases h.gne with e | e
  ·exact .inl e
  ·rcases hg.own with e2 | ⟨q, e2, hq⟩
   ·rw [e2]; exact .inr e
   ·cases e3 : v.ownBlock with
    | none => exact .inl rfl
    | some z =>
     right
     rw [e2]
     intro e4
     injection e4 with e4
     have hr := h.row
     unfold OwnX at hr
     have := (hr.lt z e3).2
     omega
 ·by_cases e : s < H.length
  ·rw [zL e] at hsu
   obtain ⟨n, h1⟩ := h.gr s u hsu
   exact ⟨n, h1.grow h.rowG hg⟩
  ·have hlt := (zH.1 hsu).1
   rw [zG] at hlt
   simp only [List.length_cons, List.length_nil] at hlt
   obtain rfl : s = H.length := by omega
   rw [List.getElem?_concat_length] at hsu
   cases hsu
   obtain ⟨ao, c, e5, _, _⟩ := hxo.sl (mkL_wf _ _) (by rw [zax]; exact hl)
   rw [zax] at e5
   obtain ⟨ao2, c2, e6, h7⟩ := zcw hxo
   rw [zax] at e6 h7
   rcases h7 with h7 | ⟨g, rfl, _⟩
   ·omega
   have hob : x.ownBlock = some g := by rw [e6]; rfl
   have hcap : nn i + k ≤ c2 := by
    have h8 := hxo
    unfold OwnB at h8
    rcases h8.2 with ⟨e9, _⟩ | ⟨g', cap', cur, e9, _, _, hnc, _⟩
    ·rw [e6] at e9; cases e9
    ·rw [e6] at e9
     rw [zax] at hnc e9
     injection e9 with _ _ e10
     omega
   refine ⟨nn i + k, ⟨some ⟨g, 0, none⟩, c2, e6, ⟨?_, .inr ⟨hs, Lr, g, rfl, hob⟩⟩, .inr fun p hp => ?_⟩⟩
   ·rw [hs]
    exact hxo.marks hob Lr hcap hl
   ·cases hp
    exact hxo.u8 hob
 ·by_cases e : s < H.length
  ·rw [zL e] at hsy
   exact h.gfar s y hsy t u ht hi
  ·have hlt := (zH.1 hsy).1
   rw [zG] at hlt
   simp only [List.length_cons, List.length_nil] at hlt
   obtain rfl : s = H.length := by omega
   rw [List.getElem?_concat_length] at hsy
   cases hsy
   rcases (h.own t u ht hi).2 with e2 | e2
   ·rw [e2]
    cases e3 : x.ownBlock with
    | none => exact .inl rfl
    | some _ => exact .inr (by simp)
   ·exact .inr fun e3 => e2 e3.symm
def Sq (w : World) (u : Value) (n j : Nat) : Prop := ∃ ao c, u = .slice ao n c ∧ Sl w ao n c (mkL j n) ∧ U8 w ao n
structure Q9 (w : World) (B bk : Nat) (v : Value) (V : List Value) (nn : Nat → Nat) (i : Nat) (vG : Value) (H : List Value) : Prop where
 box : w.heap[bk]? = some (.cells #[v] 39 (0, 0))
 row : OwnX w B v V
 rowG : OwnX w B vG H
 gne : v.ownBlock = none ∨ v.ownBlock ≠ vG.ownBlock
 lst : ∀ (t : Nat) (u : Value), V[t]? = some u → Sq w u (nn t) t
 own : ∀ (t : Nat) (u : Value), V[t]? = some u → i ≤ t → OwnB w B u (mkL t (nn t))
 ne : ∀ (t t' : Nat) (u u' : Value), V[t]? = some u → V[t']? = some u' → t ≠ t' → u.ownBlock = none ∨ u.ownBlock ≠ u'.ownBlock
 gr : ∀ (s : Nat) (u : Value), H[s]? = some u → ∃ n, Sq w u n (s / 5)
 gfar : ∀ (s : Nat) (y : Value), H[s]? = some y → ∀ (t : Nat) (u : Value), V[t]? = some u → i ≤ t → y.ownBlock = none ∨ y.ownBlock ≠ u.ownBlock
theorem far_of {ao : Option Addr} {n c : Nat} {x : Value} (h : (Value.slice ao n c).ownBlock = none ∨ (Value.slice ao n c).ownBlock ≠ x.ownBlock) : Far ao n x := by
 right
 rintro p rfl e
 rcases h with h | h
 ·cases h
 ·exact h (by rw [e]; rfl)
theorem Q9.into {w : World} {B bk : Nat} {v : Value} {V : List Value} {nn : Nat → Nat} {i : Nat} {vG : Value} {H : List Value} (h : Q9 w B bk v V nn i vG H) {x : Value} (hx : V[i]? = some x) : P9 w B bk v V nn i 0 x vG H := by
 have hxo := h.own i x hx Lr
 refine ⟨h.box, h.row, h.rowG, h.gne, hxo, fun t u ht => ?_, fun t u ht hi => ⟨h.own t u ht (by omega), h.ne t i u x ht hx (by omega)⟩, fun s u hs => ?_, fun s y hs t u ht hi => h.gfar s y hs t u ht (by omega)⟩
 ·obtain ⟨ao, c, rfl, h1, h2⟩ := h.lst t u ht
  refine ⟨ao, c, rfl, ⟨h1, ?_⟩, h2⟩
  by_cases e : t = i
  ·subst e
   rw [hx] at ht
   cases ht
   rcases zcw hxo with ⟨ao2, c2, e2, h3⟩
   injection e2 with e3 e4 e5
   rw [zax] at e4 h3
   rcases h3 with h3 | ⟨g, e6, _⟩
   ·exact .inl (.inl h3)
   ·refine .inr ⟨rfl, by omega, g, by rw [e3, e6], by rw [e3, e6]; rfl⟩
  ·exact .inl (far_of (h.ne t i _ x ht hx e))
 ·obtain ⟨n, ao, c, rfl, h1, h2⟩ := h.gr s u hs
  exact ⟨n, ⟨ao, c, rfl, ⟨h1, .inl (far_of (h.gfar s _ hs i x hx Lr))⟩, h2⟩⟩
theorem P9.out {w : World} {B bk : Nat} {v : Value} {V : List Value} {nn : Nat → Nat} {i k : Nat} {x vG : Value} {H : List Value} (h : P9 w B bk v V nn i k x vG H) (hne : ∀ (t t' : Nat) (u u' : Value), V[t]? = some u → V[t']? = some u' → t ≠ t' → u.ownBlock = none ∨ u.ownBlock ≠ u'.ownBlock) : Q9 w B bk v V nn (i + 1) vG H :=
 ⟨h.box, h.row, h.rowG, h.gne, fun t u ht => by
  obtain ⟨ao, c, e, h1, h2⟩ := (h.lst t u ht).ex
  exact ⟨ao, c, e, h1.sl, h2⟩, fun t u ht hi => (h.own t u ht (by omega)).1, hne, fun s u hs => by
  obtain ⟨n, h0⟩ := h.gr s u hs
  obtain ⟨ao, c, e, h1, h2⟩ := h0.ex
  exact ⟨n, ao, c, e, h1.sl, h2⟩, fun s y hs t u ht hi => h.gfar s y hs t u ht (by omega)⟩
theorem Bo9.start {w : World} {B bk : Nat} {v : Value} {V : List Value} {nn : Nat → Nat} (h : Bo9 w B bk v V (fun t => mkL t (nn t))) : Q9 w B bk v V nn 0 (.slice none 0 0) [] := by
 refine ⟨h.box, h.row, OwnX.nil _ _, ?_, fun t u ht => ?_, fun t u ht _ => (h.own t u ht).1, h.ne, fun s u hs => by simp at hs, fun s y hs => by simp at hs⟩
 ·cases e : v.ownBlock with
  | none => exact .inl rfl
  | some _ => exact .inr (by simp [Value.ownBlock])
 ·obtain ⟨o, w1, l1⟩ := h.own t u ht
  rw [zax] at l1
  obtain ⟨ao, c, e, hs, _⟩ := o.sl w1 (by rw [zax]; omega)
  rw [zax] at e hs
  refine ⟨ao, c, e, hs, ?_⟩
  right
  rintro p rfl
  exact o.u8 (by rw [e]; rfl)
def D1 (D : Nat → List Int) (i t : Nat) : List Int := if t < i then mkL t (D t).length else D t
def D2 (D : Nat → List Int) (i k t : Nat) : List Int := if t < i then mkL t (D t).length else if t = i then mkL i k ++ (D i).drop k else D t
theorem D2_set (D : Nat → List Int) (i k : Nat) (hk : k < (D i).length) (t : Nat) : (if t = i then (D2 D i k i).set k (mkB i k) else D2 D i k t) = D2 D i (k + 1) t := by
 unfold D2
 by_cases e : t = i
 ·subst e
  simp only [if_true, Nat.lt_irrefl, if_false]
  rw [zbz (D t) k hk]
  have hl := zax t k
  rw [List.set_append_right _ _ (by omega), hl, Nat.sub_self]
  simp [mkL]
 ·simp only [if_neg e]
theorem D2_len (D : Nat → List Int) (i k : Nat) (hk : k ≤ (D i).length) : (D2 D i k i).length = (D i).length := by
 unfold D2
 simp only [Nat.lt_irrefl, if_false, if_true]
 rw [zG, zax, zK]
 omega
theorem D2_last (D : Nat → List Int) (i t : Nat) : D2 D i (D i).length t = D1 D (i + 1) t := by
 unfold D2 D1
 by_cases e : t < i
 ·rw [if_pos e, if_pos (by omega)]
 ·rw [if_neg e]
  by_cases e2 : t = i
  ·subst e2
   rw [if_pos rfl, if_pos (by omega), List.drop_length, List.append_nil]
  ·rw [if_neg e2, if_neg (by omega)]
theorem D2_first (D : Nat → List Int) (i t : Nat) : D1 D i t = D2 D i 0 t := by
 unfold D2 D1
 by_cases e : t < i
 ·rw [if_pos e, if_pos e]
 ·rw [if_neg e, if_neg e]
  by_cases e2 : t = i
  ·subst e2
   rw [if_pos rfl]
   rfl
  ·rw [if_neg e2]
def cnt : Nat → Nat
 | 0 => 0
 | k + 1 => cnt k + (if k < 3 ∨ k = 8 ∨ k = 19 then 1 else 0)
theorem cnt_bound {k : Nat} (h : k < 20) (h2 : k < 3 ∨ k = 8 ∨ k = 19) : cnt k < 5 := by
 have : ∀ k : Fin 20, (k.val < 3 ∨ k.val = 8 ∨ k.val = 19) → cnt k.val < 5 := by decide
 exact this ⟨k, h⟩ h2
theorem cnt_all : cnt 20 = 5 := by decide
theorem zbx {V : List Value} {N i : Nat} (hN : V.length = N) (hi : i < N) : ∃ u, V[i]? = some u := ⟨_, zI (by omega)⟩
end Go.Proofs.YtbkhjeacmmbabaaGreatDoor
