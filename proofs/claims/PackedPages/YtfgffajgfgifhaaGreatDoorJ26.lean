import Derived.Test.YtfgffajgfgifhaaGreatDoorJ25
import Derived.Deep.QuietTactic
import Derived.Handy
import Derived.BigQuiet
import Derived.Deep.DeepAppendWide
namespace Go.Proofs.YtfgffajgfgifhaaGreatDoor
set_option maxRecDepth 100000
open Go.RowKit
def mkB (i k : Nat) : Int := (((i + k / 251) % 256 : Nat) : Int)
def mkL (i : Nat) : Nat → List Int
 | 0 => []
 | n + 1 => mkL i n ++ [mkB i n]
theorem mkB_ok (i k : Nat) : 0 ≤ mkB i k ∧ mkB i k ≤ 255 := by
 unfold mkB
 omega
theorem zaz (i : Nat) : ∀ n, (mkL i n).length = n
 | 0 => rfl
 | n + 1 => by simp [mkL, zaz i n]
theorem mkL_wf (i : Nat) : ∀ n, Wf (mkL i n)
 | 0 => Wf.nil
 | n + 1 => (mkL_wf i n).append (Wf.cons (mkB_ok i n) Wf.nil)
theorem mkL_get (i : Nat) : ∀ n k, k < n → (mkL i n).getD k 0 = mkB i k
 | 0, k, h => by omega
 | n + 1, k, h => by
  unfold mkL
  by_cases e : k < n
  ·rw [show (mkL i n ++ [mkB i n]).getD k 0 = (mkL i n).getD k 0 from by simp [List.getD, zL (show k < (mkL i n).length by rw [zaz]; exact e)]]
   exact mkL_get i n k e
  ·obtain rfl : k = n := by omega
   simp [List.getD, zaz]
theorem mark_run (i k : Nat) (_ : i ≤ 1300000000000) (_ : k ≤ 140737488355328) : Int.tdiv (k : Int) 251 = ((k / 251 : Nat) : Int) ∧ IntKind.u8.wrap ((i : Int) + ((k / 251 : Nat) : Int)) = mkB i k := by
 constructor
 ·rw [Int.tdiv_eq_ediv_of_nonneg (by omega)]
  rfl
 ·rw [IntKind.wrap_u8]
  unfold mkB
  omega
theorem marked_any (ao : Option Addr) (n cap i : Nat) (w : World) (hs : Sl w ao n cap (mkL i n)) (hi : i ≤ 1300000000000) : Calls Tryz.prog 87 #[.slice ao n cap, .int .i64 (i : Int)] w fun e u => e = .returned (.bool true) ∧ u = w := by
 have HS := zaa hs
 have hr := hs.hroom
 have hrI : (n : Int) ≤ 140737488355328 := by omega
 have hiI : (i : Int) ≤ 1300000000000 := by omega
 clear hs
 go_enter Tryz.func87, Tryz.ntmps87
 go_wp2_with fail
 go_loop [5] (fun x => ∃ k : Nat, k ≤ n ∧ x = .int .i64 (k : Int)) (fun x => n - (RowKit.intOf x).toNat)
 case atStart => exact ⟨0, by omega, rfl⟩
 case round =>
  obtain ⟨k, hk, rfl⟩ := hrel
  by_cases hlt : k < n
  ·have hltI : (k : Int) < (n : Int) := by omega
   obtain ⟨b, off, rfl, hb, hc⟩ : ∃ b off, ao = some ⟨b, off, none⟩ ∧ b < w.heap.size ∧ ∀ j, j < n → w.cell? ⟨b, off + j, none⟩ = some (.int .u8 ((mkL i n).getD j 0)) := by
    rcases HS.out.hat with h | h
    ·omega
    ·exact h
   have hck := hc k hlt
   rw [mkL_get i n k hlt] at hck
   obtain ⟨m1, m2⟩ := mark_run i k hi (by omega)
   have m3 := mkB_ok i k
   obtain ⟨q, hq⟩ : ∃ q, k / 251 = q := ⟨_, rfl⟩
   rw [hq] at m1 m2
   have hqk : (q : Int) ≤ (k : Int) := by have := Nat.div_le_self k 251; omega
   have m4 : IntKind.i64.wrap ((i : Int) + (q : Int)) = (i : Int) + (q : Int) := by rw [IntKind.wrap_i64]; omega
   have m5 : IntKind.i64.wrap (q : Int) = (q : Int) := by rw [IntKind.wrap_i64]; omega
   generalize mkB i k = y at *
   clear hc hq
   go_wp2
   go_round
   case rel => exact ⟨k + 1, by omega, by go_num⟩
   case measure => simp [RowKit.intOf]; omega
  ·obtain rfl : k = n := by omega
   have hlI : ¬ (k : Int) < (k : Int) := by omega
   go_wp2
   go_ret
   exact ⟨rfl, rfl⟩
theorem app_one (w : World) (B : Nat) (ty : TypeId) (v : Value) (l : List Int) (y : Int) (b : Nat) (hown : OwnB w B v l) (hc : w.cell? ⟨b, 0, none⟩ = some (.int .u8 y)) (hb : l.length + 1 ≤ 140737488355328) (hB : B ≤ w.heap.size) :
  ∃ v' w', (Builtin.append_ #[37, 37] ty #[v, .slice (some ⟨b, 0, none⟩) 1 1]).run Tryz.prog w = .ok v' w' ∧ OwnB w' B v' (l ++ [y]) ∧
   ((v'.ownBlock = v.ownBlock ∧ w.grownBy w' v.ownBlock) ∨ (Below w.heap.size w w' ∧ ∀ k, v'.ownBlock = some k → w.heap.size ≤ k)) := by
 obtain ⟨i0, hi, hz0, hz1, hz2⟩ := info_parts info5
 have hnews : ∀ j u, (By [y])[j]? = some u → w.cell? ((⟨b, 0, none⟩ : Addr).add j) = some u := fun j u hu => by
  obtain ⟨h1, rfl⟩ := getElem?_By [y] j u hu
  have hj : j = 0 := by simpa using h1
  subst hj
  simpa [Addr.add_lit] using hc
 obtain ⟨v', w', hr, h2, h3, h4⟩ := run_append_own (P := Tryz.prog) w B 37 ty 5 i0 (.int .u8 0) 1 1 Tryz.underlying37 hi hz0 hz1 hz2 rfl (by decide) v l.length (By l) hown ⟨b, 0, none⟩ 1 1 (By [y]) rfl hnews (By_one [y]) (by unfold maxLen; omega) (by omega) hB
 refine ⟨v', w', hr, ?_, ?_⟩
 ·unfold OwnB
  rw [zcv, zG]
  exact h2
 ·rcases hown.2 with ⟨rfl, h0⟩ | ⟨g, cap, cur, rfl, hbg, hg, hnc, hcm, hcs, htake⟩
  ·have hr' := run_append_nil (P := Tryz.prog) w 37 ty 5 i0 (.int .u8 0) Tryz.underlying37 hi hz0 ⟨b, 0, none⟩ 1 1 (By [y]) (by rw [hz1]; rfl) hnews (by omega) (by omega) (by rw [hz2]; omega)
   rw [hr] at hr'
   injection hr' with e1 e2
   refine .inr ⟨by rw [e2]; exact Br.drew.alloc Lr _, fun k hk => ?_⟩
   rw [e1] at hk
   injection hk with hk
   have : w.heap.size = k := hk
   omega
  ·by_cases hroom : l.length + 1 ≤ cap
   ·have hr' := run_append_room (P := Tryz.prog) w 37 ty 5 i0 Tryz.underlying37 hi g l.length cap cur hg ⟨b, 0, none⟩ 1 1 (By [y]) (by rw [hz1]; rfl) hnews (By_one [y]) hroom (by rw [hz1]; simp only [zbl, List.length_cons, List.length_nil]; omega)
    rw [hr] at hr'
    injection hr' with e1 e2
    exact .inl ⟨by rw [e1]; rfl, h3⟩
   ·have holds : ∀ j u, (By l)[j]? = some u → w.cell? ((⟨g, 0, none⟩ : Addr).add j) = some u := World.ownsRow.cells (show w.ownsRow B 5 1 _ _ _ from hown) (g := g) rfl
    have hr' := run_append_grow (P := Tryz.prog) w 37 ty 5 i0 (.int .u8 0) Tryz.underlying37 hi hz0 ⟨g, 0, none⟩ l.length cap (By l) (by rw [hz1]; simp [By]) holds ⟨b, 0, none⟩ 1 1 (By [y]) (by rw [hz1]; rfl) hnews (by omega) (by omega) (by rw [hz2]; exact growslice_fits (by omega) (by omega))
    rw [hr] at hr'
    injection hr' with e1 e2
    refine .inr ⟨by rw [e2]; exact Br.drew.alloc Lr _, fun k hk => ?_⟩
    rw [e1] at hk
    injection hk with hk
    have : w.heap.size = k := hk
    omega
structure Pk9 (w : World) (x : Value) (i L : Nat) (ao : Option Addr) (n cap j : Nat) : Prop where
 sl : Sl w ao n cap (mkL j n)
 far : Far ao n x ∨ (j = i ∧ n ≤ L ∧ ∃ g, ao = some ⟨g, 0, none⟩ ∧ x.ownBlock = some g)
theorem OwnB.marks {w : World} {B : Nat} {x : Value} {i L g : Nat} (h : OwnB w B x (mkL i L)) (hg : x.ownBlock = some g) {n cap : Nat} (hn : n ≤ L) (hc : n ≤ cap) (hr : n ≤ 140737488355328) : Sl w (some ⟨g, 0, none⟩) n cap (mkL i n) := by
 have hb := h
 unfold OwnB at hb
 rcases hb.2 with ⟨rfl, _⟩ | ⟨g', c, cur, rfl, _, hh, _⟩
 ·cases hg
 ·injection hg with hg
  have hg' : g' = g := hg
  subst hg'
  refine ⟨zaz i n, hc, hr, mkL_wf i n, (by intro h; cases h), .inr ⟨g', 0, rfl, zag hh, fun k hk => ?_⟩⟩
  rw [Nat.zero_add, zbm h rfl (by rw [zaz]; omega), mkL_get i L k (by omega), mkL_get i n k hk]
theorem Pk9.app {w w' : World} {B : Nat} {x x' : Value} {i L : Nat} {ao : Option Addr} {n cap j : Nat} (h : Pk9 w x i L ao n cap j) (ho : OwnB w' B x' (mkL i (L + 1)))
  (hc : (x'.ownBlock = x.ownBlock ∧ w.grownBy w' x.ownBlock) ∨ (Below w.heap.size w w' ∧ ∀ k, x'.ownBlock = some k → w.heap.size ≤ k)) : Pk9 w' x' i (L + 1) ao n cap j := by
 rcases hc with ⟨e, hg⟩ | ⟨hb, hn⟩
 ·rcases h.far with hf | ⟨rfl, hl, g, rfl, hx⟩
  ·refine ⟨h.sl.gr (v' := x') ⟨hg, .inl e⟩ hf, .inl ?_⟩
   rcases hf with hf | hf
   ·exact .inl hf
   ·right
    rw [e]
    exact hf
  ·exact ⟨ho.marks (by rw [e]; exact hx) (by omega) h.sl.hcap h.sl.hroom, .inr ⟨rfl, by omega, g, rfl, by rw [e]; exact hx⟩⟩
 ·refine ⟨h.sl.on Lr hb, .inl ?_⟩
  rcases h.sl.hat with h0 | ⟨b, off, rfl, hlt, _⟩
  ·exact .inl h0
  ·right
   intro p hp e
   cases hp
   have := hn _ e
   simp only at this
   omega
theorem Pk9.on {w w' : World} {x : Value} {i L : Nat} {ao : Option Addr} {n cap j : Nat} (h : Pk9 w x i L ao n cap j) (hb : Below w.heap.size w w') : Pk9 w' x i L ao n cap j := ⟨h.sl.on Lr hb, h.far⟩
theorem infoSl9 : (Tryz.prog.info? 37).map (fun i => (i.zero, i.size, i.bytes)) = some (some (.slice none 0 0), 1, 24) := by kernel_rfl
def OwnX (w : World) (B : Nat) (v : Value) (xs : List Value) : Prop := w.ownsRow B 37 1 v xs.length xs
theorem OwnX.nil (w : World) (B : Nat) : OwnX w B (.slice none 0 0) [] := World.ownsRow_nil w B 37 1
theorem u8_neX : 5 ≠ 37 := by decide
theorem bk_neX : 71 ≠ 37 := by decide
theorem bk_ne8 : 71 ≠ 5 := by decide
theorem OwnX.noty {w : World} {B : Nat} {v : Value} {xs : List Value} (h : OwnX w B v xs) {g : Nat} {c : Array Value} {t : TypeId} {fz : Nat × Nat} (hg : w.heap[g]? = some (.cells c t fz)) (ht : t ≠ 37) : v.ownBlock ≠ some g := by
 intro e
 rcases h.2 with ⟨rfl, _⟩ | ⟨k, cap, cur, rfl, _, hk, _⟩
 ·cases e
 ·injection e with e
  have e' : k = g := e
  rw [← e', hk] at hg
  injection hg with hg
  injection hg with _ h2 _
  exact ht h2.symm
theorem OwnB.noty {w : World} {B : Nat} {v : Value} {l : List Int} (h : OwnB w B v l) {g : Nat} {c : Array Value} {t : TypeId} {fz : Nat × Nat} (hg : w.heap[g]? = some (.cells c t fz)) (ht : t ≠ 5) : v.ownBlock ≠ some g := by
 intro e
 unfold OwnB at h
 rcases h.2 with ⟨rfl, _⟩ | ⟨k, cap, cur, rfl, _, hk, _⟩
 ·cases e
 ·injection e with e
  have e' : k = g := e
  rw [← e', hk] at hg
  injection hg with hg
  injection hg with _ h2 _
  exact ht h2.symm
theorem OwnX.noB {w : World} {B C : Nat} {v u : Value} {xs : List Value} {l : List Int} (h : OwnX w B v xs) (k : OwnB w C u l) : v.ownBlock = none ∨ v.ownBlock ≠ u.ownBlock := by
 have k2 := k
 unfold OwnB at k2
 rcases k2.2 with ⟨rfl, _⟩ | ⟨g, cap, cur, rfl, _, hk, _⟩
 ·cases e : v.ownBlock with
  | none => exact .inl rfl
  | some _ => right; simp [Value.ownBlock]
 ·exact .inr (h.noty hk u8_neX)
theorem OwnX.kept {w w' : World} {B : Nat} {v : Value} {xs : List Value} {row : Option Nat} (h : OwnX w B v xs) (hg : w.grownBy w' row) (hne : v.ownBlock = none ∨ v.ownBlock ≠ row) : OwnX w' B v xs := World.ownsRow.kept h hg hne
theorem OwnX.on {w w' : World} {B : Nat} {v : Value} {xs : List Value} (h : OwnX w B v xs) (hb : Below w.heap.size w w') : OwnX w' B v xs := h.kept (row := none) ⟨hb.os, hb.tape, hb.output, hb.size, fun k hk _ => hb.block k hk⟩ (by
 cases e : v.ownBlock with
 | none => exact .inl rfl
 | some k => exact .inr (by simp))
theorem OwnX.cells {w : World} {B : Nat} {v : Value} {xs : List Value} (h : OwnX w B v xs) : ∃ ao cap, v = .slice ao xs.length cap ∧ (xs.length = 0 ∨ ∃ g, ao = some ⟨g, 0, none⟩ ∧ xs.length ≤ cap ∧ ∀ (t : Nat) (u : Value), xs[t]? = some u → w.cell? ⟨g, t, none⟩ = some u) := by
 rcases h.2 with ⟨rfl, h0⟩ | ⟨g, cap, cur, rfl, hg, hh, hnc, hm, hs, ht⟩
 ·exact ⟨none, 0, by rw [h0], .inl h0⟩
 ·refine ⟨_, cap, rfl, .inr ⟨g, rfl, hnc, fun t u hu => ?_⟩⟩
  have hlt := (zH.1 hu).1
  have := World.ownsRow.cellAt h t (by omega)
  rw [this]
  exact hu
theorem own_at9 {w : World} (B : Nat) (t ty e : TypeId) (i : TypeInfo) (z : Value) (bytes : Nat) (ht : Tryz.prog.underlying t = some (.slice e)) (hi : Tryz.prog.info? e = some i) (hz : i.zero = some z)
  (hs1 : i.size = 1) (hby : i.bytes = bytes) (v : Value) (n : Nat) (xs : List Value) (hown : w.ownsRow B e 1 v n xs) (a : Addr) (y : Value) (hc : ∀ j u, [y][j]? = some u → w.cell? (a.add j) = some u) (h1 : ∀ u ∈ [y], u.oneCell' = true)
  (h63 : n + 1 ≤ maxLen) (hbytes : ((n + 1) + (n + 1) / 4 + 192) * bytes ≤ 281474976710656) {v' : Value} {w' : World} (hr : (Builtin.append_ #[t, t] ty #[v, .slice (some a) 1 1]).run Tryz.prog w = .ok v' w') :
  v'.ownBlock = v.ownBlock ∨ v'.ownBlock = some w.heap.size := by
 have hm : maxLen ≤ 9223372036854775807 := by unfold maxLen; omega
 subst hby
 rcases hown.2 with ⟨rfl, rfl⟩ | ⟨g, cap, cur, rfl, hbg, hg, hnc, hcm, hcs, htake⟩
 ·rw [run_append_nil (P := Tryz.prog) w t ty e i z ht hi hz a 1 1 [y] (by simp [hs1]) hc (by omega) (by omega) (zN (Nat.mul_le_mul_right _ (by omega)) hbytes)] at hr
  injection hr with e1 e2
  rw [← e1]
  exact .inr rfl
 ·by_cases hroom : n + 1 ≤ cap
  ·rw [run_append_room (P := Tryz.prog) w t ty e i ht hi g n cap cur hg a 1 1 [y] (by simp [hs1]) hc h1 hroom (by simp [hs1, hcs]; omega)] at hr
   injection hr with e1 e2
   rw [← e1]
   exact .inl rfl
  ·rw [run_append_grow (P := Tryz.prog) w t ty e i z ht hi hz ⟨g, 0, none⟩ n cap xs (by rw [hs1]; exact hown.1) (hown.cells (g := g) rfl) a 1 1 [y] (by simp [hs1]) hc (by omega) (by omega) (growslice_fits_wide (by omega) hbytes)] at hr
   injection hr with e1 e2
   rw [← e1]
   exact .inr rfl
theorem app_x {ops : Array Oper} {rest : List Oper} {o : Oper} {a : Act} {Q : Exit → Act → World → Prop} (w : World) (hgd : o.guard = none) (s x : Operand)
  (ho : o.op = .call { callee := .builtin .append, args := #[s, x], argTypes := #[32, 32] }) (B : Nat) (xs : List Value) (v y : Value) (hs : a.eval s = v) (h1 : y.oneCell' = true)
  (hown : OwnX w B v xs) (b : Nat) (hx : a.eval x = .slice (some ⟨b, 0, none⟩) 1 1) (hc : w.cell? ⟨b, 0, none⟩ = some y) (hb : xs.length + 1 ≤ 6500000000000) (hbase : B ≤ w.heap.size)
  (h : ∀ v' w', OwnX w' B v' (xs ++ [y]) → Gr w v w' v' → wpList Tryz.prog ops Q rest (a.put o.dst v') w') : wpList Tryz.prog ops Q (o :: rest) a w := by
 obtain ⟨i0, hi, hz0, hz1, hz2⟩ := info_parts infoSl9
 have hcs : ∀ j u, [y][j]? = some u → w.cell? ((⟨b, 0, none⟩ : Addr).add j) = some u := fun j u hu => by
   have hj : j = 0 := by
    have := (zH.1 hu).1
    simpa using this
   subst hj
   simp at hu
   subst hu
   simpa [Addr.add_lit] using hc
 have h1' : ∀ u ∈ [y], u.oneCell' = true := fun u hu => by simp at hu; subst hu; exact h1
 have h63 : xs.length + 1 ≤ maxLen := by unfold maxLen; omega
 have hby : ((xs.length + 1) + (xs.length + 1) / 4 + 192) * 24 ≤ 281474976710656 := by omega
 refine wpList_plain hgd fun K hK => ?_
 obtain ⟨v', w', hr, h2, h3, h4⟩ := run_append_own_wide (P := Tryz.prog) w B 32 o.type 37 i0 (.slice none 0 0) 1 24 Tryz.underlying32 hi hz0 hz1 hz2 rfl (by decide) v xs.length xs hown ⟨b, 0, none⟩ 1 1 [y] rfl hcs h1' h63 hby hbase
 have h5 := own_at9 B 32 o.type 37 i0 (.slice none 0 0) 24 Tryz.underlying32 hi hz0 hz1 hz2 v xs.length xs hown ⟨b, 0, none⟩ y hcs h1' h63 hby hr
 unfold Oper.wp execOp
 simp only [ho, resolve, invoke, builtin, Sem.run_bind, Sem.run_pure, Result.andThen_ok, List.map_toArray, List.map_cons, List.map_nil, hs, hx, hr]
 refine hK _ _ (h v' w' ?_ ⟨h3, h5.imp id fun e => ⟨_, e, Lr⟩⟩)
 unfold OwnX
 rw [zG]
 exact h2
structure Bo9 (w : World) (B bk : Nat) (v : Value) (V : List Value) (D : Nat → List Int) : Prop where
 box : w.heap[bk]? = some (.cells #[v] 71 (0, 0))
 row : OwnX w B v V
 own : ∀ (t : Nat) (u : Value), V[t]? = some u → OwnB w B u (D t) ∧ Wf (D t) ∧ (D t).length ≤ 65536
 ne : ∀ (t t' : Nat) (u u' : Value), V[t]? = some u → V[t']? = some u' → t ≠ t' → u.ownBlock = none ∨ u.ownBlock ≠ u'.ownBlock
theorem zcu {w : World} {B : Nat} {u : Value} {l : List Int} (h : OwnB w B u l) : ∃ ao c, u = .slice ao l.length c ∧ (l.length = 0 ∨ ∃ g, ao = some ⟨g, 0, none⟩ ∧ B ≤ g) := by
 have h2 := h
 unfold OwnB at h2
 rcases h2.2 with ⟨rfl, h0⟩ | ⟨g, cap, cur, rfl, hg, _⟩
 ·exact ⟨none, 0, by rw [h0], .inl h0⟩
 ·exact ⟨_, cap, rfl, .inr ⟨g, rfl, hg⟩⟩
theorem Bo9.set {w : World} {B bk : Nat} {v : Value} {V : List Value} {D : Nat → List Int} (h : Bo9 w B bk v V D) {i g n c k : Nat} {y : Int} (hi : V[i]? = some (.slice (some ⟨g, 0, none⟩) n c)) (hn : (D i).length = n) (hk : k < n) (hy : 0 ≤ y ∧ y ≤ 255) :
  Bo9 (w.setCell ⟨g, k, none⟩ (.int .u8 y)) B bk v V (fun t => if t = i then (D i).set k y else D t) := by
 obtain ⟨ho, hw, hl⟩ := h.own i _ hi
 have hgu : (Value.slice (some ⟨g, 0, none⟩) n c).ownBlock = some g := rfl
 have hc : Cf (· = g) w (w.setCell ⟨g, k, none⟩ (.int .u8 y)) := Cf.setCell (F := (· = g)) w (p := ⟨g, k, none⟩) rfl _
 have hgr : w.grownBy (w.setCell ⟨g, k, none⟩ (.int .u8 y)) (some g) := ⟨hc.os, hc.tape, hc.output, hc.size, fun q hq hne => hc.block q hq (fun e => hne (by rw [e]))⟩
 refine ⟨(hc.block bk (zag h.box) (fun e => ho.noty h.box bk_ne8 (by rw [hgu, e]))).trans h.box, h.row.kept hgr ?_, fun t u ht => ?_, h.ne⟩
 ·rcases h.row.noB ho with e | e
  ·exact .inl e
  ·exact .inr e
 ·by_cases e : t = i
  ·subst e
   rw [hi] at ht
   cases ht
   simp only [if_true]
   refine ⟨own_set ho hn hk, ?_, by rw [List.length_set]; exact hl⟩
   intro z hz
   rcases List.mem_or_eq_of_mem_set hz with hz | hz
   ·exact hw z hz
   ·rw [hz]; exact hy
  ·simp only [if_neg e]
   obtain ⟨o2, w2, l2⟩ := h.own t u ht
   exact ⟨World.ownsRow.kept o2 hgr (by
    rcases h.ne t i u _ ht hi e with e2 | e2
    ·exact .inl e2
    ·exact .inr e2), w2, l2⟩
theorem Bo9.on {w w' : World} {B bk : Nat} {v : Value} {V : List Value} {D : Nat → List Int} (h : Bo9 w B bk v V D) (hb : Below w.heap.size w w') : Bo9 w' B bk v V D :=
 ⟨(hb.block _ (zag h.box)).trans h.box, h.row.on hb, fun t u ht => ⟨(h.own t u ht).1.on Lr hb, (h.own t u ht).2⟩, h.ne⟩
theorem Bo9.cong {w : World} {B bk : Nat} {v : Value} {V : List Value} {D E : Nat → List Int} (h : Bo9 w B bk v V D) (he : ∀ t, t < V.length → D t = E t) : Bo9 w B bk v V E :=
 ⟨h.box, h.row, fun t u ht => by rw [← he t (zH.1 ht).1]; exact h.own t u ht, h.ne⟩
theorem take9G (w : World) (B bk : Nat) (v : Value) (V : List Value) (D : Nat → List Int) (ao : Option Addr) (n c : Nat) (l : List Int) (h : Bo9 w B bk v V D) (hn : V.length ≤ 1300000000000) (hB : B ≤ w.heap.size) (ho : OwnB w B (.slice ao n c) l) (hw : Wf l) (hl : l.length ≤ 65536)
  (hne : ∀ (t : Nat) (u : Value), V[t]? = some u → u.ownBlock = none ∨ u.ownBlock ≠ (Value.slice ao n c).ownBlock) :
  Calls Tryz.prog 40 #[.pointer (some ⟨bk, 0, none⟩), .slice ao n c] w fun e w' => e = .returned (.tuple #[]) ∧ Hid (∃ v', Bo9 w' B bk v' (V ++ [.slice ao n c]) (fun t => if t < V.length then D t else l) ∧ Cf (fun k => k = bk ∨ v.ownBlock = some k) w w' ∧ ∀ g, v'.ownBlock = some g → v.ownBlock = some g ∨ w.heap.size ≤ g) := by
 have hbx := h.box
 have c0 : w.cell? ⟨bk, 0, none⟩ = some v := by rw [cell_of_row _ _ 0 _ _ _ hbx]; rfl
 have f0 : w.frozen? ⟨bk, 0, none⟩ = false := by simp [World.frozen?, hbx]
 obtain ⟨x, hx⟩ : ∃ x, w.alloc (.cells #[.slice ao n c] 37) = x := ⟨_, rfl⟩
 have hbx2 : Below w.heap.size w x := by rw [← hx]; exact zac Br Lr _
 have hcx : x.cell? ⟨w.heap.size, 0, none⟩ = some (.slice ao n c) := by rw [← hx]; simp
 have HX := zaa (h.on hbx2)
 have HOX : Hid (OwnB x B (.slice ao n c) l) := zaa (ho.on Lr hbx2)
 have hxs : B ≤ x.heap.size := zN hB hbx2.size
 have HBX := zaa hbx2
 have HNE := zaa hne
 have c0x : x.cell? ⟨bk, 0, none⟩ = some v := (hbx2.cell (p := ⟨bk, 0, none⟩) (zag hbx)).trans c0
 clear h ho hne hbx hbx2
 go_enter Tryz.func40, Tryz.ntmps40
 go_wp2_with (at_builtin; refine app_x _ rfl _ _ rfl B V v (.slice ao n c) rfl rfl HX.out.row w.heap.size rfl hcx (by omega) hxs ?_; refine Hid.out ?_)
 apply zaa
 intro v' w1 ho1 hg1
 obtain ⟨vo, vn, vc, rfl⟩ : ∃ vo vn vc, v' = .slice vo vn vc := by
  obtain ⟨vo, vc, e, _⟩ := ho1.cells
  exact ⟨vo, _, vc, e⟩
 have hbk1 : v.ownBlock ≠ some bk := HX.out.row.noty HX.out.box bk_neX
 have hbox1 : w1.heap[bk]? = some (.cells #[v] 71 (0, 0)) := (hg1.cf.block bk (zag HX.out.box) hbk1).trans HX.out.box
 have c1 : ∃ z, w1.cell? ⟨bk, 0, none⟩ = some z := ⟨v, by rw [cell_of_row _ _ 0 _ _ _ hbox1]; rfl⟩
 obtain ⟨z, c1⟩ := c1
 have f1 : w1.frozen? ⟨bk, 0, none⟩ = false := by simp [World.frozen?, hbox1]
 have hbk2 : (Value.slice vo vn vc).ownBlock ≠ some bk := ho1.noty hbox1 bk_neX
 have HF : Hid (Bo9 (w1.setCell ⟨bk, 0, none⟩ (.slice vo vn vc)) B bk (.slice vo vn vc) (V ++ [.slice ao n c]) (fun t => if t < V.length then D t else l) ∧ Cf (fun k => k = bk ∨ v.ownBlock = some k) w (w1.setCell ⟨bk, 0, none⟩ (.slice vo vn vc)) ∧ ∀ g, (Value.slice vo vn vc).ownBlock = some g → v.ownBlock = some g ∨ w.heap.size ≤ g) := zaa (by
  have hc2 : Cf (· = bk) w1 (w1.setCell ⟨bk, 0, none⟩ (.slice vo vn vc)) := Cf.setCell (F := (· = bk)) w1 (p := ⟨bk, 0, none⟩) rfl _
  have hgr2 : w1.grownBy (w1.setCell ⟨bk, 0, none⟩ (.slice vo vn vc)) (some bk) := ⟨hc2.os, hc2.tape, hc2.output, hc2.size, fun q hq hne => hc2.block q hq (fun e => hne (by rw [e]))⟩
  have keep : ∀ u d, OwnB x B u d → OwnB (w1.setCell ⟨bk, 0, none⟩ (.slice vo vn vc)) B u d := by
   intro u d hu
   have h1 : OwnB w1 B u d := World.ownsRow.kept hu hg1.grow (by
    rcases HX.out.row.noB hu with e | e
    ·rw [e]
     cases e2 : u.ownBlock with
     | none => exact .inl rfl
     | some _ => exact .inr (by simp)
    ·exact .inr fun e2 => e e2.symm)
   exact World.ownsRow.kept h1 hgr2 (.inr (h1.noty hbox1 bk_ne8))
  refine ⟨⟨?_, ho1.kept hgr2 (.inr hbk2), fun t u ht => ?_, fun t t' u u' ht ht' hne => ?_⟩, ((Cf.of_below HBX.out).go (hg1.cf.wide (fun k hk => .inr hk))).go (hc2.wide (fun k hk => .inl hk)), fun g e => by
   rcases hg1.own with e1 | ⟨k, e1, hk⟩
   ·exact .inl (e1.symm.trans e)
   ·rw [e1] at e
    injection e with e
    subst e
    exact .inr (zN HBX.out.size hk)⟩
  ·have := zam (w := w1) (a := bk) (cs := [v]) (i := 0) (u := .slice vo vn vc) hbox1
   simpa using this
  ·by_cases e : t < V.length
   ·rw [zL e] at ht
    rw [if_pos e]
    obtain ⟨a1, a2, a3⟩ := HX.out.own t u ht
    exact ⟨keep u _ a1, a2, a3⟩
   ·have hlt := (zH.1 ht).1
    rw [zG] at hlt
    simp only [List.length_cons, List.length_nil] at hlt
    obtain rfl : t = V.length := by omega
    rw [List.getElem?_concat_length] at ht
    cases ht
    rw [if_neg e]
    exact ⟨keep _ _ HOX.out, hw, hl⟩
  ·have l1 := (zH.1 ht).1
   have l2 := (zH.1 ht').1
   rw [zG] at l1 l2
   simp only [List.length_cons, List.length_nil] at l1 l2
   by_cases e : t < V.length
   ·rw [zL e] at ht
    by_cases e' : t' < V.length
    ·rw [zL e'] at ht'
     exact HX.out.ne t t' u u' ht ht' hne
    ·obtain rfl : t' = V.length := by omega
     rw [List.getElem?_concat_length] at ht'
     cases ht'
     exact HNE.out t u ht
   ·obtain rfl : t = V.length := by omega
    rw [List.getElem?_concat_length] at ht
    cases ht
    have e' : t' < V.length := by omega
    rw [zL e'] at ht'
    rcases HNE.out t' u' ht' with e2 | e2
    ·rw [e2]
     cases e3 : (Value.slice ao n c).ownBlock with
     | none => exact .inl rfl
     | some _ => exact .inr (by simp)
    ·exact .inr fun e3 => e2 e3.symm)
 clear ho1 hg1 hx hcx c0 f0
 go_wp2
 go_end0
 exact ⟨rfl, zaa ⟨_, HF.out⟩⟩
end Go.Proofs.YtfgffajgfgifhaaGreatDoor
