/- Layer 7: a row of cells of one's own, whose keys and values are one's own too (from layer 6's). -/
import Derived.Test.YtobfkcepjnjfpaaGreatDoorJ11
import Derived.Test.YtobfkcepjnjfpaaGreatDoorJ30
import Derived.Deep.QuietTactic
import Derived.Handy
import Derived.BigQuiet
namespace Go.Proofs.YtobfkcepjnjfpaaGreatDoor
open Go.RowKit

/-- The values of cells, their bytes one's own. -/
def R5B (w : World) (B : Nat) : List Value → List Cl → Prop
  | vs, [] => vs = []
  | vs, c :: r => ∃ ka kc va vc t, vs = .slice ka c.key.length kc :: .int .i64 c.kd :: .slice va c.val.length vc :: .int .i64 c.pg :: .int .i64 c.ct :: t ∧ OwnB w B (.slice ka c.key.length kc) c.key ∧ OwnB w B (.slice va c.val.length vc) c.val ∧ R5B w B t r
set_option maxRecDepth 100000 in
theorem R5B.append {w : World} {B : Nat} {us : List Value} {ds : List Cl} (g : R5B w B us ds) : ∀ {vs : List Value} {cs : List Cl}, R5B w B vs cs → R5B w B (vs ++ us) (cs ++ ds)
  | vs, [], h => by
    unfold R5B at h
    subst h
    exact g
  | vs, c :: r, h => by
    obtain ⟨ka, kc, va, vc, t, rfl, h1, h2, h3⟩ := h
    exact ⟨ka, kc, va, vc, t ++ us, rfl, h1, h2, R5B.append g h3⟩
set_option maxRecDepth 100000 in
theorem R5B.keep {w w' : World} {B : Nat} (hk : ∀ v l, OwnB w B v l → OwnB w' B v l) : ∀ {vs : List Value} {cs : List Cl}, R5B w B vs cs → R5B w' B vs cs
  | vs, [], h => h
  | vs, c :: r, h => by
    obtain ⟨ka, kc, va, vc, t, rfl, h1, h2, h3⟩ := h
    exact ⟨ka, kc, va, vc, t, rfl, hk _ _ h1, hk _ _ h2, R5B.keep hk h3⟩
set_option maxRecDepth 100000 in
theorem R5B.row {w : World} {B : Nat} (hl : ∀ v l, OwnB w B v l → True) : ∀ {vs : List Value} {cs : List Cl}, R5B w B vs cs → (∀ c ∈ cs, c.Wf ∧ c.key.length ≤ 140737488355328 ∧ c.val.length ≤ 140737488355328) → Row5 w vs cs
  | vs, [], h, _ => h
  | vs, c :: r, h, hw => by
    obtain ⟨ka, kc, va, vc, t, rfl, h1, h2, h3⟩ := h
    have hc := hw c (by simp)
    exact ⟨ka, kc, va, vc, t, rfl, own_sl7 h1 hc.1.1 hc.2.1, own_sl7 h2 hc.1.2 hc.2.2, R5B.row hl h3 (fun d hd => hw d (by simp [hd]))⟩
/-- A ROW OF CELLS OF ONE'S OWN. -/
def OwnD (w : World) (B : Nat) (v : Value) (cs : List Cl) : Prop := ∃ vs, w.ownsRow B 37 5 v cs.length vs ∧ R5B w B vs cs
set_option maxRecDepth 100000 in
theorem OwnD.nil (w : World) (B : Nat) : OwnD w B (.slice none 0 0) [] := ⟨[], World.ownsRow_nil _ _ _ _, rfl⟩
set_option maxRecDepth 100000 in
theorem OwnD.on {w w' : World} {B : Nat} {v : Value} {cs : List Cl} (h : OwnD w B v cs) (hb : Below w.heap.size w w') : OwnD w' B v cs := by
  obtain ⟨vs, h1, h2⟩ := h
  refine ⟨vs, World.ownsRow.kept (row := none) h1 ⟨hb.os, hb.tape, hb.output, hb.size, fun k hk _ => hb.block k hk⟩ ?_, h2.keep (fun v l h => h.on (Nat.le_refl _) hb)⟩
  cases hv : v.ownBlock with
  | none => exact .inl rfl
  | some k => exact .inr (by simp)
set_option maxRecDepth 100000 in
/-- Bytes of one's own lie not in a row of cells. -/
theorem own_apart {w : World} {B n : Nat} {v u : Value} {vs : List Value} {l : List Int} (h : w.ownsRow B 37 5 v n vs) (k : OwnB w B u l) : u.ownBlock = none ∨ u.ownBlock ≠ v.ownBlock := by
  rcases h.2 with ⟨rfl, _⟩ | ⟨g, c, cur, rfl, _, hh, _⟩
  · cases hu : u.ownBlock with
    | none => exact .inl rfl
    | some z => exact .inr (by simp [Value.ownBlock])
  · rcases k.2 with ⟨rfl, _⟩ | ⟨g', c', cur', rfl, _, hh', _⟩
    · exact .inl (by simp [Value.ownBlock])
    · right
      intro e
      have e' : g' = g := by simpa [Value.ownBlock] using e
      rw [e'] at hh'
      rw [hh'] at hh
      simp at hh
set_option maxRecDepth 100000 in
/-- 'append(l, c)', the cell's bytes one's own. -/
theorem app_cd {ops : Array Oper} {rest : List Oper} {o : Oper} {a : Act} {Q : Exit → Act → World → Prop} (w : World) (hgd : o.guard = none) (s x : Operand)
    (ho : o.op = .call { callee := .builtin .append, args := #[s, x], argTypes := #[25, 25] }) (B : Nat) (cs : List Cl) (c : Cl) (v : Value) (b : Nat) (us : List Value) (hs : a.eval s = v) (hx : a.eval x = .slice (some ⟨b, 0, none⟩) 1 1)
    (hown : OwnD w B v cs) (hr : R5B w B us [c]) (hc : ∀ j u, us[j]? = some u → w.cell? ⟨b, 0 + j, none⟩ = some u) (hb : cs.length + 1 ≤ 200000) (hbase : B ≤ w.heap.size)
    (h : ∀ v' w', Hid (OwnD w' B v' (cs ++ [c])) → Hid (Below B w w') → wpList Tryz.prog ops Q rest (a.put o.dst v') w') : wpList Tryz.prog ops Q (o :: rest) a w := by
  obtain ⟨i0, hi, hz0, hz1, hz2⟩ := info_parts infoC
  obtain ⟨vs, h1, h2⟩ := hown
  have hlen : us.length = 1 * 5 := by
    obtain ⟨ka, kc, va, vc, t, rfl, _, _, h3⟩ := hr
    unfold R5B at h3
    subst h3
    rfl
  have hone : ∀ u ∈ us, u.oneCell' = true := by
    obtain ⟨ka, kc, va, vc, t, rfl, _, _, h3⟩ := hr
    unfold R5B at h3
    subst h3
    intro u hu
    simp only [List.mem_cons, List.not_mem_nil, or_false] at hu
    rcases hu with rfl | rfl | rfl | rfl | rfl <;> rfl
  refine wpList_append_own_at w hgd s x 25 ho B 37 i0 _ 5 72 Tryz.underlying25 hi hz0 hz1 hz2 rfl (by decide) v cs.length vs hs h1 ⟨b, 0, none⟩ 1 1 us hx hlen
    (fun j u hu => by
      rw [Addr.add_lit]
      exact hc j u hu) hone (by unfold maxLen; omega) (by omega) hbase ?_
  intro v' w' g1 g2 _ _
  have hkp : ∀ u l, OwnB w B u l → OwnB w' B u l := fun u l hu => World.ownsRow.kept hu g2 (own_apart h1 hu)
  refine h v' w' (hidden ⟨vs ++ us, ?_, R5B.append (hr.keep hkp) (h2.keep hkp)⟩) (hidden (own_below h1 hbase g2))
  rw [List.length_append]
  exact g1
set_option maxRecDepth 100000 in
theorem OwnD.slc {w : World} {B : Nat} {v : Value} {cs : List Cl} (h : OwnD w B v cs) (hw : ∀ c ∈ cs, c.Wf ∧ c.key.length ≤ 140737488355328 ∧ c.val.length ≤ 140737488355328) (hl : cs.length ≤ 200000) : ∃ ao cap, v = .slice ao cs.length cap ∧ SlC w ao cs.length cap cs := by
  obtain ⟨vs, h1, h2⟩ := h
  have hr := R5B.row (fun _ _ _ => trivial) h2 hw
  rcases h1.2 with ⟨rfl, h0⟩ | ⟨g, cap, cur, rfl, hg, hh, hnc, hm, hs, ht⟩
  · rw [h0]
    exact ⟨none, 0, rfl, ⟨h0, Nat.le_refl _, by omega, fun _ => rfl, .inl rfl⟩⟩
  · refine ⟨_, cap, rfl, ⟨rfl, hnc, by omega, (by intro h; cases h), .inr ⟨g, 0, rfl, lt_some hh, ?_⟩⟩⟩
    exact Row5.cat (Below.refl _ _) 0 hr (fun j u hu => by
      have := World.ownsRow.cells h1 (g := g) rfl j u hu
      simpa [Addr.add_lit] using this)
end Go.Proofs.YtobfkcepjnjfpaaGreatDoor

/- What the texts on espalierref03.Book ask besides layer 7's texts. -/

namespace Go.Proofs.YtobfkcepjnjfpaaGreatDoor
open Go.RowKit

set_option maxRecDepth 100000 in
theorem Gr.cf {w w' : World} {v v' : Value} (h : Gr w v w' v') : Cf (fun k => v.ownBlock = some k) w w' := ⟨h.grow.os, h.grow.tape, h.grow.output, h.grow.size, fun k hk hf => h.grow.block k hk (fun e => hf e.symm)⟩
set_option maxRecDepth 100000 in
theorem Cf.wide {F G : Nat → Prop} {a b : World} (h : Cf F a b) (hg : ∀ k, F k → G k) : Cf G a b := ⟨h.os, h.tape, h.output, h.size, fun k hk hf => h.block k hk (fun e => hf (hg k e))⟩
set_option maxRecDepth 100000 in
theorem OwnB.cfX {w w' : World} {B : Nat} {v : Value} {l : List Int} {F : Nat → Prop} (h : OwnB w B v l) (hc : Cf F w w') (hf : ∀ k, v.ownBlock = some k → ¬ F k) : OwnB w' B v l := by
  unfold OwnB at *
  rcases h.2 with h2 | ⟨g, cap, cur, e, hg, hh, rest⟩
  · exact ⟨h.1, .inl h2⟩
  · refine ⟨h.1, .inr ⟨g, cap, cur, e, hg, ?_, rest⟩⟩
    rw [hc.block g (lt_some hh) (hf g (by rw [e]; rfl))]
    exact hh
set_option maxRecDepth 100000 in
theorem OwnB.blk {w : World} {B : Nat} {v : Value} {l : List Int} (h : OwnB w B v l) {k : Nat} (hk : v.ownBlock = some k) : B ≤ k ∧ k < w.heap.size := by
  unfold OwnB at h
  exact h.lt k hk
end Go.Proofs.YtobfkcepjnjfpaaGreatDoor

/- espalierref03.Book: the marks; what they are written to and grown by. -/

namespace Go.Proofs.YtobfkcepjnjfpaaGreatDoor
open Go.RowKit

/-- The k-th byte of the i-th list. -/
def mkB (i k : Nat) : Int := (((i + k / 251) % 256 : Nat) : Int)
def mkL (i : Nat) : Nat → List Int
  | 0 => []
  | n + 1 => mkL i n ++ [mkB i n]
set_option maxRecDepth 100000 in
theorem mkB_ok (i k : Nat) : 0 ≤ mkB i k ∧ mkB i k ≤ 255 := by
  unfold mkB
  omega
set_option maxRecDepth 100000 in
theorem mkL_length (i : Nat) : ∀ n, (mkL i n).length = n
  | 0 => rfl
  | n + 1 => by simp [mkL, mkL_length i n]
set_option maxRecDepth 100000 in
theorem mkL_wf (i : Nat) : ∀ n, Wf (mkL i n)
  | 0 => Wf.nil
  | n + 1 => (mkL_wf i n).append (Wf.cons (mkB_ok i n) Wf.nil)
set_option maxRecDepth 100000 in
theorem mkL_get (i : Nat) : ∀ n k, k < n → (mkL i n).getD k 0 = mkB i k
  | 0, k, h => by omega
  | n + 1, k, h => by
    unfold mkL
    by_cases e : k < n
    · rw [show (mkL i n ++ [mkB i n]).getD k 0 = (mkL i n).getD k 0 from by simp [List.getD, List.getElem?_append_left (show k < (mkL i n).length by rw [mkL_length]; exact e)]]
      exact mkL_get i n k e
    · obtain rfl : k = n := by omega
      simp [List.getD, mkL_length]
set_option maxRecDepth 100000 in
theorem mark_run (i k : Nat) (_ : i ≤ 4000000) (_ : k ≤ 140737488355328) : Int.tdiv (k : Int) 251 = ((k / 251 : Nat) : Int) ∧ IntKind.u8.wrap ((i : Int) + ((k / 251 : Nat) : Int)) = mkB i k := by
  constructor
  · rw [Int.tdiv_eq_ediv_of_nonneg (by omega)]
    rfl
  · rw [IntKind.wrap_u8]
    unfold mkB
    omega
set_option maxRecDepth 100000 in
theorem marked_any (ao : Option Addr) (n cap i : Nat) (w : World) (hs : Sl w ao n cap (mkL i n)) (hi : i ≤ 4000000) : Calls Tryz.prog 68 #[.slice ao n cap, .int .i64 (i : Int)] w fun e u => e = .returned (.bool true) ∧ u = w := by
  have HS := hidden hs
  have hr := hs.hroom
  have hrI : (n : Int) ≤ 140737488355328 := by omega
  have hiI : (i : Int) ≤ 4000000 := by omega
  clear hs
  go_enter Tryz.func68, Tryz.ntmps68
  go_wp2_with fail
  go_loop [5] (fun x => ∃ k : Nat, k ≤ n ∧ x = .int .i64 (k : Int)) (fun x => n - (RowKit.intOf x).toNat)
  case atStart => exact ⟨0, by omega, rfl⟩
  case round =>
    obtain ⟨k, hk, rfl⟩ := hrel
    by_cases hlt : k < n
    · have hltI : (k : Int) < (n : Int) := by omega
      obtain ⟨b, off, rfl, hb, hc⟩ : ∃ b off, ao = some ⟨b, off, none⟩ ∧ b < w.heap.size ∧ ∀ j, j < n → w.cell? ⟨b, off + j, none⟩ = some (.int .u8 ((mkL i n).getD j 0)) := by
        rcases HS.out.hat with h | h
        · omega
        · exact h
      have hck := hc k hlt
      rw [mkL_get i n k hlt] at hck
      obtain ⟨m1, m2⟩ := mark_run i k hi (by omega)
      have m3 := mkB_ok i k
      obtain ⟨q, hq⟩ : ∃ q, k / 251 = q := ⟨_, rfl⟩
      rw [hq] at m1 m2
      have hqk : (q : Int) ≤ (k : Int) := by have := Nat.div_le_self k 251; omega
      have m4 : IntKind.i64.wrap ((i : Int) + (q : Int)) = (i : Int) + (q : Int) := by rw [IntKind.wrap_i64]; omega
      have m5 : IntKind.i64.wrap (q : Int) = (q : Int) := by rw [IntKind.wrap_i64]; omega
      generalize mkB i k = y at *
      clear hc hq
      go_wp2
      go_round
      case rel => exact ⟨k + 1, by omega, by go_num⟩
      case measure => simp [RowKit.intOf]; omega
    · obtain rfl : k = n := by omega
      have hlI : ¬ (k : Int) < (k : Int) := by omega
      go_wp2
      go_ret
      exact ⟨rfl, rfl⟩
set_option maxRecDepth 100000 in
/-- append(x, y): in its place, or anew. -/
theorem app_one (w : World) (B : Nat) (ty : TypeId) (v : Value) (l : List Int) (y : Int) (b : Nat) (hown : OwnB w B v l) (hc : w.cell? ⟨b, 0, none⟩ = some (.int .u8 y)) (hb : l.length + 1 ≤ 140737488355328) (hB : B ≤ w.heap.size) :
    ∃ v' w', (Builtin.append_ #[22, 22] ty #[v, .slice (some ⟨b, 0, none⟩) 1 1]).run Tryz.prog w = .ok v' w' ∧ OwnB w' B v' (l ++ [y]) ∧
      ((v'.ownBlock = v.ownBlock ∧ w.grownBy w' v.ownBlock) ∨ (Below w.heap.size w w' ∧ ∀ k, v'.ownBlock = some k → w.heap.size ≤ k)) := by
  obtain ⟨i0, hi, hz0, hz1, hz2⟩ := info_parts info5
  have hnews : ∀ j u, (By [y])[j]? = some u → w.cell? ((⟨b, 0, none⟩ : Addr).add j) = some u := fun j u hu => by
    obtain ⟨h1, rfl⟩ := getElem?_By [y] j u hu
    have hj : j = 0 := by simpa using h1
    subst hj
    simpa [Addr.add_lit] using hc
  obtain ⟨v', w', hr, h2, h3, h4⟩ := run_append_own (P := Tryz.prog) w B 22 ty 5 i0 (.int .u8 0) 1 1 Tryz.underlying22 hi hz0 hz1 hz2 rfl (by decide) v l.length (By l) hown ⟨b, 0, none⟩ 1 1 (By [y]) rfl hnews (By_one [y]) (by unfold maxLen; omega) (by omega) hB
  refine ⟨v', w', hr, ?_, ?_⟩
  · unfold OwnB
    rw [By_append, List.length_append]
    exact h2
  · rcases hown.2 with ⟨rfl, h0⟩ | ⟨g, cap, cur, rfl, hbg, hg, hnc, hcm, hcs, htake⟩
    · have hr' := run_append_nil (P := Tryz.prog) w 22 ty 5 i0 (.int .u8 0) Tryz.underlying22 hi hz0 ⟨b, 0, none⟩ 1 1 (By [y]) (by rw [hz1]; rfl) hnews (by omega) (by omega) (by rw [hz2]; omega)
      rw [hr] at hr'
      injection hr' with e1 e2
      refine .inr ⟨by rw [e2]; exact (Below.refl _ _).drew.alloc (Nat.le_refl _) _, fun k hk => ?_⟩
      rw [e1] at hk
      injection hk with hk
      have : w.heap.size = k := hk
      omega
    · by_cases hroom : l.length + 1 ≤ cap
      · have hr' := run_append_room (P := Tryz.prog) w 22 ty 5 i0 Tryz.underlying22 hi g l.length cap cur hg ⟨b, 0, none⟩ 1 1 (By [y]) (by rw [hz1]; rfl) hnews (By_one [y]) hroom (by rw [hz1]; simp only [By_length, List.length_cons, List.length_nil]; omega)
        rw [hr] at hr'
        injection hr' with e1 e2
        exact .inl ⟨by rw [e1]; rfl, h3⟩
      · have holds : ∀ j u, (By l)[j]? = some u → w.cell? ((⟨g, 0, none⟩ : Addr).add j) = some u := World.ownsRow.cells (show w.ownsRow B 5 1 _ _ _ from hown) (g := g) rfl
        have hr' := run_append_grow (P := Tryz.prog) w 22 ty 5 i0 (.int .u8 0) Tryz.underlying22 hi hz0 ⟨g, 0, none⟩ l.length cap (By l) (by rw [hz1]; simp [By]) holds ⟨b, 0, none⟩ 1 1 (By [y]) (by rw [hz1]; rfl) hnews (by omega) (by omega) (by rw [hz2]; exact growslice_fits (by omega) (by omega))
        rw [hr] at hr'
        injection hr' with e1 e2
        refine .inr ⟨by rw [e2]; exact (Below.refl _ _).drew.alloc (Nat.le_refl _) _, fun k hk => ?_⟩
        rw [e1] at hk
        injection hk with hk
        have : w.heap.size = k := hk
        omega
/-- A slice of the marks i that is not touched, or that what is grown begins with. -/
structure Pk (w : World) (x : Value) (i L : Nat) (ao : Option Addr) (n cap j : Nat) : Prop where
  sl : Sl w ao n cap (mkL j n)
  far : Far ao n x ∨ (j = i ∧ n ≤ L ∧ ∃ g, ao = some ⟨g, 0, none⟩ ∧ x.ownBlock = some g)
set_option maxRecDepth 100000 in
theorem OwnB.marks {w : World} {B : Nat} {x : Value} {i L g : Nat} (h : OwnB w B x (mkL i L)) (hg : x.ownBlock = some g) {n cap : Nat} (hn : n ≤ L) (hc : n ≤ cap) (hr : n ≤ 140737488355328) : Sl w (some ⟨g, 0, none⟩) n cap (mkL i n) := by
  have hb := h
  unfold OwnB at hb
  rcases hb.2 with ⟨rfl, _⟩ | ⟨g', c, cur, rfl, _, hh, _⟩
  · cases hg
  · injection hg with hg
    have hg' : g' = g := hg
    subst hg'
    refine ⟨mkL_length i n, hc, hr, mkL_wf i n, (by intro h; cases h), .inr ⟨g', 0, rfl, lt_some hh, fun k hk => ?_⟩⟩
    rw [Nat.zero_add, own_cell h rfl (by rw [mkL_length]; omega), mkL_get i L k (by omega), mkL_get i n k hk]
set_option maxRecDepth 100000 in
theorem Pk.app {w w' : World} {B : Nat} {x x' : Value} {i L : Nat} {ao : Option Addr} {n cap j : Nat} (h : Pk w x i L ao n cap j) (ho : OwnB w' B x' (mkL i (L + 1)))
    (hc : (x'.ownBlock = x.ownBlock ∧ w.grownBy w' x.ownBlock) ∨ (Below w.heap.size w w' ∧ ∀ k, x'.ownBlock = some k → w.heap.size ≤ k)) : Pk w' x' i (L + 1) ao n cap j := by
  rcases hc with ⟨e, hg⟩ | ⟨hb, hn⟩
  · rcases h.far with hf | ⟨rfl, hl, g, rfl, hx⟩
    · refine ⟨h.sl.gr (v' := x') ⟨hg, .inl e⟩ hf, .inl ?_⟩
      rcases hf with hf | hf
      · exact .inl hf
      · right
        rw [e]
        exact hf
    · exact ⟨ho.marks (by rw [e]; exact hx) (by omega) h.sl.hcap h.sl.hroom, .inr ⟨rfl, by omega, g, rfl, by rw [e]; exact hx⟩⟩
  · refine ⟨h.sl.on (Nat.le_refl _) hb, .inl ?_⟩
    rcases h.sl.hat with h0 | ⟨b, off, rfl, hlt, _⟩
    · exact .inl h0
    · right
      intro p hp e
      cases hp
      have := hn _ e
      simp only at this
      omega
set_option maxRecDepth 100000 in
theorem Pk.on {w w' : World} {x : Value} {i L : Nat} {ao : Option Addr} {n cap j : Nat} (h : Pk w x i L ao n cap j) (hb : Below w.heap.size w w') : Pk w' x i L ao n cap j := ⟨h.sl.on (Nat.le_refl _) hb, h.far⟩
end Go.Proofs.YtobfkcepjnjfpaaGreatDoor
