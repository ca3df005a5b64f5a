/- Three cells that may be fit; cells appended to cells. -/
import Derived.Test.YtphjnahmbdinmaaGreatDoorJ33
import Derived.Test.YtphjnahmbdinmaaGreatDoorJ32
namespace Go.Proofs.YtphjnahmbdinmaaGreatDoor
open Go.RowKit

set_option maxRecDepth 100000 in
theorem kl_total : ∀ (a b : List Int), ¬ kl a b → a ≠ b → kl b a
  | [], [], _, h => absurd rfl h
  | [], _ :: _, h, _ => absurd (by simp [kl, ordL]) h
  | _ :: _, [], _, _ => by simp [kl, ordL]
  | x :: a, y :: b, h, g => by
    have ih := kl_total a b
    unfold kl at *
    simp only [ordL] at h ⊢
    by_cases h1 : x < y
    · rw [if_pos h1] at h
      exact absurd rfl h
    · rw [if_neg h1] at h
      by_cases h2 : y < x
      · rw [if_pos h2]
      · rw [if_neg h2] at h
        rw [if_neg h2, if_neg h1]
        obtain rfl : x = y := by omega
        exact ih h (fun e => g (by rw [e]))
/-- The keys rise. -/
def Rs (cs : List Cl) : Prop := cs.Pairwise fun c d => kl c.key d.key
set_option maxRecDepth 100000 in
theorem rs_ins {ds : List Cl} {c : Cl} {r : Nat} (hr : Rs ds) (hf : Fnd ds c.key r) (hne : ∀ d ∈ ds, d.key ≠ c.key) : Rs (ds.take r ++ c :: ds.drop r) := by
  unfold Rs at *
  have hlo : ∀ d ∈ ds.take r, kl d.key c.key := by
    intro d hd
    obtain ⟨i, hi, e⟩ := List.getElem_of_mem hd
    rw [List.length_take] at hi
    exact hf.lo i d (by omega) (by rw [List.getElem_take] at e; rw [← e]; exact List.getElem?_eq_getElem (by omega))
  have hhi : ∀ d ∈ ds.drop r, kl c.key d.key := by
    intro d hd
    obtain ⟨i, hi, e⟩ := List.getElem_of_mem hd
    rw [List.length_drop] at hi
    rw [List.getElem_drop] at e
    exact kl_total _ _ (hf.hi (r + i) d (by omega) (by rw [← e]; exact List.getElem?_eq_getElem (by omega))) (hne d (List.mem_of_mem_drop hd))
  have hs : (ds.take r ++ ds.drop r).Pairwise fun c d => kl c.key d.key := by rw [List.take_append_drop]; exact hr
  rw [List.pairwise_append] at hs ⊢
  refine ⟨hs.1, List.pairwise_cons.2 ⟨hhi, hs.2.1⟩, fun a ha b hb => ?_⟩
  rcases List.mem_cons.1 hb with rfl | hb
  · exact hlo a ha
  · exact hs.2.2 a ha b hb
set_option maxRecDepth 100000 in
theorem rs_rise {ds : List Cl} (h : Rs ds) : Rise ds := by
  intro i j c d hij hc hd
  obtain ⟨hi, e1⟩ := List.getElem?_eq_some_iff.1 hc
  obtain ⟨hj, e2⟩ := List.getElem?_eq_some_iff.1 hd
  have := List.pairwise_iff_getElem.1 h i j hi hj hij
  rwa [e1, e2] at this
set_option maxRecDepth 100000 in
theorem chk_of {k p : Int} : ∀ (pr : Option (List Int)) (ds : List Cl), (∀ c ∈ ds, mayP k p c) → Rs ds → (∀ c ∈ ds, ahead pr c.key) → chk k p pr ds = 0
  | _, [], _, _, _ => rfl
  | pr, c :: r, h1, h2, h3 => by
    unfold Rs at h2
    rw [List.pairwise_cons] at h2
    rw [chk, if_pos (h1 c (by simp)), if_pos (h3 c (by simp))]
    exact chk_of _ r (fun d hd => h1 d (by simp [hd])) h2.2 (fun d hd => h2.1 d hd)
set_option maxRecDepth 100000 in
theorem may_tk {k p : Int} {c : Cl} (h : mayP k p c) (hp : 512 ≤ p) : (ctk c : Int) ≤ 7 + p / 8 + p / 16 * 3 := by
  obtain ⟨h1, h2⟩ := h
  unfold ctk
  rcases h2 with ⟨e, h3, h4, h5⟩ | ⟨e, h3, ⟨h4, h5, h6⟩ | ⟨h4, h5, h6⟩ | ⟨h4, h5, h6⟩⟩
  · rw [if_neg (by omega)]; omega
  · rw [if_pos h4]; omega
  · rw [if_neg (by omega)]; omega
  · rw [if_neg (by omega)]; omega
set_option maxRecDepth 100000 in
theorem three_fit {k p : Int} {ds : List Cl} (h : ∀ c ∈ ds, mayP k p c) (hp : pw p) (hl : ds.length ≤ 3) : (szN ds : Int) ≤ p := by
  have hb := pw_le hp
  have h1 : ∀ (es : List Cl), (∀ c ∈ es, mayP k p c) → ((es.map ctk).sum : Int) ≤ es.length * (7 + p / 8 + p / 16 * 3) := by
    intro es
    induction es with
    | nil => intro _; simp
    | cons c r ih =>
      intro hc
      have a := may_tk (hc c (by simp)) hb.1
      have b := ih fun d hd => hc d (by simp [hd])
      simp only [List.map_cons, List.sum_cons, List.length_cons]
      rw [show ((r.length + 1 : Nat) : Int) = (r.length : Int) + 1 by omega, Int.add_mul, Int.one_mul]
      push_cast
      omega
  have h2 := h1 ds h
  unfold szN
  have h3 : (ds.length : Int) * (7 + p / 8 + p / 16 * 3) ≤ 3 * (7 + p / 8 + p / 16 * 3) := Int.mul_le_mul_of_nonneg_right (by omega) (by omega)
  push_cast
  omega
set_option maxRecDepth 100000 in
theorem enc_one {k p : Int} {c : Cl} : (encE k p [c] = 0 ∧ isKd k ∧ pw p ∧ mayP k p c) ∨ encE k p [c] = 1 ∨ encE k p [c] = 62 := by
  unfold encE
  by_cases h1 : isKd k ∧ pw p
  · rw [if_pos h1]
    by_cases h2 : mayP k p c
    · have h3 : chk k p none [c] = 0 := by simp [chk, h2, ahead]
      have h4 := three_fit (k := k) (p := p) (ds := [c]) (by simpa using h2) h1.2 (by simp)
      rw [if_pos h3, if_neg (by omega)]
      exact .inl ⟨rfl, h1.1, h1.2, h2⟩
    · have h3 : chk k p none [c] = 62 := by simp [chk, h2]
      rw [h3, if_neg (by omega)]
      exact .inr (.inr rfl)
  · rw [if_neg h1]
    exact .inr (.inl rfl)
set_option maxRecDepth 100000 in
theorem enc_all {k p : Int} {ds : List Cl} (h1 : isKd k) (h2 : pw p) (h3 : ∀ c ∈ ds, mayP k p c) (h4 : Rs ds) (h5 : ds.length ≤ 3) : encE k p ds = 0 := by
  have h6 := three_fit h3 h2 h5
  unfold encE
  rw [if_pos ⟨h1, h2⟩, if_pos (chk_of none ds h3 h4 fun _ _ => trivial), if_neg (by omega)]

/-- Values that are cells. -/
def Row5 (w : World) : List Value → List Cl → Prop
  | vs, [] => vs = []
  | vs, c :: r => ∃ ka kc va vc t, vs = .slice ka c.key.length kc :: .int .i64 c.kd :: .slice va c.val.length vc :: .int .i64 c.pg :: .int .i64 c.ct :: t ∧ Sl w ka c.key.length kc c.key ∧ Sl w va c.val.length vc c.val ∧ Row5 w t r
set_option maxRecDepth 100000 in
theorem Row5.append {w : World} {us : List Value} {ds : List Cl} (g : Row5 w us ds) : ∀ {vs : List Value} {cs : List Cl}, Row5 w vs cs → Row5 w (vs ++ us) (cs ++ ds)
  | vs, [], h => by
    unfold Row5 at h
    subst h
    exact g
  | vs, c :: r, h => by
    obtain ⟨ka, kc, va, vc, t, rfl, h1, h2, h3⟩ := h
    exact ⟨ka, kc, va, vc, t ++ us, rfl, h1, h2, Row5.append g h3⟩
set_option maxRecDepth 100000 in
theorem Row5.len {w : World} : ∀ {vs : List Value} {cs : List Cl}, Row5 w vs cs → vs.length = cs.length * 5
  | vs, [], h => by
    unfold Row5 at h
    subst h
    rfl
  | vs, c :: r, h => by
    obtain ⟨ka, kc, va, vc, t, rfl, h1, h2, h3⟩ := h
    have := h3.len
    simp only [List.length_cons]
    omega
set_option maxRecDepth 100000 in
theorem Row5.one {w : World} : ∀ {vs : List Value} {cs : List Cl}, Row5 w vs cs → ∀ u ∈ vs, u.oneCell' = true
  | vs, [], h, u, hu => by
    unfold Row5 at h
    subst h
    cases hu
  | vs, c :: r, h, u, hu => by
    obtain ⟨ka, kc, va, vc, t, rfl, h1, h2, h3⟩ := h
    simp only [List.mem_cons] at hu
    rcases hu with rfl | rfl | rfl | rfl | rfl | hu
    · rfl
    · rfl
    · rfl
    · rfl
    · rfl
    · exact h3.one u hu
set_option maxRecDepth 100000 in
theorem Row5.cat {w w' : World} {b : Nat} (hB : Below w.heap.size w w') : ∀ {vs : List Value} {cs : List Cl} (off : Nat), Row5 w vs cs → (∀ j u, vs[j]? = some u → w'.cell? ⟨b, off + j, none⟩ = some u) → ∀ i c, cs[i]? = some c → CAt w' b (off + i * 5) c
  | vs, [], off, h, hc, i, c, hi => by simp at hi
  | vs, d :: r, off, h, hc, 0, c, hi => by
    obtain ⟨ka, kc, va, vc, t, rfl, h1, h2, h3⟩ := h
    simp at hi
    subst hi
    exact ⟨ka, kc, va, vc, hc 0 _ rfl, hc 1 _ rfl, hc 2 _ rfl, hc 3 _ rfl, hc 4 _ rfl, h1.on (Nat.le_refl _) hB, h2.on (Nat.le_refl _) hB⟩
  | vs, d :: r, off, h, hc, i + 1, c, hi => by
    obtain ⟨ka, kc, va, vc, t, rfl, h1, h2, h3⟩ := h
    have := Row5.cat hB (off + 5) h3 (fun j u hu => by
      have := hc (j + 5) u (by simpa using hu)
      rwa [show off + (j + 5) = off + 5 + j by omega] at this) i c (by simpa using hi)
    rwa [show off + 5 + i * 5 = off + (i + 1) * 5 by omega] at this
set_option maxRecDepth 100000 in
theorem row5_of {w : World} {b : Nat} : ∀ (cs : List Cl) (off : Nat), (∀ i c, cs[i]? = some c → CAt w b (off + i * 5) c) → ∃ vs, Row5 w vs cs ∧ ∀ j u, vs[j]? = some u → w.cell? ⟨b, off + j, none⟩ = some u
  | [], off, _ => ⟨[], rfl, fun j u hu => by simp at hu⟩
  | c :: r, off, h => by
    obtain ⟨t, h1, h2⟩ := row5_of r (off + 5) fun i d hd => by
      have := h (i + 1) d (by simpa using hd)
      rwa [show off + (i + 1) * 5 = off + 5 + i * 5 by omega] at this
    obtain ⟨ka, kc, va, vc, c0, c1, c2, c3, c4, hk, hv⟩ := h 0 c rfl
    refine ⟨_, ⟨ka, kc, va, vc, t, rfl, hk, hv, h1⟩, fun j u hu => ?_⟩
    match j, hu with
    | 0, hu => simp at hu; subst hu; simpa using c0
    | 1, hu => simp at hu; subst hu; simpa using c1
    | 2, hu => simp at hu; subst hu; simpa using c2
    | 3, hu => simp at hu; subst hu; simpa using c3
    | 4, hu => simp at hu; subst hu; simpa using c4
    | j + 5, hu =>
      have := h2 j u (by simpa using hu)
      rwa [show off + 5 + j = off + (j + 5) by omega] at this

/-- THE SLICE VALUE v OWNS THE CELLS cs; their keys and values are w0's. -/
def OwnK (w0 w : World) (v : Value) (cs : List Cl) : Prop := ∃ vs, w.ownsRow w0.heap.size 40 5 v cs.length vs ∧ Row5 w0 vs cs
set_option maxRecDepth 100000 in
theorem OwnK.nil (w0 w : World) : OwnK w0 w (.slice none 0 0) [] := ⟨[], World.ownsRow_nil _ _ _ _, rfl⟩
set_option maxRecDepth 100000 in
theorem OwnK.go {w0 w w' : World} {v : Value} {cs : List Cl} (h : OwnK w0 w v cs) (hb : Below w.heap.size w w') : OwnK w0 w' v cs := by
  obtain ⟨vs, h1, h2⟩ := h
  refine ⟨vs, World.ownsRow.kept (row := none) h1 ⟨hb.os, hb.tape, hb.output, hb.size, fun k hk _ => hb.block k hk⟩ ?_, h2⟩
  cases hv : v.ownBlock with
  | none => exact .inl rfl
  | some k => exact .inr (by simp)
set_option maxRecDepth 100000 in
theorem OwnK.slc {w0 w : World} {v : Value} {cs : List Cl} (h : OwnK w0 w v cs) (hb : Below w0.heap.size w0 w) (hl : cs.length ≤ 1000) : ∃ ao cap, v = .slice ao cs.length cap ∧ SlC w ao cs.length cap cs := by
  obtain ⟨vs, h1, h2⟩ := h
  rcases h1.2 with ⟨rfl, h0⟩ | ⟨g, cap, cur, rfl, hg, hh, hnc, hm, hs, ht⟩
  · rw [h0]
    exact ⟨none, 0, rfl, ⟨h0, Nat.le_refl _, by omega, fun _ => rfl, .inl rfl⟩⟩
  · refine ⟨_, cap, rfl, ⟨rfl, hnc, by omega, (by intro h; cases h), .inr ⟨g, 0, rfl, lt_some hh, ?_⟩⟩⟩
    exact Row5.cat hb 0 h2 (fun j u hu => by
      have := World.ownsRow.cells h1 (g := g) rfl j u hu
      simpa [Addr.add_lit] using this)
set_option maxRecDepth 100000 in
/-- 'append(m, x...)', m the call's own or nil, x some cells. -/
theorem app_ck {ops : Array Oper} {rest : List Oper} {o : Oper} {a : Act} {Q : Exit → Act → World → Prop} (w0 w : World) (hgd : o.guard = none) (s x : Operand)
    (ho : o.op = .call { callee := .builtin .append, args := #[s, x], argTypes := #[32, 32] }) (cs ds : List Cl) (v : Value) (ao : Option Addr) (n c : Nat) (hs : a.eval s = v) (hx : a.eval x = .slice ao n c)
    (hown : OwnK w0 w v cs) (hn : ds.length = n) (hsl : (ao = none ∧ n = 0 ∧ c = 0) ∨ ∃ b off us, ao = some ⟨b, off, none⟩ ∧ Row5 w0 us ds ∧ ∀ j u, us[j]? = some u → w.cell? ⟨b, off + j, none⟩ = some u) (hb : cs.length + n ≤ 1000) (hbase : Below w0.heap.size w0 w)
    (h : ∀ v' w', Hid (OwnK w0 w' v' (cs ++ ds)) → Hid (Below w0.heap.size w0 w') → wpList Tryz.prog ops Q rest (a.put o.dst v') w') : wpList Tryz.prog ops Q (o :: rest) a w := by
  obtain ⟨i0, hi, hz0, hz1, hz2⟩ := info_parts infoC
  obtain ⟨vs, h1, h2⟩ := hown
  rcases hsl with ⟨rfl, rfl, rfl⟩ | ⟨b, off, us, rfl, hr, hc⟩
  · obtain rfl : ds = [] := List.eq_nil_of_length_eq_zero hn
    exact wpList_append_own_none hgd s x 32 ho w0.heap.size 40 i0 5 Tryz.underlying32 hi v cs.length vs hs h1 hx (h v w (hidden ⟨vs, by simpa using h1, by simpa using h2⟩) (hidden hbase))
  · refine wpList_append_own_at w hgd s x 32 ho w0.heap.size 40 i0 _ 5 72 Tryz.underlying32 hi hz0 hz1 hz2 rfl (by decide) v cs.length vs hs h1 ⟨b, off, none⟩ n c us hx (by rw [hr.len, hn])
      (fun j u hu => by
        rw [Addr.add_lit]
        exact hc j u hu) hr.one (by unfold maxLen; omega) (by omega) hbase.size ?_
    intro v' w' g1 g2 _ _
    refine h v' w' (hidden ⟨vs ++ us, ?_, Row5.append hr h2⟩) (hidden ?_)
    · rw [List.length_append, hn]
      exact g1
    · exact hbase.trans (own_below h1 hbase.size g2)
end Go.Proofs.YtphjnahmbdinmaaGreatDoor

/- Layer 6: a row of cells of one's own, whose keys and values are one's own too. -/

namespace Go.Proofs.YtphjnahmbdinmaaGreatDoor
open Go.RowKit

/-- The values of cells, their bytes one's own. -/
def R5B (w : World) (B : Nat) : List Value → List Cl → Prop
  | vs, [] => vs = []
  | vs, c :: r => ∃ ka kc va vc t, vs = .slice ka c.key.length kc :: .int .i64 c.kd :: .slice va c.val.length vc :: .int .i64 c.pg :: .int .i64 c.ct :: t ∧ OwnB w B (.slice ka c.key.length kc) c.key ∧ OwnB w B (.slice va c.val.length vc) c.val ∧ R5B w B t r
set_option maxRecDepth 100000 in
theorem R5B.append {w : World} {B : Nat} {us : List Value} {ds : List Cl} (g : R5B w B us ds) : ∀ {vs : List Value} {cs : List Cl}, R5B w B vs cs → R5B w B (vs ++ us) (cs ++ ds)
  | vs, [], h => by
    unfold R5B at h
    subst h
    exact g
  | vs, c :: r, h => by
    obtain ⟨ka, kc, va, vc, t, rfl, h1, h2, h3⟩ := h
    exact ⟨ka, kc, va, vc, t ++ us, rfl, h1, h2, R5B.append g h3⟩
set_option maxRecDepth 100000 in
theorem R5B.keep {w w' : World} {B : Nat} (hk : ∀ v l, OwnB w B v l → OwnB w' B v l) : ∀ {vs : List Value} {cs : List Cl}, R5B w B vs cs → R5B w' B vs cs
  | vs, [], h => h
  | vs, c :: r, h => by
    obtain ⟨ka, kc, va, vc, t, rfl, h1, h2, h3⟩ := h
    exact ⟨ka, kc, va, vc, t, rfl, hk _ _ h1, hk _ _ h2, R5B.keep hk h3⟩
set_option maxRecDepth 100000 in
theorem R5B.row {w : World} {B : Nat} (hl : ∀ v l, OwnB w B v l → True) : ∀ {vs : List Value} {cs : List Cl}, R5B w B vs cs → (∀ c ∈ cs, c.Wf ∧ c.key.length ≤ 140737488355328 ∧ c.val.length ≤ 140737488355328) → Row5 w vs cs
  | vs, [], h, _ => h
  | vs, c :: r, h, hw => by
    obtain ⟨ka, kc, va, vc, t, rfl, h1, h2, h3⟩ := h
    have hc := hw c (by simp)
    exact ⟨ka, kc, va, vc, t, rfl, own_sl6 h1 hc.1.1 hc.2.1, own_sl6 h2 hc.1.2 hc.2.2, R5B.row hl h3 (fun d hd => hw d (by simp [hd]))⟩
/-- A ROW OF CELLS OF ONE'S OWN. -/
def OwnD (w : World) (B : Nat) (v : Value) (cs : List Cl) : Prop := ∃ vs, w.ownsRow B 40 5 v cs.length vs ∧ R5B w B vs cs
set_option maxRecDepth 100000 in
theorem OwnD.nil (w : World) (B : Nat) : OwnD w B (.slice none 0 0) [] := ⟨[], World.ownsRow_nil _ _ _ _, rfl⟩
set_option maxRecDepth 100000 in
theorem OwnD.on {w w' : World} {B : Nat} {v : Value} {cs : List Cl} (h : OwnD w B v cs) (hb : Below w.heap.size w w') : OwnD w' B v cs := by
  obtain ⟨vs, h1, h2⟩ := h
  refine ⟨vs, World.ownsRow.kept (row := none) h1 ⟨hb.os, hb.tape, hb.output, hb.size, fun k hk _ => hb.block k hk⟩ ?_, h2.keep (fun v l h => h.on (Nat.le_refl _) hb)⟩
  cases hv : v.ownBlock with
  | none => exact .inl rfl
  | some k => exact .inr (by simp)
set_option maxRecDepth 100000 in
/-- Bytes of one's own lie not in a row of cells. -/
theorem own_apart {w : World} {B n : Nat} {v u : Value} {vs : List Value} {l : List Int} (h : w.ownsRow B 40 5 v n vs) (k : OwnB w B u l) : u.ownBlock = none ∨ u.ownBlock ≠ v.ownBlock := by
  rcases h.2 with ⟨rfl, _⟩ | ⟨g, c, cur, rfl, _, hh, _⟩
  · cases hu : u.ownBlock with
    | none => exact .inl rfl
    | some z => exact .inr (by simp [Value.ownBlock])
  · rcases k.2 with ⟨rfl, _⟩ | ⟨g', c', cur', rfl, _, hh', _⟩
    · exact .inl (by simp [Value.ownBlock])
    · right
      intro e
      have e' : g' = g := by simpa [Value.ownBlock] using e
      rw [e'] at hh'
      rw [hh'] at hh
      simp at hh
set_option maxRecDepth 100000 in
/-- 'append(l, c)', the cell's bytes one's own. -/
theorem app_cd {ops : Array Oper} {rest : List Oper} {o : Oper} {a : Act} {Q : Exit → Act → World → Prop} (w : World) (hgd : o.guard = none) (s x : Operand)
    (ho : o.op = .call { callee := .builtin .append, args := #[s, x], argTypes := #[32, 32] }) (B : Nat) (cs : List Cl) (c : Cl) (v : Value) (b : Nat) (us : List Value) (hs : a.eval s = v) (hx : a.eval x = .slice (some ⟨b, 0, none⟩) 1 1)
    (hown : OwnD w B v cs) (hr : R5B w B us [c]) (hc : ∀ j u, us[j]? = some u → w.cell? ⟨b, 0 + j, none⟩ = some u) (hb : cs.length + 1 ≤ 200000) (hbase : B ≤ w.heap.size)
    (h : ∀ v' w', Hid (OwnD w' B v' (cs ++ [c])) → Hid (Below B w w') → wpList Tryz.prog ops Q rest (a.put o.dst v') w') : wpList Tryz.prog ops Q (o :: rest) a w := by
  obtain ⟨i0, hi, hz0, hz1, hz2⟩ := info_parts infoC
  obtain ⟨vs, h1, h2⟩ := hown
  have hlen : us.length = 1 * 5 := by
    obtain ⟨ka, kc, va, vc, t, rfl, _, _, h3⟩ := hr
    unfold R5B at h3
    subst h3
    rfl
  have hone : ∀ u ∈ us, u.oneCell' = true := by
    obtain ⟨ka, kc, va, vc, t, rfl, _, _, h3⟩ := hr
    unfold R5B at h3
    subst h3
    intro u hu
    simp only [List.mem_cons, List.not_mem_nil, or_false] at hu
    rcases hu with rfl | rfl | rfl | rfl | rfl <;> rfl
  refine wpList_append_own_at w hgd s x 32 ho B 40 i0 _ 5 72 Tryz.underlying32 hi hz0 hz1 hz2 rfl (by decide) v cs.length vs hs h1 ⟨b, 0, none⟩ 1 1 us hx hlen
    (fun j u hu => by
      rw [Addr.add_lit]
      exact hc j u hu) hone (by unfold maxLen; omega) (by omega) hbase ?_
  intro v' w' g1 g2 _ _
  have hkp : ∀ u l, OwnB w B u l → OwnB w' B u l := fun u l hu => World.ownsRow.kept hu g2 (own_apart h1 hu)
  refine h v' w' (hidden ⟨vs ++ us, ?_, R5B.append (hr.keep hkp) (h2.keep hkp)⟩) (hidden (own_below h1 hbase g2))
  rw [List.length_append]
  exact g1
end Go.Proofs.YtphjnahmbdinmaaGreatDoor

/- Layer 6: what the document's Decode has read, against what a page is. -/

namespace Go.Proofs.YtphjnahmbdinmaaGreatDoor
open Go.RowKit

/-- The cells that the slots up to j lead to. -/
def Rdd (l : List Int) (ds : List Cl) (j : Nat) : Prop := ds.length = j ∧ ∀ (t : Nat) (c : Cl), ds[t]? = some c → ∃ r, pCell (l.drop (rdN l (4 + 2 * t) 2).toNat) = some (c, r)
set_option maxRecDepth 100000 in
theorem Rdd.nil (l : List Int) : Rdd l [] 0 := ⟨rfl, fun t c h => by simp at h⟩
set_option maxRecDepth 100000 in
theorem Rdd.step {l : List Int} {ds : List Cl} {j : Nat} {c : Cl} {r : List Int} (h : Rdd l ds j) (hc : pCell (l.drop (rdN l (4 + 2 * j) 2).toNat) = some (c, r)) : Rdd l (ds ++ [c]) (j + 1) := by
  obtain ⟨h1, h2⟩ := h
  refine ⟨by simp [h1], fun t d hd => ?_⟩
  by_cases ht : t < ds.length
  · rw [List.getElem?_append_left ht] at hd
    exact h2 t d hd
  · have htl : t < (ds ++ [c]).length := (List.getElem?_eq_some_iff.1 hd).1
    have htj : t = j := by simp at htl; omega
    subst htj
    rw [List.getElem?_append_right (by omega), h1, Nat.sub_self] at hd
    simp at hd
    subst hd
    exact ⟨r, hc⟩
set_option maxRecDepth 100000 in
/-- Of a page: no slot is refused, and what is read are its cells. -/
theorem Is.goes {k : Int} {n : Nat} {cs : List Cl} {l : List Int} (h : Is k n cs l) {j N : Nat} (hN : rdN l 2 2 = N) (hj : j < N) : 4 + 2 * j + 2 ≤ n ∧ ∃ c r, pCell (l.drop (rdN l (4 + 2 * j) 2).toNat) = some (c, r) := by
  obtain ⟨h1, _, h3⟩ := h.slots
  have hl : j < cs.length := by omega
  obtain ⟨h4, s, hs, _, r, hr⟩ := h3 j cs[j] (List.getElem?_eq_getElem hl)
  refine ⟨h4, cs[j], r, ?_⟩
  rw [hs, Int.toNat_natCast]
  exact hr
set_option maxRecDepth 100000 in
theorem Is.read {k : Int} {n : Nat} {cs ds : List Cl} {l : List Int} (h : Is k n cs l) {N : Nat} (hN : rdN l 2 2 = N) (hd : Rdd l ds N) : ds = cs := by
  obtain ⟨h1, _, h3⟩ := h.slots
  obtain ⟨d1, d2⟩ := hd
  apply List.ext_getElem?
  intro t
  by_cases ht : t < N
  · have a1 : t < ds.length := by omega
    have a2 : t < cs.length := by omega
    obtain ⟨_, s, hs, _, r, hr⟩ := h3 t cs[t] (List.getElem?_eq_getElem a2)
    obtain ⟨r', hr'⟩ := d2 t ds[t] (List.getElem?_eq_getElem a1)
    rw [hs, Int.toNat_natCast, hr] at hr'
    injection hr' with e
    injection e with e1 e2
    rw [List.getElem?_eq_getElem a1, List.getElem?_eq_getElem a2, e1]
  · rw [List.getElem?_eq_none (by omega), List.getElem?_eq_none (by omega)]
set_option maxRecDepth 100000 in
theorem Rdd.wf {l : List Int} {ds : List Cl} {j : Nat} (h : Rdd l ds j) (hw : Wf l) : ∀ c ∈ ds, c.Wf ∧ c.key.length ≤ 140737488355328 ∧ c.val.length ≤ 140737488355328 := by
  intro c hc
  obtain ⟨i, hi, e⟩ := List.getElem_of_mem hc
  obtain ⟨r, hr⟩ := h.2 i c (by rw [List.getElem?_eq_getElem hi, e])
  obtain ⟨_, hf, hcw, _⟩ := pCell_inv (hw.drop _) hr
  have := hf.key
  have := hf.val
  exact ⟨hcw, by omega, by omega⟩
set_option maxRecDepth 100000 in
theorem OwnD.slc {w : World} {B : Nat} {v : Value} {cs : List Cl} (h : OwnD w B v cs) (hw : ∀ c ∈ cs, c.Wf ∧ c.key.length ≤ 140737488355328 ∧ c.val.length ≤ 140737488355328) (hl : cs.length ≤ 200000) : ∃ ao cap, v = .slice ao cs.length cap ∧ SlC w ao cs.length cap cs := by
  obtain ⟨vs, h1, h2⟩ := h
  have hr := R5B.row (fun _ _ _ => trivial) h2 hw
  rcases h1.2 with ⟨rfl, h0⟩ | ⟨g, cap, cur, rfl, hg, hh, hnc, hm, hs, ht⟩
  · rw [h0]
    exact ⟨none, 0, rfl, ⟨h0, Nat.le_refl _, by omega, fun _ => rfl, .inl rfl⟩⟩
  · refine ⟨_, cap, rfl, ⟨rfl, hnc, by omega, (by intro h; cases h), .inr ⟨g, 0, rfl, lt_some hh, ?_⟩⟩⟩
    exact Row5.cat (Below.refl _ _) 0 hr (fun j u hu => by
      have := World.ownsRow.cells h1 (g := g) rfl j u hu
      simpa [Addr.add_lit] using this)
end Go.Proofs.YtphjnahmbdinmaaGreatDoor

/- Layer 6: the document's page: rows of cells that are made anew, and Copied. -/

namespace Go.Proofs.YtphjnahmbdinmaaGreatDoor
open Go.RowKit

/-- Values whose blocks are of K. -/
def KV (K : Nat → Prop) (vs : List Value) : Prop := ∀ u ∈ vs, ∀ z, u.ownBlock = some z → K z
set_option maxRecDepth 100000 in
theorem KV.app {K : Nat → Prop} {vs us : List Value} (h : KV K vs) (g : KV K us) : KV K (vs ++ us) := fun u hu => by
  rcases List.mem_append.1 hu with hu | hu
  · exact h u hu
  · exact g u hu
/-- A row of cells in a block from C on, the cells' bytes from B on, in blocks of K. -/
def OwnR (w : World) (C B : Nat) (K : Nat → Prop) (v : Value) (cs : List Cl) : Prop := ∃ vs, w.ownsRow C 40 5 v cs.length vs ∧ R5B w B vs cs ∧ KV K vs
set_option maxRecDepth 100000 in
theorem OwnR.nil (w : World) (C B : Nat) (K : Nat → Prop) : OwnR w C B K (.slice none 0 0) [] := ⟨[], World.ownsRow_nil _ _ _ _, rfl, fun u hu => (by simp at hu)⟩
set_option maxRecDepth 100000 in
theorem OwnR.wide {w : World} {C B : Nat} {K J : Nat → Prop} {v : Value} {cs : List Cl} (h : OwnR w C B K v cs) (hK : ∀ z, K z → J z) : OwnR w C B J v cs := by
  obtain ⟨vs, h1, h2, h3⟩ := h
  exact ⟨vs, h1, h2, fun u hu z hz => hK z (h3 u hu z hz)⟩
set_option maxRecDepth 100000 in
theorem OwnR.own {w : World} {C B : Nat} {K : Nat → Prop} {v : Value} {cs : List Cl} (h : OwnR w C B K v cs) (hB : B ≤ C) : OwnD w B v cs := by
  obtain ⟨vs, ⟨h1, h2⟩, h3, _⟩ := h
  refine ⟨vs, ⟨h1, ?_⟩, h3⟩
  rcases h2 with h2 | ⟨g, c, cur, e, hg, h4⟩
  · exact .inl h2
  · exact .inr ⟨g, c, cur, e, Nat.le_trans hB hg, h4⟩
set_option maxRecDepth 100000 in
theorem OwnR.on {w w' : World} {C B : Nat} {K : Nat → Prop} {v : Value} {cs : List Cl} (h : OwnR w C B K v cs) (hb : Below w.heap.size w w') : OwnR w' C B K v cs := by
  obtain ⟨vs, h1, h2, h3⟩ := h
  refine ⟨vs, World.ownsRow.kept (row := none) h1 ⟨hb.os, hb.tape, hb.output, hb.size, fun k hk _ => hb.block k hk⟩ ?_, h2.keep (fun v l h => h.on (Nat.le_refl _) hb), h3⟩
  cases hv : v.ownBlock with
  | none => exact .inl rfl
  | some k => exact .inr (by simp)
set_option maxRecDepth 100000 in
/-- Bytes lie not in a row of cells. -/
theorem own_apartR {w : World} {C B n : Nat} {v u : Value} {vs : List Value} {l : List Int} (h : w.ownsRow C 40 5 v n vs) (k : OwnB w B u l) : u.ownBlock = none ∨ u.ownBlock ≠ v.ownBlock := by
  rcases h.2 with ⟨rfl, _⟩ | ⟨g, c, cur, rfl, _, hh, _⟩
  · cases hu : u.ownBlock with
    | none => exact .inl rfl
    | some z => exact .inr (by simp [Value.ownBlock])
  · rcases k.2 with ⟨rfl, _⟩ | ⟨g', c', cur', rfl, _, hh', _⟩
    · exact .inl (by simp [Value.ownBlock])
    · right
      intro e
      have e' : g' = g := by simpa [Value.ownBlock] using e
      rw [e'] at hh'
      rw [hh'] at hh
      simp at hh
set_option maxRecDepth 100000 in
theorem R5B.len {w : World} {B : Nat} : ∀ {vs : List Value} {cs : List Cl}, R5B w B vs cs → vs.length = cs.length * 5
  | vs, [], h => by
    unfold R5B at h
    subst h
    rfl
  | vs, c :: r, h => by
    obtain ⟨ka, kc, va, vc, t, rfl, h1, h2, h3⟩ := h
    have := R5B.len h3
    simp only [List.length_cons]
    omega
set_option maxRecDepth 100000 in
theorem R5B.one {w : World} {B : Nat} : ∀ {vs : List Value} {cs : List Cl}, R5B w B vs cs → ∀ u ∈ vs, u.oneCell' = true
  | vs, [], h => by
    unfold R5B at h
    subst h
    simp
  | vs, c :: r, h => by
    obtain ⟨ka, kc, va, vc, t, rfl, h1, h2, h3⟩ := h
    intro u hu
    simp only [List.mem_cons] at hu
    rcases hu with rfl | rfl | rfl | rfl | rfl | hu
    · rfl
    · rfl
    · rfl
    · rfl
    · rfl
    · exact R5B.one h3 u hu
set_option maxRecDepth 100000 in
theorem R5B.take {w : World} {B : Nat} : ∀ {vs : List Value} {cs : List Cl} (i : Nat), R5B w B vs cs → R5B w B (vs.take (i * 5)) (cs.take i)
  | vs, cs, 0, _ => by simp [R5B]
  | vs, [], i + 1, h => by
    unfold R5B at h
    subst h
    simp [R5B]
  | vs, c :: r, i + 1, h => by
    obtain ⟨ka, kc, va, vc, t, rfl, h1, h2, h3⟩ := h
    rw [show (i + 1) * 5 = i * 5 + 5 by omega, List.take_succ_cons]
    exact ⟨ka, kc, va, vc, t.take (i * 5), rfl, h1, h2, R5B.take i h3⟩
set_option maxRecDepth 100000 in
theorem R5B.drop {w : World} {B : Nat} : ∀ {vs : List Value} {cs : List Cl} (i : Nat), R5B w B vs cs → R5B w B (vs.drop (i * 5)) (cs.drop i)
  | vs, cs, 0, h => by simpa using h
  | vs, [], i + 1, h => by
    unfold R5B at h
    subst h
    simp [R5B]
  | vs, c :: r, i + 1, h => by
    obtain ⟨ka, kc, va, vc, t, rfl, h1, h2, h3⟩ := h
    rw [show (i + 1) * 5 = i * 5 + 5 by omega, List.drop_succ_cons]
    exact R5B.drop i h3
/-- A slice of cells, as values. -/
structure SrcC (w : World) (B : Nat) (K : Nat → Prop) (ao : Option Addr) (n c : Nat) (ds : List Cl) : Prop where
  hlen : ds.length = n
  hat : (ao = none ∧ n = 0 ∧ c = 0) ∨ ∃ g off us, ao = some ⟨g, off, none⟩ ∧ (R5B w B us ds ∧ KV K us) ∧ ∀ j u, us[j]? = some u → w.cell? ⟨g, off + j, none⟩ = some u
set_option maxRecDepth 100000 in
/-- 'append(l, x...)' of cells, as it runs. -/
theorem run_app_cs (w : World) (ty : TypeId) (C B : Nat) (K : Nat → Prop) (cs ds : List Cl) (v : Value) (ao : Option Addr) (n c : Nat) (hown : OwnR w C B K v cs) (hsl : SrcC w B K ao n c ds) (hb : cs.length + n ≤ 900000) (hbase : C ≤ w.heap.size) :
    ∃ v' w', (Builtin.append_ #[32, 32] ty #[v, .slice ao n c]).run Tryz.prog w = .ok v' w' ∧ OwnR w' C B K v' (cs ++ ds) ∧ Gr w v w' v' := by
  obtain ⟨i0, hi, hz0, hz1, hz2⟩ := info_parts infoC
  have hlen := hsl.hlen
  obtain ⟨vs, h1, h2, h3⟩ := hown
  rcases hsl.hat with ⟨rfl, rfl, rfl⟩ | ⟨g, off, us, rfl, ⟨hus, hku⟩, hcl⟩
  · obtain rfl : ds = [] := List.eq_nil_of_length_eq_zero hlen
    exact ⟨v, w, run_append_owned_none (P := Tryz.prog) (w := w) C 32 ty 40 i0 5 Tryz.underlying32 hi v cs.length vs h1, ⟨vs, by simpa using h1, by simpa using h2, h3⟩, Gr.refl _ _⟩
  · have hul := hus.len
    obtain ⟨v', w', hr, g1, g2, _, g4⟩ := run_append_own_at (P := Tryz.prog) w C 32 ty 40 i0 _ 5 72 Tryz.underlying32 hi hz0 hz1 hz2 rfl (by decide) v cs.length vs h1 ⟨g, off, none⟩ n c us (by rw [hul, hlen])
      (fun j u hu => by
        rw [Addr.add_lit]
        exact hcl j u hu) hus.one (by unfold maxLen; omega) (by omega) hbase
    have hkp : ∀ u l, OwnB w B u l → OwnB w' B u l := fun u l hu => World.ownsRow.kept hu g2 (own_apartR h1 hu)
    refine ⟨v', w', hr, ⟨vs ++ us, ?_, R5B.append (hus.keep hkp) (h2.keep hkp), h3.app hku⟩, ⟨g2, g4.imp id fun e => ⟨_, e, Nat.le_refl _⟩⟩⟩
    rw [List.length_append, hlen]
    exact g1
set_option maxRecDepth 100000 in
/-- What of such a row is sliced. -/
theorem OwnR.src {w : World} {C B g n c : Nat} {K : Nat → Prop} {cs : List Cl} (h : OwnR w C B K (.slice (some ⟨g, 0, none⟩) n c) cs) (i j : Nat) (hij : i ≤ j) (hj : j ≤ cs.length) (c' : Nat) : SrcC w B K (some ⟨g, i * 5, none⟩) (j - i) c' ((cs.take j).drop i) := by
  obtain ⟨vs, h1, h2, h3⟩ := h
  refine ⟨by simp; omega, .inr ⟨g, i * 5, (vs.take (j * 5)).drop (i * 5), rfl, ⟨(h2.take j).drop i, fun u hu => h3 u (List.mem_of_mem_take (List.mem_of_mem_drop hu))⟩, fun t u hu => ?_⟩⟩
  rw [List.getElem?_drop, List.getElem?_take] at hu
  split at hu
  · have := World.ownsRow.cells h1 (g := g) rfl (i * 5 + t) u hu
    rw [Addr.add_lit, Nat.zero_add] at this
    exact this
  · simp at hu
set_option maxRecDepth 100000 in
theorem OwnD.shape {w : World} {B : Nat} {v : Value} {cs : List Cl} (h : OwnD w B v cs) : (v = .slice none 0 0 ∧ cs = []) ∨ ∃ g c, v = .slice (some ⟨g, 0, none⟩) cs.length c ∧ cs.length ≤ c ∧ B ≤ g ∧ g < w.heap.size := by
  obtain ⟨vs, h1, h2⟩ := h
  rcases h1.2 with ⟨rfl, h0⟩ | ⟨g, c, cur, rfl, hb, hg, hn, _⟩
  · exact .inl ⟨rfl, List.eq_nil_of_length_eq_zero h0⟩
  · exact .inr ⟨g, c, rfl, hn, hb, lt_some hg⟩
end Go.Proofs.YtphjnahmbdinmaaGreatDoor
