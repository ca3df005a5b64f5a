/- Items as a plain tree, and where they lie in memory: a slice of items, each with the slice of its own List. -/
import Derived.Test.YtpiijmionafmcaaGreatDoorMath
import Derived.Deep.QuietTactic
import Derived.BigQuiet
namespace Go.Proofs.YtpiijmionafmcaaGreatDoor
open Go.RowKit

/-- Items: kind, number, text, the items of its List; the items behind it. -/
inductive Its where
  | nil
  | cons (k n : Int) (t : ByteArray) (sub rest : Its)

def Its.len : Its → Nat
  | .nil => 0
  | .cons _ _ _ _ r => r.len + 1

/-- Numbers within 64 bits, lengths that may be. -/
def Its.Ok : Its → Prop
  | .nil => True
  | .cons k n t sub r => (-9223372036854775808 ≤ k ∧ k ≤ 9223372036854775807) ∧ (-9223372036854775808 ≤ n ∧ n ≤ 9223372036854775807) ∧ t.size ≤ 140737488355328 ∧ sub.len ≤ 140737488355328 ∧ sub.Ok ∧ r.Ok

/-- Any block. -/
def Tp (_ : Nat) : Prop := True
/-- The items lie from a cell of a block on; the blocks of their Lists have p. -/
def Its.At (w : World) (p : Nat → Prop) : Its → Nat → Nat → Prop
  | .nil, _, _ => True
  | .cons k n t sub r, b, off =>
    (w.cell? ⟨b, off, none⟩ = some (.int .i64 k) ∧ w.cell? ⟨b, off + 1, none⟩ = some (.int .i64 n) ∧ w.cell? ⟨b, off + 2, none⟩ = some (.string t) ∧
      ∃ ao m c, w.cell? ⟨b, off + 3, none⟩ = some (.slice ao m c) ∧ sub.len = m ∧ m ≤ c ∧ (ao = none → c = 0) ∧
        (m = 0 ∨ ∃ b' off', ao = some ⟨b', off', none⟩ ∧ b' < w.heap.size ∧ p b' ∧ Its.At w p sub b' off')) ∧
    Its.At w p r b (off + 4)

/-- THE SLICE VALUE '.slice ao n cap' READS AS THE ITEMS l; its blocks have p. -/
structure SlI (w : World) (p : Nat → Prop) (ao : Option Addr) (n cap : Nat) (l : Its) : Prop where
  hlen : l.len = n
  hcap : n ≤ cap
  hnil : ao = none → cap = 0
  hroom : n ≤ 140737488355328
  ok : l.Ok
  hat : n = 0 ∨ ∃ b off, ao = some ⟨b, off, none⟩ ∧ b < w.heap.size ∧ p b ∧ l.At w p b off

set_option maxRecDepth 100000 in
theorem Its.At.mono {w w' : World} {p p' : Nat → Prop} (hs : w.heap.size ≤ w'.heap.size) (hc : ∀ q : Addr, q.block < w.heap.size → p q.block → w'.cell? q = w.cell? q) (hp : ∀ b, p b → b < w.heap.size → p' b) :
    ∀ (l : Its) (b off : Nat), b < w.heap.size → p b → l.At w p b off → l.At w' p' b off
  | .nil, _, _, _, _, _ => trivial
  | .cons k n t sub r, b, off, hb, hbg, h => by
    obtain ⟨⟨h0, h1, h2, ao, m, c, h3, h4, h5, h6, h7⟩, h8⟩ := h
    refine ⟨⟨(hc _ hb hbg).trans h0, (hc _ hb hbg).trans h1, (hc _ hb hbg).trans h2, ao, m, c, (hc _ hb hbg).trans h3, h4, h5, h6, ?_⟩, Its.At.mono hs hc hp r b (off + 4) hb hbg h8⟩
    rcases h7 with h7 | ⟨b', off', e, hb', hne, h7⟩
    · exact .inl h7
    · exact .inr ⟨b', off', e, Nat.lt_of_lt_of_le hb' hs, hp _ hne hb', Its.At.mono hs hc hp sub b' off' hb' hne h7⟩

set_option maxRecDepth 100000 in
theorem SlI.mono {w w' : World} {p p' : Nat → Prop} {ao : Option Addr} {n cap : Nat} {l : Its} (h : SlI w p ao n cap l) (hs : w.heap.size ≤ w'.heap.size)
    (hc : ∀ q : Addr, q.block < w.heap.size → p q.block → w'.cell? q = w.cell? q) (hp : ∀ b, p b → b < w.heap.size → p' b) : SlI w' p' ao n cap l := by
  refine ⟨h.hlen, h.hcap, h.hnil, h.hroom, h.ok, ?_⟩
  rcases h.hat with h0 | ⟨b, off, e, hb, hne, ha⟩
  · exact .inl h0
  · exact .inr ⟨b, off, e, Nat.lt_of_lt_of_le hb hs, hp _ hne hb, ha.mono hs hc hp l b off hb hne⟩

set_option maxRecDepth 100000 in
theorem SlI.on {w w' : World} {p : Nat → Prop} {ao : Option Addr} {n cap : Nat} {l : Its} (h : SlI w p ao n cap l) {B : Nat} (hB : w.heap.size ≤ B) (hb : Below B w w') : SlI w' p ao n cap l :=
  h.mono hb.size (fun q hq _ => hb.cell (p := q) (Nat.lt_of_lt_of_le hq hB)) (fun _ h _ => h)
set_option maxRecDepth 100000 in
theorem SlI.any {w : World} {p : Nat → Prop} {ao : Option Addr} {n cap : Nat} {l : Its} (h : SlI w p ao n cap l) : SlI w Tp ao n cap l :=
  h.mono (Nat.le_refl _) (fun _ _ _ => rfl) (fun _ _ _ => trivial)
set_option maxRecDepth 100000 in
/-- Below a block. -/
theorem SlI.low {w : World} {p : Nat → Prop} {ao : Option Addr} {n cap : Nat} {l : Its} (h : SlI w p ao n cap l) {B : Nat} (hB : w.heap.size ≤ B) : SlI w (· < B) ao n cap l :=
  h.mono (Nat.le_refl _) (fun _ _ _ => rfl) (fun _ _ h => Nat.lt_of_lt_of_le h hB)
set_option maxRecDepth 100000 in
theorem SlI.onB {w w' : World} {ao : Option Addr} {n cap : Nat} {l : Its} {B : Nat} (h : SlI w (· < B) ao n cap l) (hb : Below B w w') : SlI w' (· < B) ao n cap l :=
  h.mono hb.size (fun q _ hq => hb.cell (p := q) hq) (fun _ h _ => h)
set_option maxRecDepth 100000 in
theorem SlI.drewN {w : World} {p : Nat → Prop} {ao : Option Addr} {n cap : Nat} {l : Its} (h : SlI w p ao n cap l) (q : Nat) : SlI (w.drewN q) p ao n cap l :=
  h.mono (by simp) (fun p _ _ => by simp) (fun _ h _ => h)

/-- What the items behind the first k are. -/
def Its.drop : Its → Nat → Its
  | l, 0 => l
  | .nil, _ + 1 => .nil
  | .cons _ _ _ _ r, k + 1 => r.drop k

set_option maxRecDepth 100000 in
theorem Its.At.drop {w : World} {p : Nat → Prop} : ∀ (k : Nat) (l : Its) (b off : Nat), l.At w p b off → k ≤ l.len → (l.drop k).At w p b (off + 4 * k)
  | 0, l, _, _, h, _ => by simpa [Its.drop] using h
  | k + 1, .nil, _, _, _, hk => by simp [Its.len] at hk
  | k + 1, .cons _ _ _ _ r, b, off, h, hk => by
    have := Its.At.drop k r b (off + 4) h.2 (by simp [Its.len] at hk; omega)
    simpa [Its.drop, Nat.mul_add, Nat.add_assoc, Nat.add_comm 4 (4 * k)] using this
set_option maxRecDepth 100000 in
theorem Its.drop_len : ∀ (l : Its) (k : Nat), (l.drop k).len = l.len - k
  | l, 0 => by simp [Its.drop]
  | .nil, _ + 1 => by simp [Its.drop, Its.len]
  | .cons _ _ _ _ r, k + 1 => by simp [Its.drop, Its.len, Its.drop_len r k]
set_option maxRecDepth 100000 in
theorem Its.drop_ok : ∀ (l : Its) (k : Nat), l.Ok → (l.drop k).Ok
  | l, 0, h => by simpa [Its.drop] using h
  | .nil, _ + 1, _ => trivial
  | .cons _ _ _ _ r, k + 1, h => Its.drop_ok r k h.2.2.2.2.2
set_option maxRecDepth 100000 in
theorem Its.drop_succ : ∀ (l : Its) (i : Nat) {k n : Int} {t : ByteArray} {sub r : Its}, l.drop i = .cons k n t sub r → l.drop (i + 1) = r
  | l, 0, _, _, _, _, _, h => by simp [Its.drop] at h; subst h; simp [Its.drop]
  | .nil, _ + 1, _, _, _, _, _, h => by simp [Its.drop] at h
  | .cons _ _ _ _ r', i + 1, _, _, _, _, _, h => by simp [Its.drop] at h ⊢; exact Its.drop_succ r' i h
set_option maxRecDepth 100000 in
theorem Its.drop_cons (l : Its) (i : Nat) (h : i < l.len) : ∃ k n t sub r, l.drop i = .cons k n t sub r ∧ l.drop (i + 1) = r := by
  cases e : l.drop i with
  | nil => have := Its.drop_len l i; rw [e] at this; simp [Its.len] at this; omega
  | cons k n t sub r => exact ⟨k, n, t, sub, r, rfl, Its.drop_succ l i e⟩
set_option maxRecDepth 100000 in
theorem Its.drop_all (l : Its) : l.drop l.len = .nil := by
  cases e : l.drop l.len with
  | nil => rfl
  | cons k n t sub r => have := Its.drop_len l l.len; rw [e] at this; simp [Its.len] at this

set_option maxRecDepth 100000 in
/-- The i-th item's cells. -/
theorem SlI.item {w : World} {p : Nat → Prop} {ao : Option Addr} {n cap : Nat} {l : Its} (h : SlI w p ao n cap l) (i : Nat) (hi : i < n) :
    ∃ b off k nn t sub r so m c, ao = some ⟨b, off, none⟩ ∧ b < w.heap.size ∧ l.drop i = .cons k nn t sub r ∧ l.drop (i + 1) = r ∧
      w.cell? ⟨b, off + i * 4, none⟩ = some (.int .i64 k) ∧ w.cell? ⟨b, off + i * 4 + 1, none⟩ = some (.int .i64 nn) ∧ w.cell? ⟨b, off + i * 4 + 2, none⟩ = some (.string t) ∧ w.cell? ⟨b, off + i * 4 + 3, none⟩ = some (.slice so m c) ∧
      SlI w p so m c sub ∧ (-9223372036854775808 ≤ k ∧ k ≤ 9223372036854775807) ∧ (-9223372036854775808 ≤ nn ∧ nn ≤ 9223372036854775807) ∧ t.size ≤ 140737488355328 := by
  obtain ⟨hlen, hcap, hnil, hroom, hok, hat⟩ := h
  rcases hat with h0 | ⟨b, off, e, hb, hne, ha⟩
  · omega
  · obtain ⟨k, nn, t, sub, r, e1, e2⟩ := l.drop_cons i (by omega)
    have h1 := Its.At.drop i l b off ha (by omega)
    have h2 := Its.drop_ok l i hok
    rw [e1] at h1 h2
    rw [Nat.mul_comm 4 i] at h1
    obtain ⟨⟨c0, c1, c2, so, m, c, c3, s1, s2, s3, s4⟩, _⟩ := h1
    obtain ⟨o1, o2, o3, o4, o5, _⟩ := h2
    exact ⟨b, off, k, nn, t, sub, r, so, m, c, e, hb, e1, e2, c0, c1, c2, c3, ⟨s1, s2, s3, by omega, o5, s4⟩, o1, o2, o3⟩

end Go.Proofs.YtpiijmionafmcaaGreatDoor
