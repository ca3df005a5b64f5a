/- The walk of PlatePlays. -/
import Derived.Test.YtikpfcapnpppdaaJq
import Derived.Test.YtikpfcapnpppdaaRx
import Derived.Test.YtikpfcapnpppdaaPlAw
import Derived.BigQuiet
namespace Go.Proofs.Ytikpfcapnpppdaa
open Go.RowKit

/-- An Op in memory. -/
def OpAt (w : World) (b o : Nat) : Prop := ∃ (kind on n by_ : Int) (da : Option Addr) (dn dc : Nat) (ka : Option Addr) (kn kc : Nat) (tn ta : Int) (data ks : List Int),
  w.cell? ⟨b, o, none⟩ = some (.int .i64 kind) ∧ w.cell? ⟨b, o + 1, none⟩ = some (.int .i64 on) ∧ w.cell? ⟨b, o + 2, none⟩ = some (.int .i64 n) ∧ w.cell? ⟨b, o + 3, none⟩ = some (.int .u8 by_) ∧ w.cell? ⟨b, o + 4, none⟩ = some (.slice da dn dc) ∧ w.cell? ⟨b, o + 5, none⟩ = some (.slice ka kn kc) ∧ w.cell? ⟨b, o + 6, none⟩ = some (.int .i64 tn) ∧ w.cell? ⟨b, o + 7, none⟩ = some (.int .i64 ta) ∧
  (-9223372036854775808 ≤ n ∧ n ≤ 9223372036854775807) ∧ (0 ≤ by_ ∧ by_ ≤ 255) ∧ Sl w da dn dc data ∧ Ks w ka kn ks ∧ kn ≤ 17592186044416 ∧ (ka = none → kn = 0 ∧ kc = 0)
/-- A slice of Ops. -/
structure SlP_ (w : World) (ao : Option Addr) (n : Nat) : Prop where
  hN : n ≤ 400000
  hat : n = 0 ∨ ∃ b off, ao = some ⟨b, off, none⟩ ∧ b < w.heap.size ∧ ∀ i, i < n → OpAt w b (off + i * 8)
/-- What New gives. -/
def NewD (x y : Int) (w : World) (p : Option Addr) (u : World) : Prop := (dev x y = false ∧ p = none ∧ u = w) ∨ (dev x y = true ∧ ∃ (m n a : Nat), x = (m : Int) ∧ y = (n : Int) ∧ p = some ⟨a, 0, none⟩ ∧ Dv u (fun k => w.heap.size ≤ k ∧ k < u.heap.size) a (d0 m n) ∧ Below w.heap.size w u)
def NewR (x y : Int) (w : World) (p : Option Addr) (u : World) : Prop := (dev x y = false ∧ p = none ∧ u = w) ∨ (dev x y = true ∧ ∃ (m n a : Nat), x = (m : Int) ∧ y = (n : Int) ∧ p = some ⟨a, 0, none⟩ ∧ Rv u (fun k => w.heap.size ≤ k ∧ k < u.heap.size) a (r0 m (List.replicate n (List.replicate m 0))) ∧ Below w.heap.size w u)
set_option maxRecDepth 100000 in
theorem dev_nat {x y : Int} (h : dev x y = true) : ∃ m n : Nat, x = (m : Int) ∧ y = (n : Int) := by
  simp only [dev, pgs, decide_eq_true_eq] at h
  obtain ⟨p, q1, q2, q3⟩ := h
  exact ⟨x.toNat, y.toNat, by omega, by omega⟩
set_option maxRecDepth 100000 in
theorem new_any (x y : Int) (w : World) : Calls Try.prog 6 #[.int .i64 x, .int .i64 y] w fun e u => ∃ p, e = .returned (.pointer p) ∧ Hid (NewD x y w p u) := by
  by_cases h : dev x y = true
  · obtain ⟨m, n, rfl, rfl⟩ := dev_nat h
    refine (New_yes m n w h).mono ?_
    rintro e u ⟨a, rfl, hd, hb⟩
    exact ⟨_, rfl, hidden (.inr ⟨h, m, n, a, rfl, rfl, rfl, hd, hb⟩)⟩
  · have h' : dev x y = false := by simpa using h
    refine (New_no x y w h').mono ?_
    rintro e u ⟨rfl, rfl⟩
    exact ⟨_, rfl, hidden (.inl ⟨h', rfl, rfl⟩)⟩
set_option maxRecDepth 100000 in
theorem rnew_any (x y : Int) (w : World) : Calls Try.prog 7 #[.int .i64 x, .int .i64 y] w fun e u => ∃ p, e = .returned (.pointer p) ∧ Hid (NewR x y w p u) := by
  by_cases h : dev x y = true
  · obtain ⟨m, n, rfl, rfl⟩ := dev_nat h
    refine (rNew_rv m n w h).mono ?_
    rintro e u ⟨a, rfl, hd, hb⟩
    exact ⟨_, rfl, hidden (.inr ⟨h, m, n, a, rfl, rfl, rfl, hd, hb⟩)⟩
  · have h' : dev x y = false := by simpa using h
    refine (rNew_no x y w h').mono ?_
    rintro e u ⟨rfl, rfl⟩
    exact ⟨_, rfl, hidden (.inl ⟨h', rfl, rfl⟩)⟩
set_option maxRecDepth 100000 in
theorem big_any (x y : Int) (w : World) : Calls Try.prog 5 #[.int .i64 x, .int .i64 y] w fun e u => ∃ g, e = .returned (.bool g) ∧ Hid (Below w.heap.size w u) := by
  by_cases h : dev x y = true
  · obtain ⟨m, n, rfl, rfl⟩ := dev_nat h
    refine (big_yes m n w h).mono ?_
    rintro e u ⟨rfl, hb⟩
    exact ⟨_, rfl, hidden hb⟩
  · have h' : dev x y = false := by simpa using h
    refine (big_no x y w h').mono ?_
    rintro e u ⟨rfl, rfl⟩
    exact ⟨_, rfl, hidden (Below.refl _ _)⟩
abbrev pairO (p q : Option Addr) : Obj := .cells #[.pointer p, .pointer q, .slice none 0 0, .slice none 0 0] 33 (0, 0)
set_option maxRecDepth 100000 in
/-- A new pair. -/
theorem pair_new {x y : Int} {w1 w2 w3 : World} {p q : Option Addr} (hD : NewD x y w1 p w2) (hR : NewR x y w2 q w3) (B : Nat) (hB : B ≤ w1.heap.size) :
    ∃ k P, (k = 0 ∨ k = 1) ∧ (dev x y = true → k = 0) ∧ Stp k (w3.alloc (pairO p q)) B P w3.heap.size 0 ∧ (∀ j, P j → w1.heap.size ≤ j ∧ j < w3.heap.size + 1) ∧ Below w1.heap.size w1 (w3.alloc (pairO p q)) := by
  have hrow : (w3.alloc (pairO p q)).heap[w3.heap.size]? = some (pairO p q) := by
    show (w3.heap.push _)[w3.heap.size]? = _
    simp
  rcases hD with ⟨e, rfl, rfl⟩ | ⟨hdv, m, n, a, rfl, rfl, rfl, hd, hb⟩
  · rcases hR with ⟨_, rfl, rfl⟩ | ⟨e2, _⟩
    · exact ⟨1, fun k => k = w3.heap.size, .inr rfl, (fun h => by rw [e] at h; cases h), ⟨hrow, rfl⟩, fun j hj => by omega, (Below.refl _ _).alloc (Nat.le_refl _) _⟩
    · rw [e] at e2; cases e2
  · rcases hR with ⟨e, rfl, rfl⟩ | ⟨_, m', n', a', e1, e2, rfl, hr, hb2⟩
    · rw [e] at hdv; cases hdv
    · obtain rfl : m = m' := by omega
      obtain rfl : n = n' := by omega
      have s1 := hb.size
      have s2 := hb2.size
      have b4 : Below w3.heap.size w3 (w3.alloc (pairO (some ⟨a, 0, none⟩) (some ⟨a', 0, none⟩))) := (Below.refl _ _).alloc (Nat.le_refl _) _
      have z : (w3.alloc (pairO (some ⟨a, 0, none⟩) (some ⟨a', 0, none⟩))).heap.size = w3.heap.size + 1 := Array.size_push ..
      refine ⟨0, fun k => w1.heap.size ≤ k ∧ k < w3.heap.size + 1, .inl rfl, fun _ => rfl, ⟨[], d0 m n, r0 m (List.replicate n (List.replicate m 0)), a, a', fun k => w1.heap.size ≤ k ∧ k < w2.heap.size, fun k => w2.heap.size ≤ k ∧ k < w3.heap.size, fun _ => False, .slice none 0 0, .slice none 0 0, ?_⟩, fun j hj => hj, hb.trans ((hb2.mono s1).trans (b4.mono (by omega)))⟩
      refine ⟨⟨hrow, World.ownsRow_nil _ _ _ _, World.ownsRow_nil _ _ _ _, by simp [Value.ownBlock], by simp [Value.ownBlock], by simp [Value.ownBlock], by omega⟩, (hd.ch (Ch.of_below (F := fun _ => False) hb2) (fun _ _ _ e => e)).ch (Ch.of_below (F := fun _ => False) b4) (fun _ _ _ e => e), hr.ch (Ch.of_below (F := fun _ => False) b4) (fun _ _ _ e => e), Tw.made m n, ⟨(fun x hx => by cases hx), by simp⟩, fun k hk => ⟨⟨hk.1, by omega⟩, by rw [z]; omega⟩, fun k hk => ⟨⟨by omega, by omega⟩, by rw [z]; omega, by omega⟩, fun k hk => hk.elim, fun k hk => ?_, by simp, by simp [d0], by simp [d0], by simp [d0], by simp [d0], by simp [d0]⟩
      rcases hk with rfl | e | e
      · exact ⟨⟨by omega, by omega⟩, by rw [z]; omega, by omega, by omega, fun e => e⟩
      · simp [Value.ownBlock] at e
      · simp [Value.ownBlock] at e
/-- The list of the two. -/
abbrev listO (x y : Nat) : Obj := .cells #[.pointer (some ⟨x, 0, none⟩), .pointer (some ⟨y, 0, none⟩)] 25 (0, 0)
set_option maxRecDepth 100000 in
/-- Two new pairs and their list. -/
theorem two_new {W w1 w2 w3 w5 w6 : World} {x y : Int} {p q p' q' : Option Addr} (b0 : Below W.heap.size W w1) (hD : NewD x y w1 p w2) (hR : NewR x y w2 q w3) (hD' : NewD 512 4 (w3.alloc (pairO p q)) p' w5) (hR' : NewR 512 4 w5 q' w6) :
    ∃ k, (k = 0 ∨ k = 1) ∧ Two W ((w6.alloc (pairO p' q')).alloc (listO w3.heap.size w6.heap.size)) (w6.heap.size + 1) (listO w3.heap.size w6.heap.size) w3.heap.size w6.heap.size 0 k 0 := by
  have hW := b0.size
  obtain ⟨k, P, hk, _, h1, h2, b1⟩ := pair_new hD hR W.heap.size hW
  have z1 : (w3.alloc (pairO p q)).heap.size = w3.heap.size + 1 := Array.size_push ..
  have s1 := b1.size
  obtain ⟨k', P', _, hk', h1', h2', b2⟩ := pair_new hD' hR' W.heap.size (by omega)
  rw [hk' (by decide)] at h1'
  have s2 := b2.size
  have z2 : (w6.alloc (pairO p' q')).heap.size = w6.heap.size + 1 := Array.size_push ..
  generalize hv : w6.alloc (pairO p' q') = v at *
  have b3 : Below v.heap.size v (v.alloc (listO w3.heap.size w6.heap.size)) := (Below.refl _ _).alloc (Nat.le_refl _) _
  have z3 : (v.alloc (listO w3.heap.size w6.heap.size)).heap.size = v.heap.size + 1 := Array.size_push ..
  refine ⟨k, hk, ⟨P, P', (h1.ch (Ch.of_below (F := fun _ => False) b2) (fun _ _ e => e)).ch (Ch.of_below (F := fun _ => False) b3) (fun _ _ e => e), h1'.ch (Ch.of_below (F := fun _ => False) b3) (fun _ _ e => e), fun j hj => ?_, fun j hj => ?_⟩, b0.trans ((b1.mono hW).trans ((b2.mono (by omega)).trans (b3.mono (by omega)))), ?_⟩
  · have := h2 j hj
    refine ⟨by omega, by rw [z3]; omega, by omega, fun hp => ?_⟩
    have := h2' j hp
    omega
  · have := h2' j hj
    exact ⟨by omega, by rw [z3]; omega, by omega⟩
  · rw [← z2]
    show (v.heap.push _)[v.heap.size]? = _
    simp
set_option maxRecDepth 100000 in
theorem Two.more {W w : World} {la : Nat} {LA : Obj} {xa xb t t' ba bb : Nat} (h : Two W w la LA xa xb t ba bb) (ht : t ≤ t') : Two W w la LA xa xb t' ba bb := by
  obtain ⟨Pa, Pb, h1, h2, h3, h4⟩ := h.ex
  exact ⟨⟨Pa, Pb, h1.more ht, h2.more ht, h3, h4⟩, h.be, h.row⟩
set_option maxRecDepth 100000 in
/-- One of the two. -/
theorem Two.pick {W w : World} {la x0 x1 t k0 : Nat} (h : Two W w la (listO x0 x1) x0 x1 t k0 0) (hk : k0 = 0 ∨ k0 = 1) {j : Nat} (hj : j < 2) : ∃ x o k ko, (k = 0 ∨ k = 1) ∧ w.cell? ⟨la, j, none⟩ = some (.pointer (some ⟨x, 0, none⟩)) ∧ Two W w la (listO x0 x1) x o t k ko ∧ ∀ w' t', Two W w' la (listO x0 x1) x o t' k ko → Two W w' la (listO x0 x1) x0 x1 t' k0 0 := by
  have hc : ∀ j, w.cell? ⟨la, j, none⟩ = [Value.pointer (some ⟨x0, 0, none⟩), .pointer (some ⟨x1, 0, none⟩)][j]? := fun j => cell_of_row h.row
  match j, hj with
  | 0, _ => exact ⟨x0, x1, k0, 0, hk, hc 0, h, fun _ _ h => h⟩
  | 1, _ => exact ⟨x1, x0, 0, k0, .inl rfl, hc 1, h.symm, fun _ _ h => h.symm⟩
/-- Where the last loop stands. -/
def L3 (W w : World) (la x0 x1 k0 n i : Nat) : Prop := (i = 0 → Two W w la (listO x0 x1) x0 x1 n k0 0) ∧ (i = 1 → ∃ t, t ≤ n + 2 ∧ Two W w la (listO x0 x1) x1 x0 t 0 2) ∧ Below W.heap.size W w
set_option maxRecDepth 100000 in
theorem L3.pick {W w : World} {la x0 x1 k0 n i : Nat} (h : L3 W w la x0 x1 k0 n i) (hk : k0 = 0 ∨ k0 = 1) (hi : i < 2) : ∃ x o k ko t, (k = 0 ∨ k = 1) ∧ t ≤ n + 2 ∧ (∀ w' : World, w'.heap[la]? = some (listO x0 x1) → w'.cell? ⟨la, i, none⟩ = some (.pointer (some ⟨x, 0, none⟩))) ∧ Two W w la (listO x0 x1) x o t k ko ∧ ∀ w' t', t' ≤ t + 2 → Two W w' la (listO x0 x1) o x t' ko 2 → L3 W w' la x0 x1 k0 n (i + 1) := by
  have hc : ∀ (w' : World) (_ : w'.heap[la]? = some (listO x0 x1)) j, w'.cell? ⟨la, j, none⟩ = [Value.pointer (some ⟨x0, 0, none⟩), .pointer (some ⟨x1, 0, none⟩)][j]? := fun w' h j => cell_of_row h
  match i, hi with
  | 0, _ => exact ⟨x0, x1, k0, 0, n, hk, by omega, fun w' hr => hc w' hr 0, h.1 rfl, fun w' t' ht h2 => ⟨fun e => by omega, fun _ => ⟨t', ht, h2⟩, h2.be⟩⟩
  | 1, _ =>
    obtain ⟨t, ht, h2⟩ := h.2.1 rfl
    exact ⟨x1, x0, 0, 2, t, .inl rfl, ht, fun w' hr => hc w' hr 1, h2, fun w' t' ht h2 => ⟨fun e => by omega, fun e => by omega, h2.be⟩⟩
set_option maxRecDepth 100000 in
theorem Half.row {W w : World} {la : Nat} {LA : Obj} {xa xb t bb : Nat} (h : Half W w la LA xa xb t bb) : w.heap[la]? = some LA := by
  obtain ⟨_, _, _, _, _, _, _, _, _, _, _, _, _, _, _, _, _, _, _, h⟩ := h
  exact h
set_option maxRecDepth 100000 in
theorem sl_nil (w : World) : Sl w none 0 0 [] := ⟨rfl, Nat.le_refl _, by simp, Wf.nil, (fun _ => rfl), .inl rfl⟩
set_option maxRecDepth 100000 in
theorem ks_nil (w : World) : Ks w none 0 [] := ⟨rfl, by simp, .inl rfl⟩
set_option maxRecDepth 100000 in
theorem and1_ok (N : Int) : ∃ j : Nat, bits .and .i64 N 1 = (j : Int) ∧ j < 2 := by
  have e : bits .and .i64 N 1 = IntKind.i64.wrap ((BitVec.ofInt 64 N &&& BitVec.ofInt 64 1).toNat : Int) := rfl
  have h : (BitVec.ofInt 64 N &&& BitVec.ofInt 64 1).toNat ≤ 1 := by
    rw [BitVec.toNat_and]
    exact Nat.le_trans Nat.and_le_right (by decide)
  exact ⟨(BitVec.ofInt 64 N &&& BitVec.ofInt 64 1).toNat, by rw [e, IntKind.wrap_i64]; omega, by omega⟩
set_option maxRecDepth 100000 in
theorem OpAt.on {w u : World} {b o : Nat} (h : OpAt w b o) (hb : Below w.heap.size w u) (hlt : b < w.heap.size) : OpAt u b o := by
  obtain ⟨kind, on, n, by_, da, dn, dc, ka, kn, kc, tn, ta, data, ks, c0, c1, c2, c3, c4, c5, c6, c7, r1, r2, hs, hk, k1, k2⟩ := h
  exact ⟨kind, on, n, by_, da, dn, dc, ka, kn, kc, tn, ta, data, ks, (hb.cell (p := ⟨b, o, none⟩) hlt).trans c0, (hb.cell (p := ⟨b, o + 1, none⟩) hlt).trans c1, (hb.cell (p := ⟨b, o + 2, none⟩) hlt).trans c2, (hb.cell (p := ⟨b, o + 3, none⟩) hlt).trans c3, (hb.cell (p := ⟨b, o + 4, none⟩) hlt).trans c4, (hb.cell (p := ⟨b, o + 5, none⟩) hlt).trans c5, (hb.cell (p := ⟨b, o + 6, none⟩) hlt).trans c6, (hb.cell (p := ⟨b, o + 7, none⟩) hlt).trans c7, r1, r2, hs.on (Nat.le_refl _) hb, hk.on hb, k1, k2⟩
set_option maxRecDepth 100000 in
set_option maxHeartbeats 8000000 in
theorem walk_PlatePlays (sz pg : Int) (so : Option Addr) (n c : Nat) (W : World) (hs : SlP_ W so n) :
    Calls Try.prog 3 #[.int .i64 sz, .int .i64 pg, .slice so n c] W fun e u => e = .returned (.bool true) ∧ Below W.heap.size W u := by
  have HS := hidden hs
  have hn := hs.hN
  have hnI : (n : Int) ≤ 400000 := by omega
  clear hs
  go_enter Try.func3, Try.ntmps3
  go_wp2_with (go_at_call 4; refine (awake_any W).mono ?_; rintro e w1 ⟨rfl, b1⟩; have B1 := hidden b1; clear b1; refine Hid.out ?_)
  apply hidden
  have HBig := hidden (big_any sz pg w1)
  go_wp2_with (go_at_call 5; refine HBig.out.mono ?_; rintro e w2 ⟨g, rfl, HB2⟩; refine Hid.out ?_)
  apply hidden
  have B2 : Hid (Below W.heap.size W w2) := hidden (B1.out.trans (HB2.out.mono B1.out.size))
  clear HBig B1 HB2
  cases g
  case true =>
    go_wp2
    go_ret
    exact ⟨rfl, B2.out⟩
  have HN1 := hidden (new_any sz pg w2)
  go_wp2_with (go_at_call 6; refine HN1.out.mono ?_; rintro e w3 ⟨p, rfl, HD⟩; refine Hid.out ?_)
  apply hidden
  have HN2 := hidden (rnew_any sz pg w3)
  clear HN1
  go_wp2_with (go_at_call 7; refine HN2.out.mono ?_; rintro e w4 ⟨q, rfl, HR⟩; refine Hid.out ?_)
  apply hidden
  clear HN2
  have HN3 : Hid (∀ u, Calls Try.prog 6 #[.int .i64 512, .int .i64 4] u fun e v => ∃ p, e = .returned (.pointer p) ∧ Hid (NewD 512 4 u p v)) := hidden fun u => new_any 512 4 u
  have HN4 : Hid (∀ u, Calls Try.prog 7 #[.int .i64 512, .int .i64 4] u fun e v => ∃ p, e = .returned (.pointer p) ∧ Hid (NewR 512 4 u p v)) := hidden fun u => rnew_any 512 4 u
  go_wp2_with (go_at_call 6; refine (HN3.out _).mono ?_; rintro e w5 ⟨p', rfl, HD'⟩; refine Hid.out ?_)
  apply hidden
  go_wp2_with (go_at_call 7; refine (HN4.out _).mono ?_; rintro e w6 ⟨q', rfl, HR'⟩; refine Hid.out ?_)
  apply hidden
  clear HN3 HN4
  obtain ⟨k0, hk0, hT⟩ := two_new B2.out HD.out HR.out HD'.out HR'.out
  have HT := hidden hT
  have HK := hidden hk0
  clear hT hk0 HD HR HD' HR' B2
  go_wp2_with fail
  obtain ⟨w8, hw8⟩ : ∃ w8, (w6.alloc (.cells #[.pointer p', .pointer q', .slice none 0 0, .slice none 0 0] 33)).alloc (.cells #[.pointer (some ⟨w4.heap.size, 0, none⟩), .pointer (some ⟨w6.heap.size, 0, none⟩)] 25) = w8 := ⟨_, rfl⟩
  rw [hw8]
  have HT2 : Hid (Two W w8 (w6.heap.size + 1) (listO w4.heap.size w6.heap.size) w4.heap.size w6.heap.size 0 k0 0) := by rw [← hw8]; exact HT
  clear HT hw8
  generalize w6.heap.size + 1 = la at *
  generalize w6.heap.size = x1 at *
  generalize w4.heap.size = x0 at *
  have HP : Hid (∀ i : Nat, i < 2 → ∃ x, w8.cell? ⟨la, i, none⟩ = some (.pointer (some ⟨x, 0, none⟩)) ∧ ((w8.cell? ⟨x, 0, none⟩ = some (.pointer none) ∧ w8.cell? ⟨x, 1, none⟩ = some (.pointer none)) ∨ ∃ pa ra, w8.cell? ⟨x, 0, none⟩ = some (.pointer (some ⟨pa, 0, none⟩)) ∧ w8.cell? ⟨x, 1, none⟩ = some (.pointer (some ⟨ra, 0, none⟩)))) := hidden (by
    intro i hi
    obtain ⟨x, o, k, ko, hk, hc, h2, _⟩ := HT2.out.pick HK.out hi
    refine ⟨x, hc, ?_⟩
    rcases hk with rfl | rfl
    · obtain ⟨pa, ra, _, _, _, e1, e2, _⟩ := h2.asks
      exact .inr ⟨pa, ra, e1, e2⟩
    · exact .inl h2.nils)
  go_loopw [10] (fun y wr => ∃ i : Nat, i ≤ 2 ∧ y = .int .i64 (i : Int) ∧ ∃ q, wr = w8.drewN q) (fun y _ => 2 - (RowKit.intOf y).toNat)
  case atStart => exact ⟨0, by omega, rfl, 0, rfl⟩
  case round =>
    obtain ⟨i, hi, rfl, q, rfl⟩ := hrel
    by_cases hlt : i < 2
    · have hltI : (i : Int) < 2 := by omega
      obtain ⟨x, c0, hx⟩ := HP.out i hlt
      refine hx.elim ?E1 ?E2
      case' E1 => rintro ⟨c1, c2⟩
      case' E2 => rintro ⟨pa, ra, c1, c2⟩
      all_goals
        clear hx
        go_wp2_with fail
        go_quiet (fail)
        go_wp2
        go_roundw
        case rel => exact ⟨i + 1, by omega, by go_num, _, rfl⟩
        case measure => simp [RowKit.intOf]; omega
    · have hge : ¬ (i : Int) < 2 := by omega
      have HT3 : Hid (Two W (w8.drewN q) la (listO x0 x1) x0 x1 0 k0 0) := hidden (HT2.out.dr q)
      generalize w8.drewN q = w9 at *
      clear HT2 HP hi hlt
      go_wp2_with fail
      clear hge
      go_loopw [11] (fun y wr => ∃ i : Nat, i ≤ n ∧ y = .int .i64 (i : Int) ∧ Hid (Two W wr la (listO x0 x1) x0 x1 i k0 0)) (fun y _ => n - (RowKit.intOf y).toNat)
      case atStart => exact ⟨0, by omega, rfl, HT3⟩
      case round =>
        obtain ⟨i, hi, rfl, HT⟩ := hrel
        by_cases hlt : i < n
        · have hltI : (i : Int) < (n : Int) := by omega
          obtain ⟨b, off, rfl, hb, hops⟩ := HS.out.hat.resolve_left (by omega)
          have hop := hops i hlt
          obtain ⟨kind, on, nn, by_, da, dn, dc, ka, kn, kc, tn, ta, data, ks, c0, c1, c2, c3, c4, c5, c6, c7, r1, r2, hs, hk, k1, k2⟩ := hop
          obtain ⟨j, hj, hj2⟩ := and1_ok on
          obtain ⟨x, o, k, ko, hkk, cx, h2, hback⟩ := HT.out.pick HK.out hj2
          have hbe := HT.out.be
          replace c0 := (hbe.cell (p := ⟨b, off + i * 8, none⟩) hb).trans c0
          replace c1 := (hbe.cell (p := ⟨b, off + i * 8 + 1, none⟩) hb).trans c1
          replace c2 := (hbe.cell (p := ⟨b, off + i * 8 + 2, none⟩) hb).trans c2
          replace c3 := (hbe.cell (p := ⟨b, off + i * 8 + 3, none⟩) hb).trans c3
          replace c4 := (hbe.cell (p := ⟨b, off + i * 8 + 4, none⟩) hb).trans c4
          replace c5 := (hbe.cell (p := ⟨b, off + i * 8 + 5, none⟩) hb).trans c5
          replace c6 := (hbe.cell (p := ⟨b, off + i * 8 + 6, none⟩) hb).trans c6
          replace c7 := (hbe.cell (p := ⟨b, off + i * 8 + 7, none⟩) hb).trans c7
          have HBK := hidden hback
          clear hback hbe hops
          rcases hkk with rfl | rfl
          · obtain ⟨pa, ra, _, _, _, p0, p1, _⟩ := h2.asks
            have HC := hidden (h2.play (by omega) kind on nn by_ r1 r2 da ka dn dc kn kc tn ta data ks hs hk k1 k2)
            have HU : Hid (∀ u, Two W u la (listO x0 x1) x o (i + 1) 0 ko → Two W u la (listO x0 x1) x0 x1 (i + 1) k0 0) := hidden fun u hu => HBK.out u _ hu
            clear h2 hs hk HT HBK r1 r2 k1 k2
            unfold opV at HC
            go_wp2_with (go_at_call 8; refine HC.out.mono ?_; rintro e u ⟨rfl, HV⟩; refine Hid.out ?_)
            apply hidden
            clear HC c0 c1 c2 c3 c4 c5 c6 c7 cx p0 p1
            obtain ⟨pa, ra, up, pg, pgs, p0, p1, a1, a2, a3, a4, a5, a6⟩ := HV.out.asks
            have A1 := hidden a1
            have A2 := hidden a2
            have A3 := hidden a3
            have A4 := hidden a4
            have A5 := hidden a5
            have A6 := hidden a6
            have e1 : (up == up) = true := by simp
            have e2 : ((pg : Int) == (pg : Int)) = true := by simp
            have e3 : ((pgs : Int) == (pgs : Int)) = true := by simp
            clear a1 a2 a3 a4 a5 a6
            go_wp2_with (go_at_call 9; refine same_call (A1.out 0) ?_)
            go_quiet (first
              | (go_at_call 10; exact Calls.quiet_of_same (A2.out _))
              | (go_at_call 11; exact Calls.quiet_of_same (A3.out _))
              | (go_at_call 12; exact Calls.quiet_of_same (A4.out _))
              | (go_at_call 13; exact Calls.quiet_of_same (A5.out _))
              | (go_at_call 14; exact Calls.quiet_of_same (A6.out _)))
            go_wp2
            go_roundw
            case rel => exact ⟨i + 1, by omega, by go_num, hidden ((HU.out _ HV.out).dr _)⟩
            case measure => simp [RowKit.intOf]; omega
          · obtain ⟨p0, p1⟩ := h2.nils
            have HU := hidden (HT.out.more (Nat.le_succ i))
            clear h2 hs hk HT HBK
            go_wp2
            go_roundw
            case rel => exact ⟨i + 1, by omega, by go_num, HU⟩
            case measure => simp [RowKit.intOf]; omega
        · obtain rfl : i = n := by omega
          have hge : ¬ (i : Int) < (i : Int) := by omega
          have HL : Hid (L3 W wr la x0 x1 k0 i 0) := hidden ⟨fun _ => HT.out, fun e => by omega, HT.out.be⟩
          clear HT HT3
          go_wp2_with fail
          clear hge hlt
          go_loopw [15] (fun y wr => ∃ m : Nat, m ≤ 2 ∧ y = .int .i64 (m : Int) ∧ Hid (L3 W wr la x0 x1 k0 i m)) (fun y _ => 2 - (RowKit.intOf y).toNat)
          case atStart => exact ⟨0, by omega, rfl, HL⟩
          case round =>
            obtain ⟨m, hm, rfl, HM⟩ := hrel
            clear HL
            by_cases hlt : m < 2
            · have hltI : (m : Int) < 2 := by omega
              obtain ⟨x, o, k, ko, t, hkk, ht, hcx, h2, hback⟩ := HM.out.pick HK.out hlt
              have HCX := hidden hcx
              have HBK := hidden hback
              have cx := hcx _ h2.row
              clear hcx hback
              rcases hkk with rfl | rfl
              · obtain ⟨pa, ra, _, _, _, p0, p1, _⟩ := h2.asks
                have HC := hidden (h2.play (by omega) 7 0 0 0 (by omega) (by omega) none none 0 0 0 0 0 0 [] [] (sl_nil W) (ks_nil W) (by omega) (fun _ => ⟨rfl, rfl⟩))
                unfold opV at HC
                clear h2 HM
                go_wp2_with (go_at_call 8; refine HC.out.mono ?_; rintro e u1 ⟨rfl, HV1⟩; refine Hid.out ?_)
                apply hidden
                clear HC cx p0 p1
                have cx := HCX.out _ HV1.out.row
                have HC := hidden (HV1.out.play (by omega) 9 0 0 0 (by omega) (by omega) none none 0 0 0 0 0 0 [] [] (sl_nil W) (ks_nil W) (by omega) (fun _ => ⟨rfl, rfl⟩))
                unfold opV at HC
                clear HV1
                go_wp2_with (go_at_call 8; refine HC.out.mono ?_; rintro e u2 ⟨rfl, HV2⟩; refine Hid.out ?_)
                apply hidden
                clear HC cx
                have cx := HCX.out _ HV2.out.row
                have HC := hidden (HV2.out.owned (by omega))
                clear HV2
                go_wp2_with (go_at_call 15; refine HC.out.mono ?_; rintro e u3 ⟨rfl, HV3⟩; refine Hid.out ?_)
                apply hidden
                clear HC cx
                have cx := HCX.out _ HV3.out.row
                have HC := hidden (HV3.out.again 0 0 0 none none 0 0 0 0 0 0)
                unfold opV at HC
                clear HV3
                go_wp2_with (go_at_call 8; refine HC.out.mono ?_; rintro e u4 ⟨rfl, HV4⟩; refine Hid.out ?_)
                apply hidden
                clear HC cx
                have HN := hidden (HBK.out u4 (t + 1 + 1) (by omega) HV4.out)
                clear HV4 HBK HCX
                go_wp2
                go_roundw
                case rel => exact ⟨m + 1, by omega, by go_num, HN⟩
                case measure => simp [RowKit.intOf]; omega
              · obtain ⟨p0, p1⟩ := h2.nils
                have HN := hidden (HBK.out wr t (by omega) h2.off)
                clear h2 HM HBK HCX
                go_wp2
                go_roundw
                case rel => exact ⟨m + 1, by omega, by go_num, HN⟩
                case measure => simp [RowKit.intOf]; omega
            · have hge : ¬ (m : Int) < 2 := by omega
              go_wp2
              go_ret
              exact ⟨rfl, HM.out.2.2⟩
end Go.Proofs.Ytikpfcapnpppdaa
