/- Crash; the device with what it must not touch. -/
import Derived.Test.YtikpfcapnpppdaaPl9
namespace Go.Proofs.Ytikpfcapnpppdaa
open Go.RowKit

set_option maxRecDepth 100000 in
theorem Ks.on {w w' : World} {ao : Option Addr} {n : Nat} {l : List Int} (h : Ks w ao n l) (hb : Below w.heap.size w w') : Ks w' ao n l := by
  refine ⟨h.hlen, h.hroom, ?_⟩
  rcases h.hat with h0 | ⟨b, off, e, hlt, hc⟩
  · exact .inl h0
  · exact .inr ⟨b, off, e, Nat.lt_of_lt_of_le hlt hb.size, fun i hi => (hb.cell (p := ⟨b, off + i, none⟩) hlt).trans (hc i hi)⟩
set_option maxRecDepth 100000 in
theorem Ks.nil (w : World) : Ks w none 0 [] := ⟨rfl, by omega, .inl rfl⟩

set_option maxRecDepth 100000 in
theorem Crash_up (w : World) (F : Nat → Prop) (a : Nat) (d : D) (ao : Option Addr) (n c : Nat) (ks : List Int) (tn ta : Int) (h : Dv w F a d) (hk : Ks w ao n ks) (hF : ∀ k, F k → k < w.heap.size) (hd : d.down = false) :
    Calls Try.prog 21 #[.pointer (some ⟨a, 0, none⟩), .agg #[.slice ao n c, .int .i64 tn, .int .i64 ta]] w fun e w' => e = .returned (.tuple #[]) ∧ Dv w' F a (d.fallen ks tn ta) ∧ Ch F w w' := by
  obtain ⟨bs, bl, vL, vK, hc, hf, hr, ha⟩ := h.c
  have c8 : w.cell? ⟨a, 8, none⟩ = some (.bool d.down) := hc 8
  rw [hd] at c8
  have hal := lt_of_some ha
  have hane : ¬ a = w.heap.size := by omega
  have HB : Hid (∀ o, Below w.heap.size w (w.alloc o)) := hidden fun o => (Below.refl _ _).alloc (Nat.le_refl _) o
  have HG := hidden (fun o => fall_any (w.alloc o) F a d ao n c ks tn ta (h.on (Nat.le_refl _) (HB.out o)) (hk.on (HB.out o)) (fun k hk => by have := hF k hk; simp; omega))
  clear hc hf hr ha h hk hF
  go_enter Try.func21, Try.ntmps21
  go_wp2_with (go_at_call 48; refine (HG.out _).mono ?_; rintro e w2 ⟨rfl, hD2, hC2⟩; replace hD2 := hidden hD2; replace hC2 := hidden hC2; refine Hid.out ?_)
  apply hidden
  clear HG
  go_wp2
  go_end0
  exact ⟨rfl, hD2.out, (Ch.of_below (HB.out _)).trans hC2.out fun _ _ h => h⟩
set_option maxRecDepth 100000 in
theorem Crash_down (w : World) (F : Nat → Prop) (a : Nat) (d : D) (ao : Option Addr) (n c : Nat) (tn ta : Int) (h : Dv w F a d) (hd : d.down = true) :
    Calls Try.prog 21 #[.pointer (some ⟨a, 0, none⟩), .agg #[.slice ao n c, .int .i64 tn, .int .i64 ta]] w fun e w' => e = .returned (.tuple #[]) ∧ Below w.heap.size w w' := by
  obtain ⟨bs, bl, vL, vK, hc, hf, hr, ha⟩ := h.c
  have c8 : w.cell? ⟨a, 8, none⟩ = some (.bool d.down) := hc 8
  rw [hd] at c8
  have hal := lt_of_some ha
  have hane : ¬ a = w.heap.size := by omega
  clear hc hf hr ha h
  go_enter Try.func21, Try.ntmps21
  go_wp2
  go_end0
  exact ⟨rfl, (Below.refl _ _).alloc (Nat.le_refl _) _⟩

/-- The device d lies at a, in blocks from B on, none of them of X. -/
def Dw (w : World) (B : Nat) (X : Nat → Prop) (a : Nat) (d : D) : Prop := ∃ F : Nat → Prop, Dv w F a d ∧ ∀ k, F k → B ≤ k ∧ k < w.heap.size ∧ ¬ X k
/-- What the device's calls may change. -/
def Gx (B : Nat) (X : Nat → Prop) : Nat → Prop := fun k => B ≤ k ∧ ¬ X k
/-- X, and what is new between two worlds. -/
def Xn (X : Nat → Prop) (w u : World) : Nat → Prop := fun k => X k ∨ (w.heap.size ≤ k ∧ k < u.heap.size)

set_option maxRecDepth 100000 in
theorem Dw.more {w u : World} {B : Nat} {X : Nat → Prop} {a : Nat} {d : D} (h : Dw w B X a d) (hb : Below w.heap.size w u) : Dw u B (Xn X w u) a d := by
  obtain ⟨F, hD, hF⟩ := h
  refine ⟨F, hD.on (Nat.le_refl _) hb, fun k hk => ?_⟩
  obtain ⟨h1, h2, h3⟩ := hF k hk
  exact ⟨h1, Nat.lt_of_lt_of_le h2 hb.size, fun h => h.elim h3 fun h => by omega⟩
set_option maxRecDepth 100000 in
theorem Xn_lt {X : Nat → Prop} {w u : World} (h : ∀ k, X k → k < w.heap.size) (hz : w.heap.size ≤ u.heap.size) : ∀ k, Xn X w u k → k < u.heap.size := by
  rintro k (h1 | h1)
  · exact Nat.lt_of_lt_of_le (h k h1) hz
  · exact h1.2
set_option maxRecDepth 100000 in
theorem Ch.gx {w u : World} {B : Nat} {X F : Nat → Prop} (h : Ch F w u) (hF : ∀ k, F k → B ≤ k ∧ k < w.heap.size ∧ ¬ X k) : Ch (Gx B X) w u := h.mono fun k _ hk => ⟨(hF k hk).1, (hF k hk).2.2⟩

set_option maxRecDepth 100000 in
theorem Dw_New (x y : Nat) (w : World) (h : dev x y = true) (X : Nat → Prop) (hX : ∀ k, X k → k < w.heap.size) : Calls Try.prog 6 #[.int .i64 (x : Int), .int .i64 (y : Int)] w fun e w' => ∃ a, e = .returned (.pointer (some ⟨a, 0, none⟩)) ∧ Dw w' w.heap.size X a (d0 x y) ∧ Below w.heap.size w w' := by
  refine (New_yes x y w h).mono ?_
  rintro e w' ⟨a, rfl, hD, hb⟩
  exact ⟨a, rfl, ⟨_, hD, fun k hk => ⟨hk.1, hk.2, fun hx => by have := hX k hx; omega⟩⟩, hb⟩
set_option maxRecDepth 100000 in
theorem Dw_Write (w : World) (B : Nat) (X : Nat → Prop) (a : Nat) (d : D) (n : Nat) (gb ob c : Nat) (l : List Int) (h : Dw w B X a d) (hX : ∀ k, X k → k < w.heap.size) (he : refu d n = 0) (hn : n < d.pages) (hlen : l.length = d.page) (hwf : Wf l)
    (hcell : ∀ j v, (By l)[j]? = some v → w.cell? ((⟨gb, ob, none⟩ : Addr).add j) = some v) (hgX : X gb) (hB : B ≤ w.heap.size) (h1 : 0 ≤ d.cw) (h2 : d.cw < 4611686018427387904) (hfew : d.loose.length < 4398046511103) (har : d.armed = false) :
    Calls Try.prog 16 #[.pointer (some ⟨a, 0, none⟩), .int .i64 (n : Int), .slice (some ⟨gb, ob, none⟩) d.page c] w fun e u => e = .returned (.int .i64 0) ∧ Dw u B X a (d.wrote n l) ∧ Ch (Gx B X) w u := by
  obtain ⟨F, hD, hF⟩ := h
  refine (Write_calm w F a d n gb ob c l hD he hn hlen hwf hcell (fun hf => (hF gb hf).2.2 hgX) (hX gb hgX) h1 h2 hfew (fun k hk => (hF k hk).2.1) har).mono ?_
  rintro e u ⟨rfl, hD2, hC2⟩
  refine ⟨rfl, ⟨_, hD2, ?_⟩, hC2.gx hF⟩
  rintro k (hk | hk)
  · obtain ⟨h1, h2, h3⟩ := hF k hk
    exact ⟨h1, Nat.lt_of_lt_of_le h2 hC2.size, h3⟩
  · exact ⟨by omega, hk.2, fun hx => by have := hX k hx; omega⟩
set_option maxRecDepth 100000 in
theorem Dw_Read (w : World) (B : Nat) (X : Nat → Prop) (a : Nat) (d : D) (n : Nat) (h : Dw w B X a d) (he : refu d n = 0) (hn : n < d.pages) (h1 : 0 ≤ d.cr) (h2 : d.cr < 4611686018427387904) :
    Calls Try.prog 18 #[.pointer (some ⟨a, 0, none⟩), .int .i64 (n : Int)] w fun e' w' => ∃ g, e' = .returned (.tuple #[.slice (some ⟨g, 0, none⟩) d.page d.page, .int .i64 0]) ∧ Xn X w w' g ∧ w'.heap[g]? = some (.cells (By (rd d n)).toArray 5 (0, 0)) ∧ Dw w' B (Xn X w w') a { d with cr := d.cr + 1 } ∧ Ch (Gx B X) w w' := by
  obtain ⟨F, hD, hF⟩ := h
  refine (Read_yes w F a d n hD he hn h1 h2 (fun k hk => (hF k hk).2.1)).mono ?_
  rintro e u ⟨g, rfl, hg, hh, hD2, hC2⟩
  refine ⟨g, rfl, .inr ⟨hg, lt_of_some hh⟩, hh, ⟨F, hD2, fun k hk => ?_⟩, hC2.gx hF⟩
  obtain ⟨h1, h2, h3⟩ := hF k hk
  exact ⟨h1, Nat.lt_of_lt_of_le h2 hC2.size, fun h => h.elim h3 fun h => by omega⟩
set_option maxRecDepth 100000 in
theorem Dw_Sync (w : World) (B : Nat) (X : Nat → Prop) (a : Nat) (d : D) (h : Dw w B X a d) (hd : d.down = false) (har : d.armed = false) (h1 : 0 ≤ d.cs) (h2 : d.cs < 4611686018427387904) :
    Calls Try.prog 20 #[.pointer (some ⟨a, 0, none⟩)] w fun e w' => e = .returned (.int .i64 0) ∧ Dw w' B X a d.synced ∧ Ch (Gx B X) w w' := by
  obtain ⟨F, hD, hF⟩ := h
  refine (Sync_calm w F a d hD hd har h1 h2).mono ?_
  rintro e u ⟨rfl, hD2, hC2⟩
  exact ⟨rfl, ⟨F, hD2, fun k hk => ⟨(hF k hk).1, Nat.lt_of_lt_of_le (hF k hk).2.1 hC2.size, (hF k hk).2.2⟩⟩, hC2.gx hF⟩
set_option maxRecDepth 100000 in
theorem Dw_Crash (w : World) (B : Nat) (X : Nat → Prop) (a : Nat) (d : D) (ao : Option Addr) (n c : Nat) (ks : List Int) (tn ta : Int) (h : Dw w B X a d) (hk : Ks w ao n ks) (hd : d.down = false) :
    Calls Try.prog 21 #[.pointer (some ⟨a, 0, none⟩), .agg #[.slice ao n c, .int .i64 tn, .int .i64 ta]] w fun e w' => e = .returned (.tuple #[]) ∧ Dw w' B X a (d.fallen ks tn ta) ∧ Ch (Gx B X) w w' := by
  obtain ⟨F, hD, hF⟩ := h
  refine (Crash_up w F a d ao n c ks tn ta hD hk (fun k hk => (hF k hk).2.1) hd).mono ?_
  rintro e u ⟨rfl, hD2, hC2⟩
  exact ⟨rfl, ⟨F, hD2, fun k hk => ⟨(hF k hk).1, Nat.lt_of_lt_of_le (hF k hk).2.1 hC2.size, (hF k hk).2.2⟩⟩, hC2.gx hF⟩
set_option maxRecDepth 100000 in
theorem Dw_Start (w : World) (B : Nat) (X : Nat → Prop) (a : Nat) (d : D) (h : Dw w B X a d) : Calls Try.prog 22 #[.pointer (some ⟨a, 0, none⟩)] w fun e w' => e = .returned (.tuple #[]) ∧ Dw w' B X a { d with down := false } ∧ Ch (Gx B X) w w' := by
  obtain ⟨F, hD, hF⟩ := h
  refine (start_any w F a d hD).mono ?_
  rintro e u ⟨rfl, hD2, hC2, _⟩
  exact ⟨rfl, ⟨F, hD2, fun k hk => ⟨(hF k hk).1, Nat.lt_of_lt_of_le (hF k hk).2.1 hC2.size, (hF k hk).2.2⟩⟩, hC2.gx hF⟩
end Go.Proofs.Ytikpfcapnpppdaa
