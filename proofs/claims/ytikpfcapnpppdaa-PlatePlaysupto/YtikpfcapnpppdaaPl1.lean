/- The small calls of a device: what they answer, and that they leave it. -/
import Derived.Test.YtikpfcapnpppdaaPl
import Derived.BigQuiet
namespace Go.Proofs.Ytikpfcapnpppdaa
open Go.RowKit

set_option maxRecDepth 100000 in
theorem Dv.c {w : World} {F : Nat → Prop} {a : Nat} {d : D} (h : Dv w F a d) : ∃ bs bl vL vK, (∀ i, w.cell? ⟨a, i, none⟩ = (row d bs bl vL vK)[i]?) ∧ (∀ i, w.frozen? ⟨a, i, none⟩ = false) ∧ Rest w F a d.page d.pages d.safe d.loose d.last d.keep bs bl vL vK ∧ w.heap[a]? = some (.cells (row d bs bl vL vK).toArray 54 (0, 0)) := by
  obtain ⟨bs, bl, vL, vK, ha, hr⟩ := h
  exact ⟨bs, bl, vL, vK, fun i => cell_of_row ha, fun i => free_of_row ha, hr, ha⟩

set_option maxRecDepth 100000 in
theorem up_any (w : World) (F : Nat → Prop) (a : Nat) (d : D) (h : Dv w F a d) : Calls Try.prog 9 #[.pointer (some ⟨a, 0, none⟩)] w fun e w' => e = .returned (.bool (!d.down)) ∧ w' = w := by
  obtain ⟨bs, bl, vL, vK, hc, hf, hr, ha⟩ := h.c
  have c8 : w.cell? ⟨a, 8, none⟩ = some (.bool d.down) := hc 8
  clear hc hf hr ha h
  go_enter Try.func9, Try.ntmps9
  go_wp2
  go_ret
  exact ⟨rfl, rfl⟩
set_option maxRecDepth 100000 in
theorem pg_any (w : World) (F : Nat → Prop) (a : Nat) (d : D) (h : Dv w F a d) : Calls Try.prog 11 #[.pointer (some ⟨a, 0, none⟩)] w fun e w' => e = .returned (.int .i64 d.page) ∧ w' = w := by
  obtain ⟨bs, bl, vL, vK, hc, hf, hr, ha⟩ := h.c
  have c0 : w.cell? ⟨a, 0, none⟩ = some (.int .i64 d.page) := hc 0
  clear hc hf hr ha h
  go_enter Try.func11, Try.ntmps11
  go_wp2
  go_ret
  exact ⟨rfl, rfl⟩
set_option maxRecDepth 100000 in
theorem pgs_any (w : World) (F : Nat → Prop) (a : Nat) (d : D) (h : Dv w F a d) : Calls Try.prog 13 #[.pointer (some ⟨a, 0, none⟩)] w fun e w' => e = .returned (.int .i64 d.pages) ∧ w' = w := by
  obtain ⟨bs, bl, vL, vK, hc, hf, hr, ha⟩ := h.c
  have c1 : w.cell? ⟨a, 1, none⟩ = some (.int .i64 d.pages) := hc 1
  clear hc hf hr ha h
  go_enter Try.func13, Try.ntmps13
  go_wp2
  go_ret
  exact ⟨rfl, rfl⟩
set_option maxRecDepth 100000 in
/-- The loose writes' value is a slice of their number. -/
theorem Lo.val {w : World} {F : Nat → Prop} {a bs bl page pages : Nat} {vL : Value} {l : List (Nat × List Int)} (h : Lo w F a bs bl page pages vL l) : ∃ ao c, vL = .slice ao l.length c ∧ l.length ≤ c := by
  obtain ⟨⟨xs, ho, _⟩, _, _⟩ := h
  rcases ho.2 with ⟨rfl, h0⟩ | ⟨g, cap, cur, rfl, _, _, h1, _⟩
  · exact ⟨none, 0, by rw [h0], by omega⟩
  · exact ⟨_, cap, rfl, h1⟩
set_option maxRecDepth 100000 in
theorem lse_any (w : World) (F : Nat → Prop) (a : Nat) (d : D) (h : Dv w F a d) : Calls Try.prog 19 #[.pointer (some ⟨a, 0, none⟩)] w fun e w' => e = .returned (.int .i64 d.loose.length) ∧ w' = w := by
  obtain ⟨bs, bl, vL, vK, hc, hf, hr, ha⟩ := h.c
  obtain ⟨ao, c, e, _⟩ := hr.lo.val
  have c3 : w.cell? ⟨a, 3, none⟩ = some (.slice ao d.loose.length c) := by rw [← e]; exact hc 3
  generalize d.loose.length = n at c3 ⊢
  clear hc hf hr ha h e
  go_enter Try.func19, Try.ntmps19
  go_wp2
  go_ret
  exact ⟨rfl, rfl⟩
set_option maxRecDepth 100000 in
theorem start_any (w : World) (F : Nat → Prop) (a : Nat) (d : D) (h : Dv w F a d) : Calls Try.prog 22 #[.pointer (some ⟨a, 0, none⟩)] w fun e w' => e = .returned (.tuple #[]) ∧ Dv w' F a { d with down := false } ∧ Ch F w w' ∧ w'.heap.size = w.heap.size := by
  obtain ⟨bs, bl, vL, vK, hc, hf, hr, ha⟩ := h.c
  have f8 := hf 8
  obtain ⟨y, c8⟩ : ∃ y, w.cell? ⟨a, 8, none⟩ = some y := ⟨_, hc 8⟩
  have HR := hidden hr
  have HA := hidden ha
  clear hc hf hr ha h
  go_enter Try.func22, Try.ntmps22
  go_wp2
  go_end0
  exact ⟨rfl, ⟨bs, bl, vL, vK, heap_setCell_self HA.out, HR.out.self (lt_of_some HA.out) 8 _⟩, Ch.setCell w HR.out.fa _, by simp [World.setCell]⟩

/-- What forbids a Read or a Write. -/
def refu (d : D) (n : Int) : Int := if d.down then 3 else if n < 0 ∨ (d.pages : Int) ≤ n then 30 else 0
set_option maxRecDepth 100000 in
theorem refuses_any (w : World) (F : Nat → Prop) (a : Nat) (d : D) (n : Int) (h : Dv w F a d) : Calls Try.prog 43 #[.pointer (some ⟨a, 0, none⟩), .int .i64 n] w fun e w' => e = .returned (.int .i64 (refu d n)) ∧ w' = w := by
  obtain ⟨bs, bl, vL, vK, hc, hf, hr, ha⟩ := h.c
  have c8 : w.cell? ⟨a, 8, none⟩ = some (.bool d.down) := hc 8
  have c1 : w.cell? ⟨a, 1, none⟩ = some (.int .i64 d.pages) := hc 1
  clear hc hf hr ha h
  unfold refu
  generalize hD : d.down = dn at *
  generalize d.pages = ps at *
  clear hD
  cases dn
  · by_cases h0 : n < 0
    · go_enter Try.func43, Try.ntmps43
      go_wp2
      go_ret
      exact ⟨rfl, rfl⟩
    · by_cases h1 : (ps : Int) ≤ n
      · go_enter Try.func43, Try.ntmps43
        go_wp2
        go_ret
        exact ⟨rfl, rfl⟩
      · go_enter Try.func43, Try.ntmps43
        go_wp2
        go_ret
        exact ⟨rfl, rfl⟩
  · go_enter Try.func43, Try.ntmps43
    go_wp2
    go_ret
    exact ⟨rfl, rfl⟩
end Go.Proofs.Ytikpfcapnpppdaa
