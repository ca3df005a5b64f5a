/- Metas compared; meta.Choose. -/
import Derived.Test.YtbnjojplfbibkaaGreatDoorMk
import Derived.Laws.StructEq
namespace Go.Proofs.YtbnjojplfbibkaaGreatDoor
open Go.RowKit

set_option maxRecDepth 100000 in
theorem Mt.ext8 {a b : Mt} (h0 : a.en = b.en) (h1 : a.pg = b.pg) (h2 : a.tx = b.tx) (h3 : a.ro = b.ro) (h4 : a.co = b.co) (h5 : a.fr = b.fr) (h6 : a.li = b.li) (h7 : a.hi = b.hi) : a = b := by
  cases a; cases b; simp_all
set_option maxRecDepth 100000 in
theorem eq_yes (a : Mt) (w : World) : (Op.equalIn 10000 45 (mtV a) (mtV a)).run Tryz.prog w = .ok true w := by
  have u3 := Tryz.underlying3
  have a3 := Tryz.isAgg3
  have z3 := Tryz.sizeOf3
  have hS : Tryz.prog.underlying 45 = some (.struct (Tryz.prog.fieldsOf 45)) := by kernel_rfl
  have hp : Tryz.prog.stoodInHeld 45 = false := by kernel_rfl
  unfold mtV
  rw [show (10000 : Nat) = 9999 + 1 from rfl, run_equalIn_agg w 9999 45 _ _ hS hp]
  simp only [Program.fieldsOf, Tryz.underlying45]
  go_simp
set_option maxRecDepth 100000 in
theorem eq_no (a b : Mt) (w : World) (h : a ≠ b) : (Op.equalIn 10000 45 (mtV a) (mtV b)).run Tryz.prog w = .ok false w := by
  have u3 := Tryz.underlying3
  have a3 := Tryz.isAgg3
  have z3 := Tryz.sizeOf3
  have hS : Tryz.prog.underlying 45 = some (.struct (Tryz.prog.fieldsOf 45)) := by kernel_rfl
  have hp : Tryz.prog.stoodInHeld 45 = false := by kernel_rfl
  unfold mtV
  rw [show (10000 : Nat) = 9999 + 1 from rfl, run_equalIn_agg w 9999 45 _ _ hS hp]
  simp only [Program.fieldsOf, Tryz.underlying45]
  go_simp
  by_cases h0 : a.en = b.en
  · by_cases h1 : a.pg = b.pg
    · by_cases h2 : a.tx = b.tx
      · by_cases h3 : a.ro = b.ro
        · by_cases h4 : a.co = b.co
          · by_cases h5 : a.fr = b.fr
            · by_cases h6 : a.li = b.li
              · by_cases h7 : a.hi = b.hi
                · exact absurd (Mt.ext8 h0 h1 h2 h3 h4 h5 h6 h7) h
                · simp [h0, h1, h2, h3, h4, h5, h6, h7]
              · simp [h0, h1, h2, h3, h4, h5, h6]
            · simp [h0, h1, h2, h3, h4, h5]
          · simp [h0, h1, h2, h3, h4]
        · simp [h0, h1, h2, h3]
      · simp [h0, h1, h2]
    · simp [h0, h1]
  · simp [h0]
end Go.Proofs.YtbnjojplfbibkaaGreatDoor
