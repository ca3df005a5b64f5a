import Derived.Test.YtoejadhlkamcjaaDoorJ37
namespace Go.Proofs.YtoejadhlkamcjaaDoor
set_option maxRecDepth 100000
open Go.RowKit Go.Maps
theorem newBench_no2 (w : World) (pg ps : Int) (h : ¬ (pw pg ∧ 2 ≤ ps ∧ ps ≤ 65536)) : Calls Tryd.prog 5 #[.int .i64 2, .int .i64 pg, .int .i64 ps] w fun e u => e = .returned (.pointer none) ∧ u = w := by
 by_cases h1 : pg < 512
 ·have d1 : decide (pg < 512) = true := by simpa using h1
  clear h
  go_enter Tryd.func5, Tryd.ntmps5
  go_wp2
  go_ret
  exact ⟨rfl, rfl⟩
 ·have d1 : decide (pg < 512) = false := by simpa using h1
  by_cases h2 : 65536 < pg
  ·have d2 : decide (65536 < pg) = true := by simpa using h2
   clear h
   go_enter Tryd.func5, Tryd.ntmps5
   go_wp2
   go_ret
   exact ⟨rfl, rfl⟩
  ·by_cases hz : bits .and .i64 pg (pg - 1) = 0
   ·have hp : pw pg := (pow_iff pg (by omega) (by omega)).1 hz
    have d2 : decide (65536 < pg) = false := by simpa using h2
    by_cases h3 : ps < 2
    ·have d3 : decide (ps < 2) = true := by simpa using h3
     clear h hp
     go_enter Tryd.func5, Tryd.ntmps5
     go_wp2
     go_ret
     exact ⟨rfl, rfl⟩
    ·have d3 : decide (ps < 2) = false := by simpa using h3
     have h4 : 65536 < ps := by
      by_cases h5 : 65536 < ps
      ·exact h5
      ·exact absurd ⟨hp, by omega, by omega⟩ h
     have d4 : decide (65536 < ps) = true := by simpa using h4
     clear h hp
     go_enter Tryd.func5, Tryd.ntmps5
     go_wp2
     go_ret
     exact ⟨rfl, rfl⟩
   ·obtain ⟨z, hzz⟩ : ∃ z, bits .and .i64 pg (pg - 1) = z := ⟨_, rfl⟩
    rw [hzz] at hz
    have d2 : (z == 0) = false := by rw [beq_eq_false_iff_ne]; exact hz
    clear h
    go_enter Tryd.func5, Tryd.ntmps5
    go_wp2
    go_ret
    exact ⟨rfl, rfl⟩
theorem tkL_some (N : Int → Option Pf) : ∀ (j : Nat) (a : Int), a ∈ tkL N j → (N a).isSome = true
 | 0, a, h => by simp [tkL] at h
 | j + 1, a, h => by
  simp only [tkL] at h
  rcases List.mem_append.1 h with e | e
  ·exact tkL_some N j a e
  ·split at e
   ·rename_i h1
    obtain rfl : a = _ := List.mem_singleton.1 e
    exact h1
   ·cases e
structure Os9 where
 k : Int
 f : Int
 n : Int
 fr : Int
 to : Int
 v : List Int
structure SlS9 (w : World) (ao : Option Addr) (n cap : Nat) (os : List Os9) : Prop where
 hlen : os.length = n
 hcap : n ≤ cap
 hat : n = 0 ∨ ∃ b off, ao = some ⟨b, off, none⟩ ∧ b < w.heap.size ∧ ∀ i o, os[i]? = some o → ∃ (va : Option Addr) (vc : Nat), w.cell? ⟨b, off + i * 6, none⟩ = some (.int .i64 o.k) ∧ w.cell? ⟨b, off + i * 6 + 1, none⟩ = some (.int .i64 o.f) ∧ w.cell? ⟨b, off + i * 6 + 2, none⟩ = some (.int .i64 o.n) ∧ w.cell? ⟨b, off + i * 6 + 3, none⟩ = some (.int .i64 o.fr) ∧ w.cell? ⟨b, off + i * 6 + 4, none⟩ = some (.int .i64 o.to) ∧ w.cell? ⟨b, off + i * 6 + 5, none⟩ = some (.slice va o.v.length vc) ∧
  Sl w va o.v.length vc o.v ∧ -9223372036854775808 ≤ o.f ∧ o.f ≤ 9223372036854775807
variable {w u : World} {B x b m b2 m2 P T t : Nat}
theorem Pp9.on (h : Pp9 w B x b m b2 m2 P T t) (hb : Below w.heap.size w u) : Pp9 u B x b m b2 m2 P T t := by
 obtain ⟨rd, M, N, ct, K, rb, R, FL, its, lss, h1, h2, h3, h4⟩ := h
 exact ⟨rd, M, N, ct, K, rb, R, FL, its, lss, h1.on hb, h2, h3.moreK (Cf.of_below hb) h1 (fun _ e => e), h4⟩
theorem Pp9.new (hx : w.heap[x]? = some (rowX b b2 fun _ => .slice none 0 0)) (h1 : Bn w b m 2 (P : Int) ((T : Int) + 2) 0 (fun _ => none) 0) (h2 : Bn w b2 m2 2 (P : Int) ((T : Int) + 2) 0 (fun _ => none) 0)
  (hd : x ≠ b ∧ x ≠ m ∧ x ≠ b2 ∧ x ≠ m2 ∧ b ≠ b2 ∧ b ≠ m2 ∧ m ≠ b2 ∧ m ≠ m2) (hB : B ≤ x ∧ B ≤ b ∧ B ≤ m ∧ B ≤ b2 ∧ B ≤ m2) : Pp9 w B x b m b2 m2 P T 0 :=
 ⟨0, fun _ => none, fun _ => none, 0, fun _ => False, fun _ => .slice none 0 0, fun _ => [], [], [], [], ⟨hx, h1, h2, Gd9.nil _, Gd9.nil _, (fun k f e => by cases e), (fun k f e => by cases e), (fun g e => e.elim), (fun i _ => ⟨rfl, .inl ⟨rfl, rfl⟩⟩), hd, (fun i _ k e => by cases e), (fun i j _ _ _ k e => by cases e), hB⟩, rfl, ⟨rfl, rfl, rfl, rfl, rfl, (fun a e => by cases e), (fun y e => by cases e), (fun i j y y' e => by cases e), (fun y e => by cases e), (fun i j y y' e => by cases e)⟩, Nat.le_refl _, Nat.le_refl _, Nat.le_refl _, Int.le_refl _, by omega⟩
end Go.Proofs.YtoejadhlkamcjaaDoor
