/- The cache whole: who goes when room is made. -/
import Derived.Test.YtmelhpghpcpoiabDe
namespace Go.Proofs.Ytmelhpghpcpoiab
open Go.RowKit Go.Maps

/-- How far a link is from the young end. -/
def ms : List Fr → Nat → Nat
  | [], _ => 0
  | f :: r, b => if f.b = b then r.length + 1 else ms r b
set_option maxRecDepth 100000 in
theorem ms_mid (A B : List Fr) (f : Fr) (h : ∀ x ∈ A, x.b ≠ f.b) : ms (A ++ f :: B) f.b = B.length + 1 := by
  induction A with
  | nil => simp [ms]
  | cons x r ih =>
    show (if x.b = f.b then _ else ms (r ++ f :: B) f.b) = _
    rw [if_neg (h x (by simp)), ih fun y hy => h y (by simp [hy])]
/-- The measure of a walk along the row. -/
def msV (fs : List Fr) (v : Value) : Nat := match v with | .pointer (some ad) => ms fs ad.block | _ => 0
set_option maxRecDepth 100000 in
theorem msV_op (A B : List Fr) (h : ((A ++ B).map Fr.b).Nodup) : msV (A ++ B) (op (hd B none)) = B.length := by
  cases B with
  | nil => rfl
  | cons f r =>
    show ms (A ++ f :: r) f.b = _
    rw [List.map_append, List.nodup_append] at h
    exact ms_mid A r f fun x hx => h.2.2 _ (List.mem_map_of_mem hx) _ (by simp)
set_option maxRecDepth 100000 in
theorem row_at {w : World} {p : Nat} {A R : List Fr} {f : Fr} (h : sg w p none (A ++ f :: R) none) : Hs w f.b (lc p f (lst none A) (hd R none)) tL := by
  rw [sg_app] at h
  exact h.2.1
/-- Who goes: the page that was used longest ago, of those that are not pinned. -/
def lv (fs : List Fr) : Option Fr := fs.find? fun f => decide (f.pins = 0)
set_option maxRecDepth 100000 in
theorem lv_some {A R : List Fr} {f : Fr} (hA : ∀ x ∈ A, x.pins ≠ 0) (hf : f.pins = 0) : lv (A ++ f :: R) = some f := by
  unfold lv
  rw [List.find?_append, List.find?_eq_none.2 (fun x hx => by simpa using hA x hx)]
  simp [hf]
set_option maxRecDepth 100000 in
theorem lv_none {A : List Fr} (hA : ∀ x ∈ A, x.pins ≠ 0) : lv A = none := List.find?_eq_none.2 fun x hx => by simpa using hA x hx
set_option maxRecDepth 100000 in
theorem lv_split {fs : List Fr} {f : Fr} (h : lv fs = some f) : ∃ A R, fs = A ++ f :: R ∧ f.pins = 0 := by
  have hm := List.mem_of_find?_eq_some h
  have hp := List.find?_some h
  obtain ⟨A, R, e⟩ := List.append_of_mem hm
  exact ⟨A, R, e, by simpa using hp⟩
def lvV (fs : List Fr) : Value := match lv fs with | some f => .tuple #[pt f.b, .int .i64 0] | none => .tuple #[.pointer none, .int .i64 40]
set_option maxRecDepth 100000 in
set_option maxHeartbeats 1000000 in
theorem leaver_full (w : World) (c a : Nat) (fr h mi ev : Int) (m p : Nat) (fs : List Fr) (r : Cw w c a fr h mi ev m p fs) (hge : ¬ (fs.length : Int) < fr) (hb : ∀ f ∈ fs, (f.pins : Int) < 4611686018427387904) :
    Calls Try.prog 31 #[pt c] w fun e u => e = .returned (lvV fs) ∧ u = w.drew := by
  have c1 : w.cell? ⟨c, 1, none⟩ = some (.int .i64 fr) := r.row.hc.cell 1
  have c2 : w.cell? ⟨c, 2, none⟩ = some (.map (some m)) := r.row.hc.cell 2
  have c3 : w.cell? ⟨c, 3, none⟩ = some (op (hd fs none)) := r.row.hc.cell 3
  obtain ⟨D, hm, hD⟩ := r.mp
  have hl := len_is (w := w.drew) hm
  rw [hD.sz] at hl
  have HR := hidden r
  clear r hm hD
  go_enter Try.func31, Try.ntmps31
  go_wp2
  go_region
  go_wp2_with fail
  generalize hv0 : op (hd fs none) = v0 at *
  go_loopw [4] (fun i wr => (∃ A R, fs = A ++ R ∧ (∀ x ∈ A, x.pins ≠ 0) ∧ i = op (hd R none)) ∧ wr = w.drew) (fun i _ => msV fs i)
  case atStart => exact ⟨⟨[], fs, rfl, fun _ h => absurd h List.not_mem_nil, hv0.symm⟩, rfl⟩
  case round =>
    obtain ⟨⟨A, R, e, hA, hi⟩, rfl⟩ := hrel
    clear hv0
    cases R with
    | nil =>
      rw [List.append_nil] at e
      subst e
      replace hi := hi.trans (show op (hd [] none) = .pointer none from rfl)
      subst hi
      go_wp2
      go_ret2
      exact ⟨by rw [lvV, lv_none hA]; rfl, rfl⟩
    | cons f R =>
      subst e
      replace hi := hi.trans (show op (hd (f :: R) none) = pt f.b from rfl)
      subst hi
      have hf := row_at HR.out.row.hr
      have y3 : w.cell? ⟨f.b, 3, none⟩ = some (.int .i64 (f.pins : Int)) := hf.cell 3
      have y5 : w.cell? ⟨f.b, 5, none⟩ = some (op (hd R none)) := hf.cell 5
      have hm := msV_op A (f :: R) HR.out.row.nd
      have hm2 := msV_op (A ++ [f]) R (by simpa using HR.out.row.nd)
      have em : (A ++ [f]) ++ R = A ++ f :: R := by simp
      rw [em] at hm2
      have HM := hidden hm
      have HM2 := hidden hm2
      by_cases h0 : f.pins = 0
      · rw [h0] at y3
        clear hf hm hm2
        go_wp2
        go_ret2
        exact ⟨by rw [lvV, lv_some hA h0]; rfl, rfl⟩
      · have h0' : ¬ (f.pins : Int) = 0 := by omega
        clear hf hm hm2
        have HB := hidden hb
        clear hb
        go_wp2
        go_roundw
        case rel =>
          refine ⟨⟨A ++ [f], R, em.symm, fun x hx => ?_, ?_⟩, ?_⟩
          · rcases List.mem_append.1 hx with hx | hx
            · exact hA x hx
            · obtain rfl : x = f := by simpa using hx
              exact h0
          · first | rfl | trivial
          · first | rfl | trivial
        case measure =>
          have h1 : msV (A ++ f :: R) (pt f.b) = (f :: R).length := HM.out
          have h2 := HM2.out
          simp only [List.length_cons] at h1
          show msV _ (op (hd R none)) < msV _ (pt f.b)
          omega
end Go.Proofs.Ytmelhpghpcpoiab
