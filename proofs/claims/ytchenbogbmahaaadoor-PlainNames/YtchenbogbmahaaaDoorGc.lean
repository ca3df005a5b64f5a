/- The chapter's first example, as numbers. -/
import Derived.Test.YtchenbogbmahaaaDoorGb
import Derived.Lib.SlBytesConst
namespace Go.Proofs.YtchenbogbmahaaaDoor
open Go.RowKit

/-- The cell a = xy. -/
def cA : Cl := ⟨[97], 1, [120, 121], 0, 0⟩
set_option maxRecDepth 100000 in
theorem cA_wf : cA.Wf := ⟨Wf.cons (by omega) Wf.nil, Wf.cons (by omega) (Wf.cons (by omega) Wf.nil)⟩
set_option maxRecDepth 100000 in
theorem cA_may : mayP 2 512 cA := by decide
set_option maxRecDepth 100000 in
theorem cA_chk : chk 2 512 none [cA] = 0 := by decide
set_option maxRecDepth 100000 in
theorem cA_sz : szN [cA] = 18 := by decide
set_option maxRecDepth 100000 in
theorem cA_bdy : bdy [cA] = [1, 0, 1, 97, 0, 2, 120, 121] := by decide
set_option maxRecDepth 100000 in
theorem pw512 : pw 512 := by decide
set_option maxRecDepth 100000 in
theorem isKd2 : isKd 2 := by decide
set_option maxRecDepth 100000 in
theorem isKd1 : ¬ isKd 1 := by decide
set_option maxRecDepth 100000 in
theorem cA_enc : encE 2 512 [cA] = 0 := by
  unfold encE
  rw [if_pos ⟨isKd2, pw512⟩, if_pos cA_chk, if_neg (by rw [cA_sz]; decide)]
/-- Its page. -/
def pA : List Int := pgB 2 512 [cA]
set_option maxRecDepth 100000 in
theorem pA_is : Is 2 512 [cA] pA := ⟨isKd2, pw512, cA_chk, by rw [cA_sz]; decide, rfl⟩
set_option maxRecDepth 100000 in
theorem pA_len : pA.length = 512 := pgB_length 2 512 [cA] (by rw [cA_sz]; decide)
set_option maxRecDepth 100000 in
theorem pA_wf : Wf pA := pgB_wf (by omega) (fun c hc => by simp at hc; subst hc; exact cA_wf)
set_option maxRecDepth 100000 in
theorem pA_kd : pA.getD 0 0 = 2 := (readM_of pA_is).2.2
set_option maxRecDepth 100000 in
theorem pA_one (cs : List Cl) (h : Is (pA.getD 0 0) pA.length cs pA) : cs = [cA] := (h.one pA_is).2.2
set_option maxRecDepth 100000 in
theorem pA_split : ∃ U : List Int, U.length = 4 ∧ pA = [2, 1, 0, 1, 1, 244] ++ (zs 494 ++ ([1, 0, 1, 97, 0, 2, 120, 121] ++ U)) := by
  obtain ⟨U, hU, h⟩ := pgB_split 2 512 [cA]
  refine ⟨U, hU, ?_⟩
  rw [show pA = pgB 2 512 [cA] from rfl, h, cA_bdy, cA_sz]
  have e1 : sloB (sts (512 - 4 - ([1, 0, 1, 97, 0, 2, 120, 121] : List Int).length) [cA]) = [1, 244] := by decide
  have e2 : fB 2 (([cA] : List Cl).length : Int) = [0, 1] := by decide
  rw [e1, e2]
  rfl
set_option maxRecDepth 100000 in
theorem pA_six : (pA.drop 0).take 6 = [2, 1, 0, 1, 1, 244] := by
  obtain ⟨U, _, h⟩ := pA_split
  rw [h, List.drop_zero]
  rfl
set_option maxRecDepth 100000 in
theorem pA_cell : (pA.drop 500).take 8 = [1, 0, 1, 97, 0, 2, 120, 121] := by
  obtain ⟨U, _, h⟩ := pA_split
  rw [h, ← List.append_assoc, List.drop_left' (by simp [zs_length])]
  rfl
set_option maxRecDepth 100000 in
/-- One cell in a slice of its own. -/
theorem slc_one {u : World} {ka va : Option Addr} {kn kc vn vc : Nat} {kd pg ct : Int} {key val : List Int} (hk : Sl u ka kn kc key) (hv : Sl u va vn vc val) :
    SlC (u.alloc (.cells #[.slice ka kn kc, .int .i64 kd, .slice va vn vc, .int .i64 pg, .int .i64 ct] 32)) (some ⟨u.heap.size, 0, none⟩) 1 1 [⟨key, kd, val, pg, ct⟩] := by
  have hb : Below u.heap.size u (u.alloc (.cells #[.slice ka kn kc, .int .i64 kd, .slice va vn vc, .int .i64 pg, .int .i64 ct] 32)) := bl_al (Below.refl _ _) (Nat.le_refl _) _
  have hb5 := C5.box u (.slice ka kn kc) (.int .i64 kd) (.slice va vn vc) (.int .i64 pg) (.int .i64 ct)
  obtain ⟨e0, e1, e2, e3, e4⟩ := hb5.cells
  refine ⟨rfl, Nat.le_refl _, by omega, (by intro h; cases h), .inr ⟨u.heap.size, 0, rfl, lt_some hb5, fun i c hc => ?_⟩⟩
  have hi : i = 0 := by have := (List.getElem?_eq_some_iff.1 hc).1; simpa using this
  subst hi
  simp only [List.getElem?_cons_zero, Option.some.injEq] at hc
  subst hc
  refine ⟨ka, kc, va, vc, ?_, e1, ?_, e3, e4, ?_, ?_⟩
  · rw [hk.hlen]; exact e0
  · rw [hv.hlen]; exact e2
  · rw [hk.hlen]; exact hk.on (Nat.le_refl _) hb
  · rw [hv.hlen]; exact hv.on (Nat.le_refl _) hb
set_option maxRecDepth 100000 in
theorem conv6H (w : World) (C : Array Value) (n c H : Nat) (hH : w.heap.size = H) : (convert 27 27 (.slice (some ⟨H, 0, none⟩) n c)).run Tryd.prog (w.alloc (.cells C 5)) = .ok (.slice (some ⟨H, 0, none⟩) n c) (w.alloc (.cells C 5 (C.size, C.size + 1))) := by
  subst hH
  exact Lib.run_convert_bytes_const (P := Tryd.prog) w 27 5 C n c Tryd.underlying27 Tryd.underlying5
end Go.Proofs.YtchenbogbmahaaaDoor
