import Derived.Test.YtoejadhlkamcjaaDoorJ09
namespace Go.Proofs.YtoejadhlkamcjaaDoor
set_option maxRecDepth 100000
open Go.RowKit Go.Maps
def thr (M : Int → Option Pf) (pg n all : Int) : Nat → Int → List Int → List Int → Int → Int × List Int × List Int × Int
 | 0, _, ps, d, r => (0, ps, d, r)
 | k + 1, a, ps, d, r => if a ∈ ps then (90, [], [], r) else match ldM M pg a with
  | .inl e => (e, [], [], r + isM M a)
  | .inr x => if (x.2.length : Int) ≠ min (pg - 16) (n - d.length) ∨ decide (((ps.length + 1 : Nat) : Int) = all) ≠ decide (x.1 = 0) then (90, [], [], r + isM M a) else thr M pg n all k x.1 (ps ++ [a]) (d ++ x.2) (r + isM M a)
theorem ldM_fault {M : Int → Option Pf} {pg a e : Int} (h : ldM M pg a = .inl e) : e ≠ 0 := by
 unfold ldM at h
 split at h
 ·injection h with h; omega
 ·split at h
  ·injection h with h; omega
  ·split at h
   ·injection h with h; omega
   ·cases h
theorem spD_wf {b : List Int} {n : Int} {d : List Int} (hw : Wf b) (h : spD b = some (n, d)) : Wf d := by
 unfold spD at h
 split at h
 ·injection h with h
  injection h with _ h
  rw [← h]
  exact spT_wf hw
 ·cases h
theorem ldM_good {M : Int → Option Pf} {pg a nx : Int} {d : List Int} (h : ldM M pg a = .inr (nx, d)) (hw : ∀ k f, M k = some f → Wf f.l) : Wf d ∧ nxt nx ∧ 1 ≤ d.length ∧ d.length ≤ 65520 ∧ isM M a = 1 := by
 unfold ldM at h
 split at h
 ·cases h
 ·rename_i f hf
  split at h
  ·cases h
  ·rename_i hl
   split at h
   ·cases h
   ·rename_i x hx
    injection h with h
    subst h
    obtain ⟨h1, h2⟩ := spD_inv hx
    obtain ⟨p1, p2, p3, p4⟩ := spE_zero.1 h1
    have := pw_le p1
    refine ⟨spD_wf (hw a f hf) hx, p2, p3, by omega, ?_⟩
    unfold isM
    rw [hf]
    rfl
theorem Bn.lows {w : World} {b m : Nat} {en pg ps rd : Int} {M : Int → Option Pf} {ct : Nat} (h : Bn w b m en pg ps rd M ct) (k : Int) (f : Pf) (hk : M k = some f) : f.l.length = 0 ∨ f.g < w.heap.size := by
 rcases (h.pgs k f hk).1.hat with h0 | ⟨b', o, e, hlt, _⟩
 ·exact .inl h0
 ·cases e
  exact .inr hlt
theorem Bn.wfs {w : World} {b m : Nat} {en pg ps rd : Int} {M : Int → Option Pf} {ct : Nat} (h : Bn w b m en pg ps rd M ct) (k : Int) (f : Pf) (hk : M k = some f) : Wf f.l := (h.pgs k f hk).1.wf
theorem Bn.up {w wr w' : World} {b m : Nat} {en pg ps rd rd' : Int} {M : Int → Option Pf} {ct ct' : Nat} (h0 : Bn w b m en pg ps rd M ct) (h : Bn wr b m en pg ps rd' M ct') (hb : Below w.heap.size wr w') : Bn w' b m en pg ps rd' M ct' := by
 have l1 := h0.lt
 have l2 := h0.mlt
 refine ⟨(hb.block b l1).trans h.box, ?_, fun k f hk => ?_⟩
 ·obtain ⟨D, h1, h2⟩ := h.mp
  obtain ⟨es, clock, hbb, R, hs, hD⟩ := h1
  exact ⟨D, ⟨es, clock, (hb.block m l2).trans hbb, R, hs, hD⟩, h2⟩
 ·obtain ⟨h1, h2, h3⟩ := h.pgs k f hk
  refine ⟨⟨h1.hlen, h1.hcap, h1.hroom, h1.wf, h1.hnil, ?_⟩, h2, h3⟩
  rcases h0.lows k f hk with h4 | h4
  ·exact .inl h4
  ·rcases h1.hat with h5 | ⟨b', o, e, hlt, hc⟩
   ·exact .inl h5
   ·cases e
    exact .inr ⟨f.g, 0, rfl, Nat.lt_of_lt_of_le hlt hb.size, fun i hi => (hb.cell (p := ⟨f.g, 0 + i, none⟩) h4).trans (hc i hi)⟩
theorem Cf.thenB {F : Nat → Prop} {a b c : World} (h : Cf F a b) (k : Below a.heap.size b c) : Cf F a c :=
 ⟨k.os.trans h.os, k.tape.trans h.tape, k.output.trans h.output, Nat.le_trans h.size k.size, fun i hi hf => (k.block i hi).trans (h.block i hi hf)⟩
theorem OwnB.gr {w w' : World} {B : Nat} {v : Value} {l : List Int} {u u' : Value} (h : OwnB w B v l) (hg : Gr w u w' u') (hne : v.ownBlock = none ∨ v.ownBlock ≠ u.ownBlock) : OwnB w' B v l := World.ownsRow.kept h hg.grow hne
theorem OwnB.cf {w w' : World} {B : Nat} {v : Value} {l : List Int} {F : Nat → Prop} (h : OwnB w B v l) (hc : Cf F w w') (hf : ∀ k, v.ownBlock = some k → ¬ F k) : OwnB w' B v l := by
 unfold OwnB at *
 rcases h.2 with h2 | ⟨g, cap, cur, e, hg, hh, rest⟩
 ·exact ⟨h.1, .inl h2⟩
 ·refine ⟨h.1, .inr ⟨g, cap, cur, e, hg, ?_, rest⟩⟩
  rw [hc.block g (lt_some hh) (hf g (by rw [e]; rfl))]
  exact hh
theorem own_apart {w : World} {B C : Nat} {v1 v2 : Value} {ps d : List Int} (h1 : OwnJ w B v1 ps) (h2 : OwnB w C v2 d) : v1.ownBlock = none ∨ v1.ownBlock ≠ v2.ownBlock := by
 unfold OwnJ at h1
 unfold OwnB at h2
 rcases h1.2 with ⟨rfl, _⟩ | ⟨g, cap, cur, rfl, hg, hh, _⟩
 ·exact .inl rfl
 ·right
  rcases h2.2 with ⟨rfl, _⟩ | ⟨g2, cap2, cur2, rfl, hg2, hh2, _⟩
  ·simp [Value.ownBlock]
  ·simp only [Value.ownBlock]
   intro e
   injection e with e
   subst e
   rw [hh] at hh2
   cases hh2
theorem own_apart2 {w : World} {B C : Nat} {v1 v2 : Value} {ps d : List Int} (h1 : OwnJ w B v1 ps) (h2 : OwnB w C v2 d) : v2.ownBlock = none ∨ v2.ownBlock ≠ v1.ownBlock := by
 rcases own_apart h1 h2 with h | h
 ·cases e : v2.ownBlock with
  | none => exact .inl rfl
  | some k => right; rw [h]; simp
 ·exact .inr fun e => h e.symm
theorem OwnB.blk {w : World} {B : Nat} {v : Value} {l : List Int} (h : OwnB w B v l) {k : Nat} (hk : v.ownBlock = some k) : B ≤ k ∧ k < w.heap.size := by
 unfold OwnB at h
 exact h.lt k hk
end Go.Proofs.YtoejadhlkamcjaaDoor
