import Derived.Test.YtoejadhlkamcjaaDoorJ03
import Derived.Test.YtoejadhlkamcjaaDoorJ27
import Derived.Test.YtoejadhlkamcjaaDoorJ19
namespace Go.Proofs.YtoejadhlkamcjaaDoor
set_option maxRecDepth 100000
open Go.RowKit
def rF (l : List Int) (p x : Int) : Int × Int := if (x < 1 ∨ 8 < x) ∨ (p < 0 ∨ l.length < p) then (0, 1) else if (l.length : Int) - p < x then (0, 10) else (rdB ((l.drop p.toNat).take x.toNat), 0)
set_option maxHeartbeats 1000000 in
theorem refReadFixed_all (ao : Option Addr) (n cap : Nat) (l : List Int) (p' x : Int) (w : World) (hs : Sl w ao n cap l) :
  Calls Tryd.prog 66 #[.slice ao n cap, .int .i64 p', .int .i64 x] w fun e w' => e = .returned (.tuple #[.int .u64 (rF l p' x).1, .int .i64 (rF l p' x).2]) ∧ w' = w := by
 obtain ⟨hlen, hcap, hroom, hwf, hnil, hat⟩ := hs
 unfold rF
 by_cases h : (x < 1 ∨ 8 < x) ∨ (p' < 0 ∨ l.length < p')
 ·rw [if_pos h]
  rw [hlen] at h
  rcases h with (h | h) | (h | h)
  ·go_enter Tryd.func66, Tryd.ntmps66
   go_wp2
   go_ret2
   exact ⟨rfl, rfl⟩
  ·have h' : ¬ x < 1 := by omega
   go_enter Tryd.func66, Tryd.ntmps66
   go_wp2
   go_ret2
   exact ⟨rfl, rfl⟩
  ·by_cases h1 : x < 1
   ·go_enter Tryd.func66, Tryd.ntmps66
    go_wp2
    go_ret2
    exact ⟨rfl, rfl⟩
   ·by_cases h8 : 8 < x
    all_goals
     go_enter Tryd.func66, Tryd.ntmps66
     go_wp2
     go_ret2
     exact ⟨rfl, rfl⟩
  ·by_cases h1 : x < 1
   ·go_enter Tryd.func66, Tryd.ntmps66
    go_wp2
    go_ret2
    exact ⟨rfl, rfl⟩
   ·have hp0 : ¬ p' < 0 := by omega
    by_cases h8 : 8 < x
    all_goals
     go_enter Tryd.func66, Tryd.ntmps66
     go_wp2
     go_ret2
     exact ⟨rfl, rfl⟩
 ·rw [if_neg h]
  rw [hlen] at h ⊢
  have h1 : 1 ≤ x := by omega
  have h2 : x ≤ 8 := by omega
  have h3 : 0 ≤ p' := by omega
  have h4 : p' ≤ n := by omega
  clear h
  by_cases h5 : (n : Int) - p' < x
  ·rw [if_pos h5]
   go_enter Tryd.func66, Tryd.ntmps66
   go_wp2
   go_ret2
   exact ⟨rfl, rfl⟩
  ·rw [if_neg h5]
   obtain ⟨width, rfl⟩ := Int.eq_ofNat_of_zero_le (show 0 ≤ x by omega)
   obtain ⟨p, rfl⟩ := Int.eq_ofNat_of_zero_le h3
   rw [Int.toNat_natCast, Int.toNat_natCast]
   rcases hat with h | ⟨b, off, rfl, hb, hc⟩
   ·omega
   have hd : ((l.drop p).take width).length = width := by simp; omega
   have hwd : Wf ((l.drop p).take width) := (hwf.drop p).take width
   go_enter Tryd.func66, Tryd.ntmps66
   go_wp2_with fail
   go_loop [8, 9] (fun v i => ∃ k : Nat, k ≤ width ∧ i = .int .i64 ((p : Int) + k) ∧ v = .int .u64 (rdB (((l.drop p).take width).take k))) (fun _ i => ((p : Int) + width - intOf i).toNat)
   case atStart => exact ⟨0, by omega, by simp, by simp [rdB]⟩
   case round =>
    obtain ⟨k, hk, rfl, rfl⟩ := hrel
    by_cases hlt : k < width
    ·have hck : w.cell? ⟨b, off + (p + k), none⟩ = some (.int .u8 (((l.drop p).take width).getD k 0)) := by
      rw [hc (p + k) (by omega)]
      simp [List.getD, hlt]
     have hby := hwd.getD k
     have hsm := rdB_small _ (hwd.take k) k (by omega) (by simp; omega)
     have hsn : rdB (((l.drop p).take width).take (k + 1)) = rdB (((l.drop p).take width).take k) * 256 + ((l.drop p).take width).getD k 0 := by
      rw [take_snoc _ k (by omega), rdB_snoc]
     generalize ((l.drop p).take width).getD k 0 = c at *
     generalize rdB (((l.drop p).take width).take k) = m at *
     have HS := hidden hsn
     clear hsn hc
     go_wp2
     go_round
     case rel => exact ⟨k + 1, by omega, by go_num, by rw [HS.out, Int.mul_comm m 256]⟩
     case measure => simp [intOf]; omega
    ·obtain rfl : k = width := by omega
     have ht : ((l.drop p).take k).take k = (l.drop p).take k := List.take_of_length_le (by omega)
     go_wp2
     go_ret2
     exact ⟨rfl, rfl⟩
end Go.Proofs.YtoejadhlkamcjaaDoor

namespace Go.Proofs.YtoejadhlkamcjaaDoor
set_option maxRecDepth 100000
open Go.RowKit
def dNx (l : List Int) : Int := match spD l with | some (n, _) => n | none => 0
def dBy (l : List Int) : List Int := match spD l with | some (_, d) => d | none => []
def dKy (l : List Int) : Int := match spD l with | some _ => 0 | none => 60
theorem d_yes {l : List Int} (h : spIs l) : dNx l = rdN l 4 4 ∧ dBy l = spT l ∧ dKy l = 0 := by unfold dNx dBy dKy; rw [spD_yes h]; exact ⟨rfl, rfl, rfl⟩
theorem d_no {l : List Int} (h : ¬ spIs l) : dNx l = 0 ∧ dBy l = [] ∧ dKy l = 60 := by unfold dNx dBy dKy; rw [spD_no h]; exact ⟨rfl, rfl, rfl⟩
theorem dBy_wf {l : List Int} (h : Wf l) : Wf (dBy l) := by
 by_cases hd : spIs l
 ·rw [(d_yes hd).2.1]; exact (h.drop _).take _
 ·rw [(d_no hd).2.1]; exact Wf.nil
theorem dBy_len {l : List Int} : (dBy l).length ≤ 65536 := by
 by_cases hd : spIs l
 ·rw [(d_yes hd).2.1]
  have := pw_le hd.1
  unfold spT
  rw [List.length_take, List.length_drop]
  omega
 ·rw [(d_no hd).2.1]; simp
end Go.Proofs.YtoejadhlkamcjaaDoor

namespace Go.Proofs.YtoejadhlkamcjaaDoor
set_option maxRecDepth 100000
open Go.RowKit Go.Maps
def tyr : Nat → TypeId
 | 0 => 3
 | 1 => 33
 | 2 => 9
 | _ => 27
def Mu (x b m b2 m2 : Nat) (rb : Nat → Value) (k : Nat) : Prop := (k = x ∨ k = b ∨ k = m ∨ k = b2 ∨ k = m2) ∨ ∃ i, i < 5 ∧ (rb i).ownBlock = some k
def rowX (b b2 : Nat) (rb : Nat → Value) : Obj := .cells #[pB b, pB b2, rb 0, rb 1, rb 2, rb 3, rb 4] 32 (0, 0)
structure Sq9 (w : World) (B x b m b2 m2 : Nat) (P T : Nat) (rd rd2 : Int) (M N : Int → Option Pf) (ct ct2 : Nat) (K : Nat → Prop) (rb : Nat → Value) (R : Nat → List Value) : Prop where
 row : w.heap[x]? = some (rowX b b2 rb)
 br : Bn w b m 2 (P : Int) ((T : Int) + 2) rd M ct
 bd : Bn w b2 m2 2 (P : Int) ((T : Int) + 2) rd2 N ct2
 gM : Gd9 M T ct
 gN : Gd9 N T ct2
 zM : ∀ k f, M k = some f → f.l.length = 0 ∨ K f.g
 zN : ∀ k f, N k = some f → f.l.length = 0 ∨ K f.g
 kl : ∀ g, K g → g < w.heap.size ∧ ¬ Mu x b m b2 m2 rb g
 oo : ∀ i, i < 5 → w.ownsRow B (tyr i) 1 (rb i) (R i).length (R i)
 d1 : x ≠ b ∧ x ≠ m ∧ x ≠ b2 ∧ x ≠ m2 ∧ b ≠ b2 ∧ b ≠ m2 ∧ m ≠ b2 ∧ m ≠ m2
 d2 : ∀ i, i < 5 → ∀ k, (rb i).ownBlock = some k → ¬ (k = x ∨ k = b ∨ k = m ∨ k = b2 ∨ k = m2)
 d3 : ∀ i j, i < 5 → j < 5 → i ≠ j → ∀ k, (rb i).ownBlock = some k → (rb j).ownBlock ≠ some k
 hB : B ≤ x ∧ B ≤ b ∧ B ≤ m ∧ B ≤ b2 ∧ B ≤ m2
theorem rows_cf {w u : World} {B : Nat} {t : TypeId} {v : Value} {n : Nat} {xs : List Value} {F : Nat → Prop} (h : w.ownsRow B t 1 v n xs) (hc : Cf F w u) (hf : ∀ k, v.ownBlock = some k → ¬ F k) : u.ownsRow B t 1 v n xs := by
 rcases h.2 with h2 | ⟨g, cap, cur, e, hg, hh, rest⟩
 ·exact ⟨h.1, .inl h2⟩
 ·refine ⟨h.1, .inr ⟨g, cap, cur, e, hg, ?_, rest⟩⟩
  rw [hc.block g (lt_some hh) (hf g (by rw [e]; rfl))]
  exact hh
def Kx (K : Nat → Prop) (w u : World) (g : Nat) : Prop := K g ∨ (w.heap.size ≤ g ∧ g < u.heap.size)
variable {w u : World} {B x b m b2 m2 P T : Nat} {rd rd2 rd' : Int} {M N M' N' : Int → Option Pf} {ct ct2 ct' : Nat} {K : Nat → Prop} {rb : Nat → Value} {R : Nat → List Value}
theorem Sq9.lts (h : Sq9 w B x b m b2 m2 P T rd rd2 M N ct ct2 K rb R) {k : Nat} (hk : Mu x b m b2 m2 rb k) : k < w.heap.size ∧ B ≤ k := by
 rcases hk with (rfl | rfl | rfl | rfl | rfl) | ⟨i, hi, e⟩
 ·exact ⟨lt_some h.row, h.hB.1⟩
 ·exact ⟨h.br.lt, h.hB.2.1⟩
 ·exact ⟨h.br.mlt, h.hB.2.2.1⟩
 ·exact ⟨h.bd.lt, h.hB.2.2.2.1⟩
 ·exact ⟨h.bd.mlt, h.hB.2.2.2.2⟩
 ·exact ⟨((h.oo i hi).lt k e).2, ((h.oo i hi).lt k e).1⟩
theorem Sq9.cf {F : Nat → Prop} (h : Sq9 w B x b m b2 m2 P T rd rd2 M N ct ct2 K rb R) (hc : Cf F w u) (hM : ∀ k, Mu x b m b2 m2 rb k → ¬ F k) (hK : ∀ k, K k → ¬ F k) : Sq9 u B x b m b2 m2 P T rd rd2 M N ct ct2 K rb R where
 row := (hc.block x (lt_some h.row) (hM x (.inl (.inl rfl)))).trans h.row
 br := h.br.cf2 hc (hM b (.inl (.inr (.inl rfl)))) (hM m (.inl (.inr (.inr (.inl rfl))))) fun k f e => (h.zM k f e).imp id fun q => hK _ q
 bd := h.bd.cf2 hc (hM b2 (.inl (.inr (.inr (.inr (.inl rfl)))))) (hM m2 (.inl (.inr (.inr (.inr (.inr rfl)))))) fun k f e => (h.zN k f e).imp id fun q => hK _ q
 gM := h.gM
 gN := h.gN
 zM := h.zM
 zN := h.zN
 kl := fun g hg => ⟨Nat.lt_of_lt_of_le (h.kl g hg).1 hc.size, (h.kl g hg).2⟩
 oo := fun i hi => rows_cf (h.oo i hi) hc fun k e => hM k (.inr ⟨i, hi, e⟩)
 d1 := h.d1
 d2 := h.d2
 d3 := h.d3
 hB := h.hB
theorem Sq9.on (h : Sq9 w B x b m b2 m2 P T rd rd2 M N ct ct2 K rb R) (hb : Below w.heap.size w u) : Sq9 u B x b m b2 m2 P T rd rd2 M N ct ct2 K rb R := h.cf (F := fun _ => False) (Cf.of_below hb) (fun _ _ e => e) (fun _ _ e => e)
theorem Sq9.actr (h : Sq9 w B x b m b2 m2 P T rd rd2 M N ct ct2 K rb R) (hr : Bn u b m 2 (P : Int) ((T : Int) + 2) rd' M' ct') (hc : Cf (fun k => k = b ∨ k = m) w u) (hg : Gd9 M' T ct') (hz : Zs w M M') : Sq9 u B x b m b2 m2 P T rd' rd2 M' N ct' ct2 (Kx K w u) rb R := by
 have hs := hc.size
 have hbm : ∀ k, K k → ¬ (k = b ∨ k = m) := fun k hk e => (h.kl k hk).2 (.inl (e.elim (fun e => .inr (.inl e)) (fun e => .inr (.inr (.inl e)))))
 refine ⟨(hc.block x (lt_some h.row) fun e => e.elim h.d1.1 h.d1.2.1).trans h.row, hr, h.bd.cf2 hc (fun e => e.elim (fun e => h.d1.2.2.2.2.1 e.symm) (fun e => h.d1.2.2.2.2.2.2.1 e.symm)) (fun e => e.elim (fun e => h.d1.2.2.2.2.2.1 e.symm) (fun e => h.d1.2.2.2.2.2.2.2 e.symm)) fun k f e => (h.zN k f e).imp id fun q => hbm _ q, hg, h.gN, fun k f e => ?_, fun k f e => (h.zN k f e).imp id .inl, fun g hg => ?_, fun i hi => rows_cf (h.oo i hi) hc fun k e q => h.d2 i hi k e (q.elim (fun e => .inr (.inl e)) (fun e => .inr (.inr (.inl e)))), h.d1, h.d2, h.d3, h.hB⟩
 ·rcases hz k f e with ⟨k0, e0⟩ | e0
  ·exact (h.zM k0 f e0).imp id .inl
  ·exact (hr.lows k f e).imp id fun q => .inr ⟨e0, q⟩
 ·rcases hg with hg | ⟨h1, h2⟩
  ·exact ⟨Nat.lt_of_lt_of_le (h.kl g hg).1 hs, (h.kl g hg).2⟩
  ·exact ⟨h2, fun hm => by have := (h.lts hm).1; omega⟩
theorem Sq9.actd (h : Sq9 w B x b m b2 m2 P T rd rd2 M N ct ct2 K rb R) (hr : Bn u b2 m2 2 (P : Int) ((T : Int) + 2) rd' N' ct') (hc : Cf (fun k => k = b2 ∨ k = m2) w u) (hg : Gd9 N' T ct') (hz : Zs w N N') : Sq9 u B x b m b2 m2 P T rd rd' M N' ct ct' (Kx K w u) rb R := by
 have hs := hc.size
 have hbm : ∀ k, K k → ¬ (k = b2 ∨ k = m2) := fun k hk e => (h.kl k hk).2 (.inl (e.elim (fun e => .inr (.inr (.inr (.inl e)))) (fun e => .inr (.inr (.inr (.inr e))))))
 refine ⟨(hc.block x (lt_some h.row) fun e => e.elim h.d1.2.2.1 h.d1.2.2.2.1).trans h.row, h.br.cf2 hc (fun e => e.elim h.d1.2.2.2.2.1 h.d1.2.2.2.2.2.1) (fun e => e.elim h.d1.2.2.2.2.2.2.1 h.d1.2.2.2.2.2.2.2) fun k f e => (h.zM k f e).imp id fun q => hbm _ q, hr, h.gM, hg, fun k f e => (h.zM k f e).imp id .inl, fun k f e => ?_, fun g hg => ?_, fun i hi => rows_cf (h.oo i hi) hc fun k e q => h.d2 i hi k e (q.elim (fun e => .inr (.inr (.inr (.inl e)))) (fun e => .inr (.inr (.inr (.inr e))))), h.d1, h.d2, h.d3, h.hB⟩
 ·rcases hz k f e with ⟨k0, e0⟩ | e0
  ·exact (h.zN k0 f e0).imp id .inl
  ·exact (hr.lows k f e).imp id fun q => .inr ⟨e0, q⟩
 ·rcases hg with hg | ⟨h1, h2⟩
  ·exact ⟨Nat.lt_of_lt_of_le (h.kl g hg).1 hs, (h.kl g hg).2⟩
  ·exact ⟨h2, fun hm => by have := (h.lts hm).1; omega⟩
def upd9 {α : Type} (f : Nat → α) (i : Nat) (v : α) : Nat → α := fun j => if j = i then v else f j
theorem upd9_at {α : Type} (f : Nat → α) (i : Nat) (v : α) : upd9 f i v i = v := by unfold upd9; rw [if_pos rfl]
theorem upd9_ne {α : Type} (f : Nat → α) {i j : Nat} (v : α) (h : j ≠ i) : upd9 f i v j = f j := by unfold upd9; rw [if_neg h]
theorem Sq9.push (h : Sq9 w B x b m b2 m2 P T rd rd2 M N ct ct2 K rb R) (i : Nat) (hi : i < 5) (v' : Value) (xs : List Value) (ho : u.ownsRow B (tyr i) 1 v' xs.length xs) (hrow : u.heap[x]? = some (rowX b b2 (upd9 rb i v'))) (hc : Cf (fun k => k = x ∨ (rb i).ownBlock = some k) w u) (hown : ∀ g, v'.ownBlock = some g → (rb i).ownBlock = some g ∨ w.heap.size ≤ g) :
  Sq9 u B x b m b2 m2 P T rd rd2 M N ct ct2 K (upd9 rb i v') (upd9 R i xs) := by
 have hs := hc.size
 have hxF : ∀ k, (k = b ∨ k = m ∨ k = b2 ∨ k = m2) → ¬ (k = x ∨ (rb i).ownBlock = some k) := by
  rintro k hk (rfl | e)
  ·rcases hk with e | e | e | e
   ·exact h.d1.1 e
   ·exact h.d1.2.1 e
   ·exact h.d1.2.2.1 e
   ·exact h.d1.2.2.2.1 e
  ·exact h.d2 i hi k e (.inr hk)
 have hKF : ∀ k, K k → ¬ (k = x ∨ (rb i).ownBlock = some k) := by
  rintro k hk (rfl | e)
  ·exact (h.kl _ hk).2 (.inl (.inl rfl))
  ·exact (h.kl _ hk).2 (.inr ⟨i, hi, e⟩)
 have hnew : ∀ k, v'.ownBlock = some k → ¬ (k = x ∨ k = b ∨ k = m ∨ k = b2 ∨ k = m2) := by
  intro k e q
  rcases hown k e with e1 | e1
  ·exact h.d2 i hi k e1 q
  ·have := (h.lts (.inl q)).1
   omega
 refine ⟨hrow, h.br.cf2 hc (hxF b (.inl rfl)) (hxF m (.inr (.inl rfl))) fun k f e => (h.zM k f e).imp id fun q => hKF _ q, h.bd.cf2 hc (hxF b2 (.inr (.inr (.inl rfl)))) (hxF m2 (.inr (.inr (.inr rfl)))) fun k f e => (h.zN k f e).imp id fun q => hKF _ q, h.gM, h.gN, h.zM, h.zN, fun g hg => ⟨Nat.lt_of_lt_of_le (h.kl g hg).1 hs, ?_⟩, fun j hj => ?_, h.d1, fun j hj k e => ?_, fun j j' hj hj' hne k e e' => ?_, h.hB⟩
 ·rintro (q | ⟨j, hj, e⟩)
  ·exact (h.kl g hg).2 (.inl q)
  ·by_cases ej : j = i
   ·subst ej
    rw [upd9_at] at e
    rcases hown g e with e1 | e1
    ·exact (h.kl g hg).2 (.inr ⟨j, hj, e1⟩)
    ·have := (h.kl g hg).1
     omega
   ·rw [upd9_ne _ _ ej] at e
    exact (h.kl g hg).2 (.inr ⟨j, hj, e⟩)
 ·by_cases ej : j = i
  ·subst ej
   rw [upd9_at, upd9_at]
   exact ho
  ·rw [upd9_ne _ _ ej, upd9_ne _ _ ej]
   refine rows_cf (h.oo j hj) hc fun k e q => ?_
   rcases q with q | q
   ·exact h.d2 j hj k e (.inl q)
   ·exact h.d3 j i hj hi ej k e q
 ·by_cases ej : j = i
  ·subst ej
   rw [upd9_at] at e
   exact hnew k e
  ·rw [upd9_ne _ _ ej] at e
   exact h.d2 j hj k e
 ·by_cases ej : j = i
  ·subst ej
   rw [upd9_at] at e
   rw [upd9_ne _ _ (fun q => hne q.symm)] at e'
   rcases hown k e with e1 | e1
   ·exact h.d3 j j' hj hj' hne k e1 e'
   ·have := ((h.oo j' hj').lt k e').2
    omega
  ·rw [upd9_ne _ _ ej] at e
   by_cases ej' : j' = i
   ·subst ej'
    rw [upd9_at] at e'
    rcases hown k e' with e1 | e1
    ·exact h.d3 j j' hj hj' hne k e e1
    ·have := ((h.oo j hj).lt k e).2
     omega
   ·rw [upd9_ne _ _ ej'] at e'
    exact h.d3 j j' hj hj' hne k e e'
structure It9 (w : World) (B : Nat) (K : Nat → Prop) (R : Nat → List Value) (FL : List Int) (its : List (Value × List Int)) (lss : List (Value × Value × List Int)) : Prop where
 r0 : R 0 = IV FL
 r1 : R 1 = its.map (·.1)
 r2 : R 2 = its.map fun y => .string (strOfNums y.2)
 r3 : R 3 = lss.map (·.1)
 r4 : R 4 = lss.map (·.2.1)
 fl : ∀ a ∈ FL, 2 ≤ a ∧ a < 65536
 i1 : ∀ y ∈ its, OwnB w B y.1 y.2 ∧ Wf y.2 ∧ y.2.length ≤ 65536 ∧ ∀ g, y.1.ownBlock = some g → K g
 iN : ∀ (t t' : Nat) (y y' : Value × List Int), its[t]? = some y → its[t']? = some y' → t ≠ t' → y.1.ownBlock = none ∨ y.1.ownBlock ≠ y'.1.ownBlock
 l1 : ∀ y ∈ lss, OwnJ w B y.1 y.2.2 ∧ OwnJ w B y.2.1 y.2.2 ∧ y.2.2.length ≤ 65536 ∧ (∀ g, y.1.ownBlock = some g → K g) ∧ ∀ g, y.2.1.ownBlock = some g → K g
 lN : ∀ (t t' : Nat) (y y' : Value × Value × List Int), lss[t]? = some y → lss[t']? = some y' → (t ≠ t' → y.1.ownBlock = none ∨ y.1.ownBlock ≠ y'.1.ownBlock) ∧ (y.1.ownBlock = none ∨ y.1.ownBlock ≠ y'.2.1.ownBlock)
theorem It9.cf {F L : Nat → Prop} {FL : List Int} {its : List (Value × List Int)} {lss : List (Value × Value × List Int)} (h : It9 w B K R FL its lss) (hc : Cf F w u) (hK : ∀ k, K k → ¬ F k) (hL : ∀ k, K k → L k) : It9 u B L R FL its lss :=
 ⟨h.r0, h.r1, h.r2, h.r3, h.r4, h.fl, fun y hy => ⟨(h.i1 y hy).1.cf hc fun k e => hK k ((h.i1 y hy).2.2.2 k e), (h.i1 y hy).2.1, (h.i1 y hy).2.2.1, fun g e => hL g ((h.i1 y hy).2.2.2 g e)⟩, h.iN,
  fun y hy => ⟨(h.l1 y hy).1.cf hc fun k e => hK k ((h.l1 y hy).2.2.2.1 k e), (h.l1 y hy).2.1.cf hc fun k e => hK k ((h.l1 y hy).2.2.2.2 k e), (h.l1 y hy).2.2.1, fun g e => hL g ((h.l1 y hy).2.2.2.1 g e), fun g e => hL g ((h.l1 y hy).2.2.2.2 g e)⟩, h.lN⟩
end Go.Proofs.YtoejadhlkamcjaaDoor
