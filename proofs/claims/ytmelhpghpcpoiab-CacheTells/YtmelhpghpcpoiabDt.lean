/- CacheTells: what each call leaves of what the loop carries. -/
import Derived.Test.YtmelhpghpcpoiabDr
namespace Go.Proofs.Ytmelhpghpcpoiab
open Go.RowKit Go.Maps

def Jc (w0 u : World) (a c m gi gp : Nat) (fr : Int) (t : Nat) : Prop := ∃ X d h mi ev fs iv pv s, s ≤ 4 * t ∧ Lv w0 u X a c m gi gp d fr h mi ev fs iv pv t s
/-- Where the ways of a round meet: e is what the call answered. -/
def Kc (w0 u : World) (a c m gi gp : Nat) (fr : Int) (t : Nat) (e : Int) (ins : Bool) : Prop := ∃ X d h mi ev fs iv pv s, s ≤ 4 * t ∧ Lv w0 u X a c m gi gp d fr h mi ev fs iv pv t s ∧ (e = 0 ∨ (e = 30 ∧ ins = false) ∨ (e = 40 ∧ fr ≤ pc fs))
set_option maxRecDepth 100000 in
theorem Kc.jc {w0 u : World} {a c m gi gp : Nat} {fr : Int} {t : Nat} {e : Int} {ins : Bool} (h : Kc w0 u a c m gi gp fr t e ins) : Jc w0 u a c m gi gp fr t := by
  obtain ⟨X, d, h, mi, ev, fs, iv, pv, s, h1, h2, _⟩ := h
  exact ⟨X, d, h, mi, ev, fs, iv, pv, s, h1, h2⟩
set_option maxRecDepth 100000 in
theorem Lv.mono {w0 w : World} {X : Nat → Prop} {a c m gi gp : Nat} {d : D} {fr h mi ev : Int} {fs : List Fr} {iv pv : List Int} {t s t' s' : Nat} (L : Lv w0 w X a c m gi gp d fr h mi ev fs iv pv t s) (ht : t ≤ t') (hs : s ≤ s') : Lv w0 w X a c m gi gp d fr h mi ev fs iv pv t' s' := { L with T := L.T.mono ht hs }
set_option maxRecDepth 100000 in
/-- A refused Get, Pin or Put. -/
theorem err_kc {w0 u0 u : World} {X : Nat → Prop} {a c m gi gp : Nat} {d : D} {fr h mi ev : Int} {fs : List Fr} {iv pv : List Int} {t s : Nat} {A k : Int} {ins : Bool} (L : Lv w0 u0 X a c m gi gp d fr h mi ev fs iv pv t s) (hs : s ≤ 4 * t) (hin : ins = decide (0 ≤ A ∧ A < 8)) (x : Cx w0 u X a c m d fr h mi ev fs) (kp : Kp X c m fs u0 u)
    (er : (¬ (fs.length : Int) < fr ∧ lv fs = none ∧ k = 40) ∨ (¬ (0 ≤ A ∧ A < d.pages) ∧ k = 30)) : Kc w0 u a c m gi gp fr (t + 1) k ins := by
  refine ⟨X, d, h, mi, ev, fs, iv, pv, s, by omega, L.after x kp (fun _ h => h) (fun _ _ h => h) (L.T.mono (by omega) (Nat.le_refl _)), ?_⟩
  rcases er with ⟨h1, h2, h3⟩ | ⟨h1, h2⟩
  · exact .inr (.inr ⟨h3, by rw [lv_all h2]; omega⟩)
  · refine .inr (.inl ⟨h2, ?_⟩)
    rw [L.T.ps] at h1
    rw [hin]
    simpa using h1
set_option maxRecDepth 100000 in
theorem row_num {w : World} {g : Nat} {l : List Int} (h : Hs w g (In l) 3) {n : Nat} (hn : n < l.length) : w.cell? ⟨g, n, none⟩ = some (.int .i64 (l.getD n 0)) := (h.cell n).trans (getD_In _ _ hn)
set_option maxRecDepth 100000 in
/-- Get. -/
theorem get_step {w0 u0 u : World} {X : Nat → Prop} {a c m gi gp : Nat} {d : D} {fr h mi ev : Int} {fs : List Fr} {iv pv : List Int} {t s : Nat} {A : Int} {ins : Bool} {e : Ending} (L : Lv w0 u0 X a c m gi gp d fr h mi ev fs iv pv t s) (hs : s ≤ 4 * t) (hin : ins = decide (0 ≤ A ∧ A < 8)) (hG : GetIs w0 u0 X a c m d fr h mi ev fs A e u) :
    ∃ ao n' c' k, e = .returned (.tuple #[.slice ao n' c', .int .i64 k]) ∧ ((k = 0 ∧ n' = 512 ∧ ins = true ∧ ∃ (g N : Nat) (y : Int), ao = some ⟨g, 0, none⟩ ∧ A = (N : Int) ∧ N < 8 ∧ (0 ≤ y ∧ y ≤ 255) ∧ u.cell? ⟨g, 0, none⟩ = some (.int .u8 y) ∧ u.cell? ⟨g, 511, none⟩ = some (.int .u8 y) ∧ u.cell? ⟨gi, N, none⟩ = some (.int .i64 y)) ∨ ¬ k = 0) ∧ Kc w0 u a c m gi gp fr (t + 1) k ins := by
  rcases hG with ⟨pre, f, d', h', mi', ev', Y, g, cp, rfl, hsl, hn, ft, xu, ku, hY, hNw⟩ | ⟨k, rfl, hk, er, xu, ku⟩
  · obtain ⟨T', _⟩ := L.T.fetch L.ld ft
    have fm : f ∈ pre ++ [f] := by simp
    have fn := T'.fn f fm
    have L' := L.after xu ku hY (Nw.nx L.x hNw) T'
    have hl : f.l = pgI iv f.n := T'.fl f fm
    rw [hl, L.T.pg] at hsl
    have hc : ∀ i, i < 512 → u.cell? ⟨g, i, none⟩ = some (.int .u8 (iv.getD f.n 0)) := fun i hi => by
      rcases hsl.hat with h0 | ⟨b, off, e, hlt, hc⟩
      · omega
      · injection e with e
        injection e with e1 e2
        subst e1 e2
        have := hc i hi
        rw [Nat.zero_add] at this
        rw [this]
        have e : (pgI iv f.n).getD i 0 = iv.getD f.n 0 := by
          unfold pgI
          rw [List.getD_eq_getElem?_getD, List.getElem?_replicate, if_pos hi]
          rfl
        rw [e]
    refine ⟨_, _, _, 0, by rw [L.T.pg], .inl ⟨rfl, rfl, ?_, g, f.n, iv.getD f.n 0, rfl, hn.symm, fn, L.T.wi _ fn, hc 0 (by omega), hc 511 (by omega), row_num L'.hi (by rw [L.T.li]; exact fn)⟩, ⟨Y, d', h', mi', ev', pre ++ [f], iv, pv, s + 2, by omega, L'.mono (by omega) (Nat.le_refl _), .inl rfl⟩⟩
    rw [hin, ← hn]
    simp
    omega
  · exact ⟨none, 0, 0, k, rfl, .inr (by omega), err_kc L hs hin xu ku er.2⟩
set_option maxRecDepth 100000 in
/-- Pin. -/
theorem pin_step {w0 u0 u : World} {X : Nat → Prop} {a c m gi gp : Nat} {d : D} {fr h mi ev : Int} {fs : List Fr} {iv pv : List Int} {t s : Nat} {A : Int} {ins : Bool} {e : Ending} (L : Lv w0 u0 X a c m gi gp d fr h mi ev fs iv pv t s) (hs : s ≤ 4 * t) (hin : ins = decide (0 ≤ A ∧ A < 8)) (hG : PinIs w0 u0 X a c m d fr h mi ev fs A e u) :
    ∃ k, e = .returned (.int .i64 k) ∧ ((k = 0 ∧ ins = true ∧ ∃ (N : Nat) (y : Int), A = (N : Int) ∧ N < 8 ∧ (0 ≤ y ∧ y ≤ 4 * t) ∧ u.cell? ⟨gp, N, none⟩ = some (.int .i64 y) ∧ u.frozen? ⟨gp, N, none⟩ = false ∧ Kc w0 (u.setCell ⟨gp, N, none⟩ (.int .i64 (y + 1))) a c m gi gp fr (t + 1) 0 ins) ∨ (¬ k = 0 ∧ Kc w0 u a c m gi gp fr (t + 1) k ins)) := by
  rcases hG with ⟨pre, f, d', h', mi', ev', Y, rfl, hn, ft, xu, ku, hY, hNw⟩ | ⟨k, rfl, hk, er, xu, ku⟩
  · obtain ⟨T', _⟩ := L.T.fetch L.ld ft
    have fm : f ∈ pre ++ [f] := by simp
    have fn := T'.fn f fm
    have fp := T'.fp f fm
    have hpr := T'.wp f.n fn
    have hwp := L.T.wp f.n fn
    have T2 := Tl.pin (A := pre) (B := []) T' (f.pins + 1) (by omega)
    rw [show ((f.pins + 1 : Nat) : Int) = pv.getD f.n 0 + 1 from by omega] at T2
    have hbk : ∀ k, Bk c m (pre ++ [{ f with pins := f.pins + 1 }]) k → Bk c m (pre ++ [f]) k := fun k hk => bk_upd (A := pre) (B := []) (f := f) (f' := { f with pins := f.pins + 1 }) rfl rfl hk
    have hNX := Nw.nx L.x hNw
    have hp' : Hs u gp (In pv) 3 := (ku gp L.xp L.bp).trans L.hp
    have L3 := Lv.set (iv := iv) (pv := pv) xu T2 ((ku gi L.xi L.bi).trans L.hi) hp' (hY _ L.xi) (hY _ L.xp) (fun hb => L.bi (hNX _ L.xi (hbk _ hb))) (fun hb => L.bp (hNX _ L.xp (hbk _ hb))) L.ne L.g0 gp f.n (pv.getD f.n 0 + 1) (.inr ⟨rfl, rfl, rfl⟩)
    refine ⟨0, rfl, .inl ⟨rfl, ?_, f.n, pv.getD f.n 0, hn.symm, fn, ⟨hwp.1, by have := hwp.2; omega⟩, row_num hp' (by rw [L.T.lp]; exact fn), hp'.free _, ⟨Y, d', h', mi', ev', _, iv, _, s + 3, by omega, L3.mono (by omega) (by omega), .inl rfl⟩⟩⟩
    rw [hin, ← hn]
    simp
    omega
  · exact ⟨k, rfl, .inr ⟨by omega, err_kc L hs hin xu ku er.2⟩⟩
set_option maxRecDepth 100000 in
/-- Unpin. -/
theorem unpin_step {w0 u0 u : World} {X : Nat → Prop} {a c m gi gp : Nat} {d : D} {fr h mi ev : Int} {fs : List Fr} {iv pv : List Int} {t s : Nat} {A : Int} {ins : Bool} {e : Ending} (L : Lv w0 u0 X a c m gi gp d fr h mi ev fs iv pv t s) (hs : s ≤ 4 * t) (hin : ins = decide (0 ≤ A ∧ A < 8)) (hG : UnpinIs w0 u0 X a c m d fr h mi ev fs A e u) :
    ∃ k, e = .returned (.int .i64 k) ∧ ((k = 0 ∧ ins = true ∧ ∃ (N : Nat) (y : Int), A = (N : Int) ∧ N < 8 ∧ (0 < y ∧ y ≤ 4 * t) ∧ u.cell? ⟨gp, N, none⟩ = some (.int .i64 y) ∧ u.frozen? ⟨gp, N, none⟩ = false ∧ Kc w0 (u.setCell ⟨gp, N, none⟩ (.int .i64 (y - 1))) a c m gi gp fr (t + 1) 0 ins) ∨ (k = 41 ∧ Kc w0 u a c m gi gp fr (t + 1) 0 ins ∧ (ins = true → ∃ N : Nat, A = (N : Int) ∧ N < 8 ∧ u.cell? ⟨gp, N, none⟩ = some (.int .i64 0)))) := by
  rcases hG with ⟨A', f, B', efs, hn, hpos, rfl, xu, ku⟩ | ⟨hno, rfl, xu, ku⟩
  · subst efs
    have fm : f ∈ A' ++ f :: B' := by simp
    have fn := L.T.fn f fm
    have fp := L.T.fp f fm
    have hwp := L.T.wp f.n fn
    have T2 := L.T.pin (f.pins - 1) (by omega)
    rw [show ((f.pins - 1 : Nat) : Int) = pv.getD f.n 0 - 1 from by omega] at T2
    have hbk : ∀ k, Bk c m (A' ++ { f with pins := f.pins - 1 } :: B') k → Bk c m (A' ++ f :: B') k := fun k hk => bk_upd (f := f) (f' := { f with pins := f.pins - 1 }) rfl rfl hk
    have hp' : Hs u gp (In pv) 3 := (ku gp L.xp L.bp).trans L.hp
    have L3 := Lv.set (iv := iv) (pv := pv) xu T2 ((ku gi L.xi L.bi).trans L.hi) hp' L.xi L.xp (fun hb => L.bi (hbk _ hb)) (fun hb => L.bp (hbk _ hb)) L.ne L.g0 gp f.n (pv.getD f.n 0 - 1) (.inr ⟨rfl, rfl, rfl⟩)
    refine ⟨0, rfl, .inl ⟨rfl, ?_, f.n, pv.getD f.n 0, hn.symm, fn, ⟨by omega, by have := hwp.2; omega⟩, row_num hp' (by rw [L.T.lp]; exact fn), hp'.free _, ⟨X, d, h, mi, ev, _, iv, _, s + 1, by omega, L3.mono (by omega) (by omega), .inl rfl⟩⟩⟩
    rw [hin, ← hn]
    simp
    omega
  · have hp' : Hs u gp (In pv) 3 := (ku gp L.xp L.bp).trans L.hp
    refine ⟨41, rfl, .inr ⟨rfl, ⟨X, d, h, mi, ev, fs, iv, pv, s, by omega, L.after xu ku (fun _ h => h) (fun _ _ h => h) (L.T.mono (by omega) (Nat.le_refl _)), .inl rfl⟩, fun hi => ?_⟩⟩
    have hA : 0 ≤ A ∧ A < 8 := by rw [hi] at hin; simpa using hin.symm
    obtain ⟨N, rfl⟩ : ∃ N : Nat, A = (N : Int) := ⟨A.toNat, by omega⟩
    refine ⟨N, rfl, by omega, ?_⟩
    rw [row_num hp' (by rw [L.T.lp]; omega)]
    congr 2
    by_cases hin' : ∃ f ∈ fs, f.n = N
    · obtain ⟨f, hf, rfl⟩ := hin'
      rw [← L.T.fp f hf, hno f hf rfl]
      rfl
    · exact (L.T.no N (by omega) fun f hf e => hin' ⟨f, hf, e⟩).1
set_option maxRecDepth 100000 in
/-- Put. -/
theorem put_step {w0 u0 u : World} {X : Nat → Prop} {a c m gi gp : Nat} {d : D} {fr h mi ev : Int} {fs : List Fr} {iv pv : List Int} {t s : Nat} {A x : Int} {ins : Bool} {e : Ending} (L : Lv w0 u0 X a c m gi gp d fr h mi ev fs iv pv t s) (hs : s ≤ 4 * t) (hin : ins = decide (0 ≤ A ∧ A < 8)) (hx : 0 ≤ x ∧ x ≤ 255) (hG : PutW w0 u0 X a c m d fr h mi ev fs A (List.replicate 512 x) e u) :
    ∃ k, e = .returned (.int .i64 k) ∧ (∀ g, X g → ¬ Bk c m fs g → u.heap[g]? = u0.heap[g]?) ∧ ((k = 0 ∧ ins = true ∧ ∃ (N : Nat) (y : Int), A = (N : Int) ∧ N < 8 ∧ u.cell? ⟨gi, N, none⟩ = some (.int .i64 y) ∧ u.frozen? ⟨gi, N, none⟩ = false ∧ Kc w0 (u.setCell ⟨gi, N, none⟩ (.int .i64 x)) a c m gi gp fr (t + 1) 0 ins) ∨ (¬ k = 0 ∧ Kc w0 u a c m gi gp fr (t + 1) k ins)) := by
  cases hG with
  | bad q1 q2 q3 q4 => exact ⟨30, q2, q4, .inr ⟨by omega, err_kc L hs hin q3 q4 (.inr ⟨q1, rfl⟩)⟩⟩
  | full q1 q2 q3 q4 q5 q6 => exact ⟨40, q4, q6, .inr ⟨by omega, err_kc L hs hin q5 q6 (.inl ⟨q2, q3, rfl⟩)⟩⟩
  | held A' B' f Y q1 q2 q3 q4 q5 q6 q7 =>
    subst q1
    have fn := L.T.fn f (by simp)
    have T2 := L.T.putHeld x hx
    have hi' : Hs u gi (In iv) 3 := (q5 gi L.xi L.bi).trans L.hi
    have L3 := Lv.set (iv := iv) (pv := pv) q4 T2 hi' ((q5 gp L.xp L.bp).trans L.hp) (q6 _ L.xi) (q6 _ L.xp) (fun hb => L.bi (q7 _ L.xi hb)) (fun hb => L.bp (q7 _ L.xp hb)) L.ne L.g0 gi f.n x (.inl ⟨rfl, rfl, rfl⟩)
    refine ⟨0, q3, q5, .inl ⟨rfl, ?_, f.n, _, q2.symm, fn, row_num hi' (by rw [L.T.li]; exact fn), hi'.free _, ⟨Y, d, h, mi, ev, _, _, pv, s, by omega, L3, .inl rfl⟩⟩⟩
    rw [hin, ← q2]
    simp
    omega
  | new N d2 fs2 ev2 g b Y q1 q2 q3 q4 q5 q6 q7 q8 q9 =>
    have hN : N < 8 := by rw [← L.T.ps]; exact q3
    obtain ⟨T1, _, hlt⟩ := L.T.room L.ld q4
    have T2 := T1.putNew hlt hN (fun f hf e => q1 f (q4.sub f hf) (by rw [e, q2])) g b x hx
    have hi' : Hs u gi (In iv) 3 := (q7 gi L.xi L.bi).trans L.hi
    have L3 := Lv.set (iv := iv) (pv := pv) q6 T2 hi' ((q7 gp L.xp L.bp).trans L.hp) (q8 _ L.xi) (q8 _ L.xp) (fun hb => L.bi (q9 _ L.xi hb)) (fun hb => L.bp (q9 _ L.xp hb)) L.ne L.g0 gi N x (.inl ⟨rfl, rfl, rfl⟩)
    refine ⟨0, q5, q7, .inl ⟨rfl, ?_, N, _, q2, hN, row_num hi' (by rw [L.T.li]; exact hN), hi'.free _, ⟨Y, d2, h, mi, ev2, _, _, pv, s + 1, by omega, L3, .inl rfl⟩⟩⟩
    rw [hin, q2]
    simp
    omega
end Go.Proofs.Ytmelhpghpcpoiab
