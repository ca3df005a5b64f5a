/- CacheTells: Flush and Image; State. -/
import Derived.Test.YtmelhpghpcpoiabDt
namespace Go.Proofs.Ytmelhpghpcpoiab
open Go.RowKit Go.Maps

set_option maxRecDepth 100000 in
theorem Lv.drw {w0 w : World} {X : Nat → Prop} {a c m gi gp : Nat} {d : D} {fr h mi ev : Int} {fs : List Fr} {iv pv : List Int} {t s : Nat} (L : Lv w0 w X a c m gi gp d fr h mi ev fs iv pv t s) : Lv w0 w.drew X a c m gi gp d fr h mi ev fs iv pv t s := ⟨L.x.drw, L.T, L.hi, L.hp, L.xi, L.xp, L.bi, L.bp, L.ne, L.g0⟩
/-- Behind Flush: the image lies at g. -/
def Im (w0 u : World) (a c m gi gp : Nat) (fr : Int) (t : Nat) (ins : Bool) (g : Nat) : Prop := Kc w0 u a c m gi gp fr t 0 ins ∧ ∀ k, k < 8 → ∃ y : Int, (0 ≤ y ∧ y ≤ 255) ∧ u.cell? ⟨g, k * 512, none⟩ = some (.int .u8 y) ∧ u.cell? ⟨gi, k, none⟩ = some (.int .i64 y)
set_option maxRecDepth 100000 in
theorem Im.drw {w0 u : World} {a c m gi gp : Nat} {fr : Int} {t : Nat} {ins : Bool} {g : Nat} (h : Im w0 u a c m gi gp fr t ins g) : Im w0 u.drew a c m gi gp fr t ins g := by
  obtain ⟨⟨X, d, h', mi, ev, fs, iv, pv, s, h1, h2, h3⟩, h4⟩ := h
  exact ⟨⟨X, d, h', mi, ev, fs, iv, pv, s, h1, h2.drw, h3⟩, h4⟩
set_option maxRecDepth 100000 in
theorem Kc.drN {w0 u : World} {a c m gi gp : Nat} {fr : Int} {t : Nat} {k : Int} {ins : Bool} (h : Kc w0 u a c m gi gp fr t k ins) (q : Nat) : Kc w0 (u.drewN q) a c m gi gp fr t k ins := by
  obtain ⟨X, d, h', mi, ev, fs, iv, pv, s, h1, L, h3⟩ := h
  obtain ⟨⟨F, hD, hF⟩, hx, hb⟩ := L.x.st
  exact ⟨X, d, h', mi, ev, fs, iv, pv, s, h1, ⟨⟨⟨⟨F, hD.drew q, hF⟩, hx, hb.trans ((Ch.drew (fun _ => False) u q).below hb.size (fun _ _ h => h))⟩, L.x.cw.stay fun _ _ => rfl, L.x.bx⟩, L.T, L.hi, L.hp, L.xi, L.xp, L.bi, L.bp, L.ne, L.g0⟩, h3⟩
set_option maxRecDepth 100000 in
theorem Im.drN {w0 u : World} {a c m gi gp : Nat} {fr : Int} {t : Nat} {ins : Bool} {g : Nat} (h : Im w0 u a c m gi gp fr t ins g) (q : Nat) : Im w0 (u.drewN q) a c m gi gp fr t ins g := ⟨h.1.drN q, h.2⟩
set_option maxRecDepth 100000 in
theorem flush_step {w0 u0 u : World} {X : Nat → Prop} {a c m gi gp : Nat} {d : D} {fr h mi ev : Int} {fs : List Fr} {iv pv : List Int} {t s : Nat} {e : Ending} (ins : Bool) (L : Lv w0 u0 X a c m gi gp d fr h mi ev fs iv pv t s) (hs : s ≤ 4 * t) (hG : FlushW w0 u0 X a c m d fr h mi ev fs e u) :
    e = .returned (.int .i64 0) ∧ Calls Try.prog 13 #[.pointer (some ⟨a, 0, none⟩)] u fun e v => ∃ g, e = .returned (.slice (some ⟨g, 0, none⟩) 4096 4096) ∧ Im w0 v a c m gi gp fr (t + 1) ins g := by
  obtain ⟨ks, Y, hp, rfl, xu, ku, hY⟩ := hG
  refine ⟨rfl, ?_⟩
  obtain ⟨T', hrd⟩ := L.T.flush L.ld hp
  have L' := L.after xu ku hY (fun k _ hk => clFs_bk.1 hk) T'
  obtain ⟨F, hD⟩ := xu.st.dv
  have hI := Image_any u F a _ hD
  have hlen : ∀ k, k < (clD fs d ks).pages → (rd (clD fs d ks) k).length = (clD fs d ks).page := fun k hk => (hD.rdl hk).1
  have hsf : (clD fs d ks).safe.length = (clD fs d ks).page * (clD fs d ks).pages := by
    obtain ⟨bs, bl, vL, vK, ha, hr⟩ := hD
    exact hr.ns
  have hpg := imD_page (clD fs d ks) hsf hlen (by rw [T'.pg]; omega) 8 (by rw [T'.ps]; omega)
  have hil := imD_len (clD fs d ks) hsf hlen 8 (by rw [T'.ps]; omega)
  rw [T'.pg, T'.ps] at hI hil
  rw [T'.pg, T'.ps] at hpg
  refine hI.mono ?_
  rintro e v ⟨rfl, hh, hb⟩
  have L2 := L'.page hb
  refine ⟨u.heap.size, rfl, ⟨_, _, _, _, _, _, iv, pv, s, by omega, L2.mono (by omega) (Nat.le_refl _), .inl rfl⟩, fun k hk => ?_⟩
  refine ⟨iv.getD k 0, L.T.wi k hk, ?_, row_num L2.hi (by rw [L.T.li]; exact hk)⟩
  rw [cell_of_row hh, getD_By _ _ (by rw [hil]; omega)]
  congr 2
  have h1 := hpg k hk
  rw [if_pos hk, hrd k hk] at h1
  have h2 := pgOf_get 512 (imD (clD fs d ks) 8) k 0
  rw [h1, if_pos (by omega)] at h2
  rw [Nat.add_zero] at h2
  rw [List.getD_eq_getElem?_getD, ← h2]
  unfold pgI
  rw [List.getElem?_replicate, if_pos (by omega)]
  rfl
set_option maxRecDepth 100000 in
/-- What State tells, and what is there behind it. -/
theorem state_step {w0 u : World} {a c m gi gp : Nat} {fr : Int} {t : Nat} {k : Int} {ins : Bool} (h : Kc w0 u a c m gi gp fr t k ins) (ht : t < 4398046511103) :
    ∃ (H N P h1 h2 h3 : Int) (pv : List Int), (H ≤ fr ∧ N ≤ H ∧ P ≤ H ∧ 0 ≤ P ∧ P ≤ 65536) ∧ P = (pk pv 8 : Int) ∧ pv.length = 8 ∧ (k = 0 ∨ (k = 30 ∧ ins = false) ∨ (k = 40 ∧ fr ≤ P)) ∧ Calls Try.prog 14 #[pt c] u fun e v => e = .returned (stV fr H N P h1 h2 h3) ∧ Hid (Jc w0 v a c m gi gp fr t) ∧ Hid (Hs v gp (In pv) 3) := by
  obtain ⟨X, d, h', mi, ev, fs, iv, pv, s, hs, L, hk⟩ := h
  have fi := L.fine ht (by omega)
  have hS := State_cw u c a fr h' mi ev m _ fs L.x.cw fi.up.hp fi.fl
  have hpk := L.T.pk
  have h1 := dc_le fs
  have h2 := pc_le fs
  have h3 := fi.fl
  refine ⟨fs.length, dc fs, pc fs, h', mi, ev, pv, ⟨L.T.le, by omega, by omega, by omega, by omega⟩, by rw [hpk], L.T.lp, hk, hS.mono ?_⟩
  rintro e v ⟨rfl, hb⟩
  have L2 := L.page hb
  exact ⟨rfl, hidden ⟨_, d, h', mi, ev, fs, iv, pv, s, hs, L2⟩, hidden L2.hp⟩
set_option maxRecDepth 100000 in
theorem Jc.page {w0 w u : World} {a c m gi gp : Nat} {fr : Int} {t : Nat} (h : Jc w0 w a c m gi gp fr t) (hb : Below w.heap.size w u) : Jc w0 u a c m gi gp fr t := by
  obtain ⟨X, d, h', mi, ev, fs, iv, pv, s, hs, L⟩ := h
  exact ⟨_, d, h', mi, ev, fs, iv, pv, s, hs, L.page hb⟩
set_option maxRecDepth 100000 in
theorem Jc.be {w0 w : World} {a c m gi gp : Nat} {fr : Int} {t : Nat} (h : Jc w0 w a c m gi gp fr t) : Below w0.heap.size w0 w := by
  obtain ⟨X, d, h', mi, ev, fs, iv, pv, s, hs, L⟩ := h
  exact L.x.st.be
set_option maxRecDepth 100000 in
theorem rep_getD (n k : Nat) (x : Int) (h : k < n) : (List.replicate n x).getD k 0 = x := by
  rw [List.getD_eq_getElem?_getD, List.getElem?_replicate, if_pos h]
  rfl
set_option maxRecDepth 100000 in
theorem rd_new (n : Nat) (hn : n < 8) : rd (d0 512 8) n = List.replicate 512 0 := by
  unfold rd
  have e : (d0 512 8).last.getD n 0 = 0 := rep_getD 8 n 0 hn
  rw [e, if_neg (by omega)]
  exact pgOf_replicate 512 (512 * 8) n 0 (by omega)
set_option maxRecDepth 100000 in
/-- At the start. -/
theorem start_jc {w1 w2 w3 w4 w5 : World} {a c m : Nat} {x : Int} (s2 : St w1 w2 (fun _ => False) a (d0 512 8)) (c1 : w2.heap.size ≤ c) (m1 : w2.heap.size ≤ m) (ncm : c ≠ m) (hc3 : Hs w3 c (cC a x m (.pointer none) (.pointer none) 0 0 0) tC) (hm3 : MapIs w3 m 0 (.map [])) (hb3 : Below w2.heap.size w2 w3) (hx : 1 ≤ x ∧ x ≤ 4096)
    (h4 : w4 = w3.alloc (.cells (In (List.replicate 8 0)).toArray 3)) (h5 : w5 = w4.alloc (.cells (In (List.replicate 8 0)).toArray 3)) : Jc w1 w5 a c m w3.heap.size w4.heap.size x 0 := by
  have z4 : w4.heap.size = w3.heap.size + 1 := by rw [h4]; simp
  have z5 : w5.heap.size = w4.heap.size + 1 := by rw [h5]; simp
  have b4 : Below w3.heap.size w3 w4 := by rw [h4]; exact (Below.refl _ _).alloc (Nat.le_refl _) _
  have b5 : Below w3.heap.size w3 w5 := b4.trans (by rw [h5]; exact (Below.refl _ _).alloc (by omega) _)
  have s3 := (s2.page hb3).page b5
  have hi : Hs w5 w3.heap.size (In (List.replicate 8 0)) 3 := by
    rw [h5]
    refine (Below.heap_alloc _ _ _ (by omega)).trans ?_
    rw [h4]
    exact al_row _ _
  have hp : Hs w5 w4.heap.size (In (List.replicate 8 0)) 3 := by rw [h5]; exact al_row _ _
  have cw : Cw w5 c a x 0 0 0 m 512 [] := by
    refine ⟨⟨(b5.block _ hc3.lt).trans hc3, trivial, List.nodup_nil, fun f hf => absurd hf List.not_mem_nil⟩, fun f hf => absurd hf List.not_mem_nil, ⟨.map [], MapIs.stay hm3 (b5.block _ (World.ownsMap.lt hm3)), MD.nil⟩, List.nodup_nil, List.nodup_nil, fun f hf => absurd hf List.not_mem_nil, ncm, fun f hf => absurd hf List.not_mem_nil⟩
  have clt := hc3.lt
  have mlt := World.ownsMap.lt hm3
  have be := s2.be.size
  have b3 := hb3.size
  have nb : ∀ k, w3.heap.size ≤ k → ¬ Bk c m [] k := by
    rintro k hk (e | e | ⟨f, hf, _⟩)
    · omega
    · omega
    · exact absurd hf List.not_mem_nil
  refine ⟨_, d0 512 8, 0, 0, 0, [], List.replicate 8 0, List.replicate 8 0, 0, Nat.le_refl _, ⟨⟨s3, cw, ?_⟩, ?_, hi, hp, .inr ⟨Nat.le_refl _, by omega⟩, .inr ⟨by omega, by omega⟩, nb _ (Nat.le_refl _), nb _ (by omega), by omega, by omega, by omega⟩⟩
  · rintro k (e | e | ⟨f, hf, _⟩)
    · subst e; exact ⟨.inl (.inr ⟨c1, clt⟩), by omega⟩
    · subst e; exact ⟨.inl (.inr ⟨m1, mlt⟩), by omega⟩
    · exact absurd hf List.not_mem_nil
  · have hz : ∀ n, n < 8 → (List.replicate 8 (0 : Int)).getD n 0 = 0 := fun n hn => rep_getD 8 n 0 hn
    refine ⟨rfl, rfl, rfl, rfl, by simp, by simp, fun n hn => by rw [hz n hn]; omega, fun n hn => by rw [hz n hn]; omega, fun f hf => absurd hf List.not_mem_nil, fun f hf => absurd hf List.not_mem_nil, fun f hf => absurd hf List.not_mem_nil, fun f hf => absurd hf List.not_mem_nil, fun n hn _ => ⟨hz n hn, ?_⟩, ?_, hx, List.nodup_nil, ⟨Int.le_refl 0, Int.le_refl 0⟩, ⟨Int.le_refl 0, Int.le_refl 0⟩, Nat.le_refl _, ⟨Int.le_refl 0, Int.le_refl 0⟩, ⟨Int.le_refl 0, Int.le_refl 0⟩, ⟨Int.le_refl 0, Int.le_refl 0⟩⟩
    · rw [rd_new n hn]
      unfold pgI
      rw [hz n hn]
    · show ((0 : Nat) : Int) ≤ x
      omega
end Go.Proofs.Ytmelhpghpcpoiab
