/- meta.written: the page's bytes, number by number. -/
import Derived.Test.YtbnjojplfbibkaaGreatDoorMg
import Derived.Lib.SlBuf
import Derived.Lib.BufferWrite
import Derived.Laws.CopyOwn
import Derived.Deep.RegionLaw
namespace Go.Proofs.YtbnjojplfbibkaaGreatDoor
open Go.RowKit

set_option maxRecDepth 100000 in
theorem splice_mid (A X N C : List Int) (a : Nat) (hA : A.length = a) (hX : X.length = N.length) : splice (A ++ (X ++ C)) a N = A ++ (N ++ C) := by
  subst hA
  unfold splice
  have e : (A ++ (X ++ C)).drop (A.length + N.length) = C := by
    rw [← List.append_assoc]
    exact List.drop_left' (by rw [List.length_append, hX])
  rw [List.take_left, e]
/-- A page behind its first k numbers. -/
def lay5 (m : Mt) : Nat → List Int
  | 0 => [1, 0, 0, 0, 69, 83, 80, 76] ++ zs (m.pg.toNat - 8)
  | k + 1 => splice (lay5 m k) (atN k) (fB (wdN k) (m.nth k))
set_option maxRecDepth 100000 in
theorem lay5_all (m : Mt) (h : m.ok) : lay5 m 8 = hdB m ++ zs (m.pg.toNat - 40) := by
  have hp := pw_le h.pg
  obtain ⟨Z, hZ⟩ : ∃ Z, Z = zs (m.pg.toNat - 40) := ⟨_, rfl⟩
  have e0 : lay5 m 0 = [1] ++ (zs 1 ++ ([0, 0, 69, 83, 80, 76] ++ (zs 4 ++ (zs 8 ++ (zs 4 ++ (zs 4 ++ (zs 4 ++ (zs 4 ++ (zs 4 ++ (Z)))))))))) := by
    show [1, 0, 0, 0, 69, 83, 80, 76] ++ zs (m.pg.toNat - 8) = _
    rw [show m.pg.toNat - 8 = 4 + (8 + (4 + (4 + (4 + (4 + (4 + (m.pg.toNat - 40))))))) by omega, zs_add, zs_add, zs_add, zs_add, zs_add, zs_add, zs_add, ← hZ]
    rfl
  have e1 : lay5 m 1 = [1] ++ (fB 1 m.en ++ ([0, 0, 69, 83, 80, 76] ++ (zs 4 ++ (zs 8 ++ (zs 4 ++ (zs 4 ++ (zs 4 ++ (zs 4 ++ (zs 4 ++ (Z)))))))))) := by
    show splice (lay5 m 0) 1 (fB 1 m.en) = _
    rw [e0, show [1] ++ (zs 1 ++ ([0, 0, 69, 83, 80, 76] ++ (zs 4 ++ (zs 8 ++ (zs 4 ++ (zs 4 ++ (zs 4 ++ (zs 4 ++ (zs 4 ++ (Z)))))))))) = ([1]) ++ (zs 1 ++ ([0, 0, 69, 83, 80, 76] ++ (zs 4 ++ (zs 8 ++ (zs 4 ++ (zs 4 ++ (zs 4 ++ (zs 4 ++ (zs 4 ++ (Z)))))))))) from rfl, splice_mid _ _ _ _ 1 rfl (by rw [zs_length, fB_length])]
  have e2 : lay5 m 2 = [1] ++ (fB 1 m.en ++ ([0, 0, 69, 83, 80, 76] ++ (fB 4 m.pg ++ (zs 8 ++ (zs 4 ++ (zs 4 ++ (zs 4 ++ (zs 4 ++ (zs 4 ++ (Z)))))))))) := by
    show splice (lay5 m 1) 8 (fB 4 m.pg) = _
    rw [e1, show [1] ++ (fB 1 m.en ++ ([0, 0, 69, 83, 80, 76] ++ (zs 4 ++ (zs 8 ++ (zs 4 ++ (zs 4 ++ (zs 4 ++ (zs 4 ++ (zs 4 ++ (Z)))))))))) = ([1] ++ fB 1 m.en ++ [0, 0, 69, 83, 80, 76]) ++ (zs 4 ++ (zs 8 ++ (zs 4 ++ (zs 4 ++ (zs 4 ++ (zs 4 ++ (zs 4 ++ (Z)))))))) from by simp only [List.append_assoc], splice_mid _ _ _ _ 8 (by simp [fB_length]) (by rw [zs_length, fB_length])]
    simp only [List.append_assoc]
  have e3 : lay5 m 3 = [1] ++ (fB 1 m.en ++ ([0, 0, 69, 83, 80, 76] ++ (fB 4 m.pg ++ (fB 8 m.tx ++ (zs 4 ++ (zs 4 ++ (zs 4 ++ (zs 4 ++ (zs 4 ++ (Z)))))))))) := by
    show splice (lay5 m 2) 12 (fB 8 m.tx) = _
    rw [e2, show [1] ++ (fB 1 m.en ++ ([0, 0, 69, 83, 80, 76] ++ (fB 4 m.pg ++ (zs 8 ++ (zs 4 ++ (zs 4 ++ (zs 4 ++ (zs 4 ++ (zs 4 ++ (Z)))))))))) = ([1] ++ fB 1 m.en ++ [0, 0, 69, 83, 80, 76] ++ fB 4 m.pg) ++ (zs 8 ++ (zs 4 ++ (zs 4 ++ (zs 4 ++ (zs 4 ++ (zs 4 ++ (Z))))))) from by simp only [List.append_assoc], splice_mid _ _ _ _ 12 (by simp [fB_length]) (by rw [zs_length, fB_length])]
    simp only [List.append_assoc]
  have e4 : lay5 m 4 = [1] ++ (fB 1 m.en ++ ([0, 0, 69, 83, 80, 76] ++ (fB 4 m.pg ++ (fB 8 m.tx ++ (fB 4 m.ro ++ (zs 4 ++ (zs 4 ++ (zs 4 ++ (zs 4 ++ (Z)))))))))) := by
    show splice (lay5 m 3) 20 (fB 4 m.ro) = _
    rw [e3, show [1] ++ (fB 1 m.en ++ ([0, 0, 69, 83, 80, 76] ++ (fB 4 m.pg ++ (fB 8 m.tx ++ (zs 4 ++ (zs 4 ++ (zs 4 ++ (zs 4 ++ (zs 4 ++ (Z)))))))))) = ([1] ++ fB 1 m.en ++ [0, 0, 69, 83, 80, 76] ++ fB 4 m.pg ++ fB 8 m.tx) ++ (zs 4 ++ (zs 4 ++ (zs 4 ++ (zs 4 ++ (zs 4 ++ (Z)))))) from by simp only [List.append_assoc], splice_mid _ _ _ _ 20 (by simp [fB_length]) (by rw [zs_length, fB_length])]
    simp only [List.append_assoc]
  have e5 : lay5 m 5 = [1] ++ (fB 1 m.en ++ ([0, 0, 69, 83, 80, 76] ++ (fB 4 m.pg ++ (fB 8 m.tx ++ (fB 4 m.ro ++ (fB 4 m.co ++ (zs 4 ++ (zs 4 ++ (zs 4 ++ (Z)))))))))) := by
    show splice (lay5 m 4) 24 (fB 4 m.co) = _
    rw [e4, show [1] ++ (fB 1 m.en ++ ([0, 0, 69, 83, 80, 76] ++ (fB 4 m.pg ++ (fB 8 m.tx ++ (fB 4 m.ro ++ (zs 4 ++ (zs 4 ++ (zs 4 ++ (zs 4 ++ (Z)))))))))) = ([1] ++ fB 1 m.en ++ [0, 0, 69, 83, 80, 76] ++ fB 4 m.pg ++ fB 8 m.tx ++ fB 4 m.ro) ++ (zs 4 ++ (zs 4 ++ (zs 4 ++ (zs 4 ++ (Z))))) from by simp only [List.append_assoc], splice_mid _ _ _ _ 24 (by simp [fB_length]) (by rw [zs_length, fB_length])]
    simp only [List.append_assoc]
  have e6 : lay5 m 6 = [1] ++ (fB 1 m.en ++ ([0, 0, 69, 83, 80, 76] ++ (fB 4 m.pg ++ (fB 8 m.tx ++ (fB 4 m.ro ++ (fB 4 m.co ++ (fB 4 m.fr ++ (zs 4 ++ (zs 4 ++ (Z)))))))))) := by
    show splice (lay5 m 5) 28 (fB 4 m.fr) = _
    rw [e5, show [1] ++ (fB 1 m.en ++ ([0, 0, 69, 83, 80, 76] ++ (fB 4 m.pg ++ (fB 8 m.tx ++ (fB 4 m.ro ++ (fB 4 m.co ++ (zs 4 ++ (zs 4 ++ (zs 4 ++ (Z)))))))))) = ([1] ++ fB 1 m.en ++ [0, 0, 69, 83, 80, 76] ++ fB 4 m.pg ++ fB 8 m.tx ++ fB 4 m.ro ++ fB 4 m.co) ++ (zs 4 ++ (zs 4 ++ (zs 4 ++ (Z)))) from by simp only [List.append_assoc], splice_mid _ _ _ _ 28 (by simp [fB_length]) (by rw [zs_length, fB_length])]
    simp only [List.append_assoc]
  have e7 : lay5 m 7 = [1] ++ (fB 1 m.en ++ ([0, 0, 69, 83, 80, 76] ++ (fB 4 m.pg ++ (fB 8 m.tx ++ (fB 4 m.ro ++ (fB 4 m.co ++ (fB 4 m.fr ++ (fB 4 m.li ++ (zs 4 ++ (Z)))))))))) := by
    show splice (lay5 m 6) 32 (fB 4 m.li) = _
    rw [e6, show [1] ++ (fB 1 m.en ++ ([0, 0, 69, 83, 80, 76] ++ (fB 4 m.pg ++ (fB 8 m.tx ++ (fB 4 m.ro ++ (fB 4 m.co ++ (fB 4 m.fr ++ (zs 4 ++ (zs 4 ++ (Z)))))))))) = ([1] ++ fB 1 m.en ++ [0, 0, 69, 83, 80, 76] ++ fB 4 m.pg ++ fB 8 m.tx ++ fB 4 m.ro ++ fB 4 m.co ++ fB 4 m.fr) ++ (zs 4 ++ (zs 4 ++ (Z))) from by simp only [List.append_assoc], splice_mid _ _ _ _ 32 (by simp [fB_length]) (by rw [zs_length, fB_length])]
    simp only [List.append_assoc]
  have e8 : lay5 m 8 = [1] ++ (fB 1 m.en ++ ([0, 0, 69, 83, 80, 76] ++ (fB 4 m.pg ++ (fB 8 m.tx ++ (fB 4 m.ro ++ (fB 4 m.co ++ (fB 4 m.fr ++ (fB 4 m.li ++ (fB 4 m.hi ++ (Z)))))))))) := by
    show splice (lay5 m 7) 36 (fB 4 m.hi) = _
    rw [e7, show [1] ++ (fB 1 m.en ++ ([0, 0, 69, 83, 80, 76] ++ (fB 4 m.pg ++ (fB 8 m.tx ++ (fB 4 m.ro ++ (fB 4 m.co ++ (fB 4 m.fr ++ (fB 4 m.li ++ (zs 4 ++ (Z)))))))))) = ([1] ++ fB 1 m.en ++ [0, 0, 69, 83, 80, 76] ++ fB 4 m.pg ++ fB 8 m.tx ++ fB 4 m.ro ++ fB 4 m.co ++ fB 4 m.fr ++ fB 4 m.li) ++ (zs 4 ++ (Z)) from by simp only [List.append_assoc], splice_mid _ _ _ _ 36 (by simp [fB_length]) (by rw [zs_length, fB_length])]
    simp only [List.append_assoc]
  rw [e8, hZ]
  simp only [hdB, List.append_assoc]
set_option maxRecDepth 100000 in
theorem lay5_length (m : Mt) (h : m.ok) : ∀ k, k ≤ 8 → (lay5 m k).length = m.pg.toNat
  | 0, _ => by
    have hp := pw_le h.pg
    simp only [lay5, List.length_append, zs_length, List.length_cons, List.length_nil]
    omega
  | k + 1, hk => by
    have hp := pw_le h.pg
    have ih := lay5_length m h k (by omega)
    show (splice _ _ _).length = _
    rw [length_splice _ _ _ (by
      rw [ih, fB_length]
      rcases eight (show k < 8 by omega) with rfl | rfl | rfl | rfl | rfl | rfl | rfl | rfl <;> simp [atN, wdN] <;> omega), ih]
set_option maxRecDepth 100000 in
theorem splice_wf {l cs : List Int} (h : Wf l) (hc : Wf cs) (off : Nat) : Wf (splice l off cs) := (h.take _).append (hc.append (h.drop _))
set_option maxRecDepth 100000 in
theorem lay5_wf (m : Mt) : ∀ k, Wf (lay5 m k)
  | 0 => by
    refine Wf.append ?_ (zs_wf _)
    intro x hx
    simp only [List.mem_cons, List.not_mem_nil, or_false] at hx
    omega
  | k + 1 => splice_wf (lay5_wf m k) (fB_wf _ _) _
set_option maxRecDepth 100000 in
theorem lay5_body (m : Mt) (h : m.ok) : (lay5 m 8).take (m.pg.toNat - 4) = bodyB m := by
  have hp := pw_le h.pg
  rw [lay5_all m h, List.take_append, hdB_length, List.take_of_length_le (by rw [hdB_length]; omega)]
  unfold bodyB zs
  rw [List.take_replicate, show min (m.pg.toNat - 4 - 40) (m.pg.toNat - 40) = m.pg.toNat - 44 by omega]
set_option maxRecDepth 100000 in
theorem lay5_page (m : Mt) (h : m.ok) : splice (lay5 m 8) (m.pg.toNat - 4) (fB 4 (sumN [bodyB m])) = pageB m := by
  have hp := pw_le h.pg
  unfold splice
  rw [lay5_body m h, fB_length, List.drop_eq_nil_of_le (by rw [lay5_length m h 8 (Nat.le_refl _)]; omega), List.append_nil]
  rfl
set_option maxRecDepth 100000 in
theorem By_splice5 (l cs : List Int) (off : Nat) : splice (By l) off (By cs) = By (splice l off cs) := by simp [splice, By, List.map_take, List.map_drop]

set_option maxRecDepth 100000 in
theorem step_copy_rw {P : Program} {ops : Array Oper} {o : Oper} {a : Act} {w : World} {K : Act → World → Prop} {Q : Exit → Act → World → Prop} {E : Prop} (hgd : o.guard = none) (d s : Operand) (dT sT : TypeId)
    (ho : o.op = .call { callee := .builtin .copy, args := #[d, s], argTypes := #[dT, sT] }) (elem : TypeId) (hu : P.underlying dT = some (.slice elem)) (hsz : (P.info? elem).map (·.size) = some 1)
    (g off dLen dCap : Nat) (ad : Addr) (sLen sCap : Nat) (hd : a.eval d = .slice (some ⟨g, off, none⟩) dLen dCap) (hs : a.eval s = .slice (some ad) sLen sCap)
    (cur : List Value) (t : TypeId) (hg : w.heap[g]? = some (.cells cur.toArray t (0, 0))) (cs : List Value) (hn : cs.length = Nat.min sLen dLen)
    (hsrc : ∀ j v, cs[j]? = some v → w.cell? (ad.add j) = some v) (hfit : off + cs.length ≤ cur.length) (h1 : ∀ v ∈ cs, v.oneCell' = true)
    (h : ∀ u, Hid (u = w.setRow g (splice cur off cs).toArray) → K (a.put o.dst (goInt cs.length)) u) : if Region.wanted o (yielded ops a.tmps) = true then Oper.wp P o a w K Q else E := by
  have hw : Region.wanted o (yielded ops a.tmps) = true := by simp [Region.wanted, hgd]
  rw [if_pos hw]
  have hrun := run_copy_row (P := P) w dT sT o.type elem g off dLen dCap ad sLen sCap cur.toArray t cs hu hsz hg hn hsrc (by simpa using hfit) h1
  unfold Oper.wp
  simp [execOp, ho, resolve, invoke, builtin, hd, hs, hrun, Result.andThen]
  exact h _ (hidden (by simp [splice]))

set_option maxRecDepth 100000 in
/-- What Fixed hands out lies in new memory. -/
theorem fixed_row (n x : Int) (w : World) (h0 : 0 ≤ n) (h1 : 1 ≤ x) (h2 : x ≤ 8) :
    Calls Tryz.prog 105 #[.int .u64 n, .int .i64 x] w fun e w' => ∃ b off c, e = .returned (.slice (some ⟨b, off, none⟩) x.toNat c) ∧ Hid (Sl w' (some ⟨b, off, none⟩) x.toNat c (fB x.toNat n)) ∧ Hid (Below w.heap.size w w') := by
  refine (fixed_yes n x w h0 h1 h2).mono ?_
  rintro e w' ⟨v, rfl, ho, hb⟩
  obtain ⟨ao, cap, rfl, hs, _⟩ := ho.sl (fB_wf _ _) (by rw [fB_length]; omega)
  rw [fB_length] at hs ⊢
  rcases hs.hat with h | ⟨b, off, rfl, hlt, hc⟩
  · omega
  · exact ⟨b, off, cap, rfl, hs, hb⟩
set_option maxRecDepth 100000 in
theorem sl_src5 {w : World} {b off n c : Nat} {l : List Int} (h : Sl w (some ⟨b, off, none⟩) n c l) : ∀ j v, (By l)[j]? = some v → w.cell? ((⟨b, off, none⟩ : Addr).add j) = some v := by
  intro j v hv
  obtain ⟨h1, rfl⟩ := getElem?_By l j v hv
  rw [Addr.add_lit]
  rcases h.hat with h0 | ⟨b', off', e, hlt, hc⟩
  · have := h.hlen; omega
  · injection e with e
    injection e with e1 e2
    subst e1 e2
    exact hc j (by have := h.hlen; omega)
end Go.Proofs.YtbnjojplfbibkaaGreatDoor
