import Derived.Test.YtbkhjeacmmbabaaGreatDoorJ30
namespace Go.Proofs.YtbkhjeacmmbabaaGreatDoor
set_option maxRecDepth 100000
set_option maxHeartbeats 2000000
open Go.RowKit
theorem lcp_ge (a b : List Int) (n : Nat) (ha : n ≤ a.length) (hb : n ≤ b.length) (h : ∀ i, i < n → a.getD i 0 = b.getD i 0) : n ≤ lcp a b := by
 rcases Nat.lt_or_ge (lcp a b) n with A | B
 ·exact absurd (h _ A) (lcp_next a b zq zq)
 ·exact B
theorem lcp_comm : ∀ (a b : List Int), lcp a b = lcp b a
 | [], [] => rfl
 | [], _ :: _ => rfl
 | _ :: _, [] => rfl
 | x :: a, y :: b => by
  simp only [lcp]
  by_cases h : x = y
  ·rw [if_pos h, if_pos h.symm, lcp_comm a b]
  ·rw [if_neg h, if_neg (fun e => h e.symm)]
theorem lcp_takeL : ∀ (a b : List Int) (n : Nat), lcp (a.take n) b = min n (lcp a b)
 | [], b, n => by cases b <;> simp [lcp]
 | x :: a, [], n => by cases n <;> simp [lcp]
 | x :: a, y :: b, 0 => by simp [lcp]
 | x :: a, y :: b, n + 1 => by
  simp only [List.take_succ_cons, lcp]
  by_cases h : x = y
  ·rw [if_pos h, if_pos h, lcp_takeL a b n]
   omega
  ·rw [if_neg h, if_neg h]
   omega
theorem cmN_min (t : List Int) (r : List (List Int)) : cmN (t :: r) = r.foldl (fun n x => min n (lcp x t)) t.length := by
 show r.foldl _ _ = _
 congr 1
 funext n x
 rw [lcp_takeL, lcp_comm t x]
theorem begins_any (ao bo : Option Addr) (n m c d k : Nat) (la lb : List Int) (w : World) (ha : Sl w ao n c la) (hb : Sl w bo m d lb) (hk : k ≤ 140737488355328) :
  Calls Tryz.prog 168 #[.slice ao n c, .slice bo m d, .int .i64 k] w fun e w' => e = .returned (.bool (decide (k ≤ lcp la lb))) ∧ ∃ q, w' = w.drewN q := by
 obtain ⟨P, Q, K, W, T, E⟩ := ha
 obtain ⟨M, N, J, U, O, C⟩ := hb
 have B := lcp_le la lb
 by_cases X : n < k
 ·have e : decide (k ≤ lcp la lb) = false := by simp; omega
  rw [e]
  clear e B
  go_enter Tryz.func168, Tryz.ntmps168
  go_wp2
  go_ret
  exact ⟨rfl, 0, rfl⟩
 ·by_cases Y : m < k
  ·have e : decide (k ≤ lcp la lb) = false := by simp; omega
   rw [e]
   clear e B
   go_enter Tryz.func168, Tryz.ntmps168
   go_wp2
   go_ret
   exact ⟨rfl, 0, rfl⟩
  ·have HG := zaa (lcp_ge la lb k zq zq)
   have HA := zaa (lcp_alike la lb)
   generalize lcp la lb = L at *
   obtain ⟨R, hR⟩ : ∃ R, decide (k ≤ L) = R := ⟨_, rfl⟩
   rw [hR]
   have HR := zaa hR
   clear hR
   go_enter Tryz.func168, Tryz.ntmps168
   go_wp2_with fail
   go_loopw [7] (fun i wr => ∃ j q : Nat, j ≤ k ∧ i = .int .i64 j ∧ wr = w.drewN q ∧ Hid (∀ i, i < j → la.getD i 0 = lb.getD i 0)) (fun i _ => k - (intOf i).toNat)
   case atStart => exact ⟨0, 0, zq, rfl, rfl, fun i hi => zq⟩
   case round =>
    obtain ⟨j, q, hj, rfl, rfl, HJ⟩ := hrel
    by_cases Z : j < k
    ·rcases E with h | ⟨b, off, rfl, A0, hc⟩
     ·omega
     rcases C with h | ⟨b', off', rfl, V, hc'⟩
     ·omega
     have F := hc j zq
     have D := hc' j zq
     obtain ⟨x, hx⟩ : ∃ x, la.getD j 0 = x := ⟨_, rfl⟩
     obtain ⟨y, hy⟩ : ∃ y, lb.getD j 0 = y := ⟨_, rfl⟩
     rw [hx] at F
     rw [hy] at D
     have HX := zaa hx
     have HY := zaa hy
     clear hx hy hc hc'
     by_cases A : x = y
     ·have G : (x != y) = false := by simp [A]
      have H := zaa A
      clear A
      go_wp2
      go_quiet (fail)
      go_wp2
      go_roundw
      case rel =>
       refine ⟨j + 1, _, zq, by go_num, rfl, fun i hi => ?_⟩
       by_cases I : i < j
       ·exact HJ.out i I
       ·obtain rfl : i = j := zq
        rw [HX.out, HY.out, H.out]
      case measure => simp [intOf]; omega
     ·have G : (x != y) = true := by simp [A]
      have e : R = false := by
       have : ¬ j < L := fun h => A (by rw [← HX.out, ← HY.out]; exact HA.out j h)
       rw [← HR.out]
       simp; omega
      subst e
      clear A
      go_wp2_with fail
      go_quiet (fail)
      go_wp2
      go_ret
      exact ⟨rfl, _, World.drewN_drewN _ _ _⟩
    ·have e : R = true := by
      have := HG.out (fun i hi => HJ.out i zq)
      rw [← HR.out]
      simpa using this
     subst e
     go_wp2
     go_ret
     exact ⟨rfl, _, rfl⟩
theorem refCommon_nil (ao : Option Addr) (cap : Nat) (w : World) : Calls Tryz.prog 135 #[.slice ao 0 cap] w fun e w' => e = .returned (.int .i64 0) ∧ ∃ q, w' = w.drewN q := by
 go_enter Tryz.func135, Tryz.ntmps135
 go_wp2
 go_ret
 exact ⟨rfl, 0, rfl⟩
theorem refCommon_any (ao : Option Addr) (n cap : Nat) (t : List Int) (ls : List (List Int)) (w : World) (hs : SlS w ao n cap (t :: ls)) :
  Calls Tryz.prog 135 #[.slice ao n cap] w fun e w' => e = .returned (.int .i64 (cmN (t :: ls))) ∧ ∃ q, w' = w.drewN q := by
 obtain ⟨C, Q, O, R, I⟩ := hs
 obtain ⟨N, rfl⟩ : ∃ N, n = N + 1 := ⟨n - 1, by simp at C; omega⟩
 have P : ls.length = N := by simpa using C
 clear C
 rcases I with h | ⟨b, off, rfl, T, hc⟩
 ·omega
 obtain ⟨a0, m0, c0, H, A⟩ := hc 0 zq
 simp only [Nat.add_zero, List.getD_cons_zero] at H A
 have J := A.hlen
 have U := A.hroom
 have K := zaa A
 have HC := zaa hc
 clear A hc
 rw [cmN_min, J]
 generalize hF : ls.foldl (fun n x => min n (lcp x t)) m0 = F
 have HF := zaa hF
 clear hF
 have V : ((N : Int) + 1 == 0) = false := by simp; omega
 go_enter Tryz.func135, Tryz.ntmps135
 go_wp2_with fail
 go_loopw [3, 4] (fun v i wr => ∃ (k q y : Nat), k ≤ N ∧ y ≤ m0 ∧ i = .int .i64 ((k : Int) + 1) ∧ v = .int .i64 y ∧ Hid ((ls.drop k).foldl (fun n x => min n (lcp x t)) y = F) ∧ wr = w.drewN q) (fun _ i _ => N + 1 - (intOf i).toNat)
 case atStart => exact ⟨0, 0, m0, zq, zq, rfl, rfl, HF, rfl⟩
 case round =>
  obtain ⟨k, q, y, hk, hy, rfl, rfl, HK, rfl⟩ := hrel
  clear HF
  by_cases W : k < N
  ·obtain ⟨a, m, c, X, D⟩ := HC.out (k + 1) zq
   rw [show (t :: ls).getD (k + 1) [] = ls.getD k [] by simp [List.getD]] at D
   have e := HK.out
   rw [dropS ls k zq, List.foldl_cons] at e
   have M := zaa (fun z q hz => begins_any a a0 m m0 c c0 z (ls.getD k []) t (w.drewN q) (D.drewN q) (K.out.drewN q) hz)
   generalize lcp (ls.getD k []) t = L at *
   have HE := zaa e
   clear e HK D
   go_wp2_with fail
   go_loopw [3] (fun v wr => ∃ z q : Nat, z ≤ y ∧ min y L ≤ z ∧ v = .int .i64 z ∧ wr = w.drewN q) (fun v _ => (intOf v).toNat)
   case atStart => exact ⟨y, q, zq, zq, rfl, rfl⟩
   case round =>
    obtain ⟨z, q, Y, Z, rfl, rfl⟩ := hrel
    by_cases A0 : 0 < z
    ·have B := M.out z
     by_cases G : z ≤ L
     ·have e : decide (z ≤ L) = true := by simpa using G
      simp only [e] at B
      have E := zaa B
      have e2 : min y L = z := zq
      clear B e
      go_wp2_with fail
      go_region_with (first | (go_at_call 168; refine zcm (E.out _ zq) ?_; intro q2))
      all_goals
       go_wp2
       go_roundw
       case rel => exact ⟨k + 1, _, z, zq, zq, by go_num, rfl, by rw [← e2]; exact HE, rfl⟩
       case measure => simp [intOf]; omega
     ·have e : decide (z ≤ L) = false := by simpa using G
      simp only [e] at B
      have E := zaa B
      clear B e
      go_wp2_with fail
      go_region_with (first | (go_at_call 168; refine zcm (E.out _ zq) ?_; intro q2))
      all_goals
       go_wp2
       go_roundw
       case rel => exact ⟨z - 1, _, zq, zq, by go_num, rfl⟩
       case measure => simp [intOf]; omega
    ·obtain rfl : z = 0 := zq
     have e2 : min y L = 0 := zq
     go_wp2
     go_roundw
     case rel => exact ⟨k + 1, _, 0, zq, zq, by go_num, rfl, by rw [← e2]; exact HE, rfl⟩
     case measure => simp [intOf]; omega
  ·have e : y = F := by rw [← HK.out, List.drop_eq_nil_of_le zq]; rfl
   have HE := zaa e
   clear e HK
   go_wp2
   go_ret
   exact ⟨zbf (by rw [HE.out]), _, rfl⟩
theorem infoSl : (Tryz.prog.info? 22).map (fun i => (i.zero, i.size, i.bytes)) = some (some (.slice none 0 0), 1, 24) := by kernel_rfl
def OwnV (w : World) (B : Nat) (v : Value) (xs : List Value) : Prop := w.ownsRow B 22 1 v xs.length xs
theorem OwnV.nil (w : World) (B : Nat) : OwnV w B (.slice none 0 0) [] := World.ownsRow_nil w B 22 1
theorem OwnV.on {w w' : World} {B C : Nat} {v : Value} {xs : List Value} (h : OwnV w B v xs) (hC : w.heap.size ≤ C) (hb : Below C w w') : OwnV w' B v xs := by
 refine World.ownsRow.kept (row := none) h ⟨hb.os, hb.tape, hb.output, hb.size, fun k hk _ => hb.block k zq⟩ ?_
 cases hv : v.ownBlock with
 | none => exact .inl rfl
 | some k => exact .inr zv
theorem app_val {ops : Array Oper} {rest : List Oper} {o : Oper} {a : Act} {Q : Exit → Act → World → Prop} (w : World) (E : o.guard = none) (s x : Operand)
  (ho : o.op = .call { callee := .builtin .append, args := #[s, x], argTypes := #[37, 37] }) (B : Nat) (xs : List Value) (v : Value) (hs : a.eval s = v)
  (D : OwnV w B v xs) (g n c : Nat) (hx : a.eval x = .slice (some ⟨g, 0, none⟩) 1 1) (ao : Option Addr) (A : w.cell? ⟨g, 0, none⟩ = some (.slice ao n c)) (hb : xs.length ≤ 1000000) (C : B ≤ w.heap.size)
  (h : ∀ v' w', OwnV w' B v' (xs ++ [.slice ao n c]) → w.grownBy w' v.ownBlock → wpList Tryz.prog ops Q rest (a.put o.dst v') w') : wpList Tryz.prog ops Q (o :: rest) a w := by
 obtain ⟨i0, hi, F, G, H⟩ := info_parts infoSl
 refine wpList_append_own w E s x 37 ho B 22 i0 (.slice none 0 0) 1 24 Tryz.underlying37 hi F G H rfl zd v xs.length xs hs D ⟨g, 0, none⟩ 1 1 [.slice ao n c] hx rfl
  (fun j u hu => by
   have hj : j = 0 := by
    have := (zH.1 hu).1
    simpa using this
   subst hj
   simp at hu
   subst hu
   simpa [Addr.add] using A) (fun u hu => by simp at hu; subst hu; rfl) zml zq C ?_
 intro v' w' h1 h2 _
 refine h v' w' ?_ h2
 unfold OwnV
 simpa using h1
theorem cmN_shn_acc (a : List Int) : ∀ (r : List Cl) (acc : Nat), acc ≤ a.length → (r.map (·.key)).foldl (fun n x => min n (lcp x a)) acc = min acc (shn a r)
 | [], acc, h => by simp only [List.map_nil, List.foldl_nil, shn]; omega
 | d :: r, acc, h => by
  simp only [List.map_cons, List.foldl_cons, shn]
  rw [cmN_shn_acc a r _ zq, lcp_comm d.key a]
  omega
theorem cmN_shn (c : Cl) (r : List Cl) : cmN (c.key :: r.map (·.key)) = shn c.key r := by
 rw [cmN_min, cmN_shn_acc c.key r _ Lr]
 have := shn_le c.key r
 omega
structure KeyV (w : World) (xs : List Value) (ds : List Cl) : Prop where
 len : xs.length = ds.length
 at_ : ∀ (t : Nat) (d : Cl), ds[t]? = some d → ∃ (ka : Option Addr) (kc : Nat), xs[t]? = some (Value.slice ka d.key.length kc) ∧ Sl w ka d.key.length kc d.key
theorem KeyV.snoc {w : World} {xs : List Value} {ds : List Cl} {d : Cl} {ka : Option Addr} {kc : Nat} (h : KeyV w xs ds) (hs : Sl w ka d.key.length kc d.key) : KeyV w (xs ++ [.slice ka d.key.length kc]) (ds ++ [d]) := by
 refine ⟨by simp [h.len], fun t e ht => ?_⟩
 by_cases A : t < ds.length
 ·rw [zL A] at ht
  obtain ⟨ka', kc', h1, h2⟩ := h.at_ t e ht
  exact ⟨ka', kc', by rw [zL (by rw [h.len]; exact A)]; exact h1, h2⟩
 ·have hl := (zH.1 ht).1
  simp only [zG, List.length_cons, List.length_nil] at hl
  obtain rfl : t = ds.length := zq
  rw [List.getElem?_append_right Lr, Nat.sub_self] at ht
  simp at ht
  subst ht
  exact ⟨ka, kc, by rw [List.getElem?_append_right (by rw [h.len]; exact Lr), h.len, Nat.sub_self]; rfl, hs⟩
theorem ktl_take {k : Int} {cs : List Cl} {j : Nat} {c : Cl} (h : cs[j]? = some c) (hc : ¬ (k = 3 ∧ (j : Int) = 0)) : ktl k (cs.take (j + 1)) = ktl k (cs.take j) ++ [c] := by
 have e : cs.take (j + 1) = cs.take j ++ [c] := by rw [List.take_add_one, h]; rfl
 unfold ktl
 split
 ·next h3 =>
  have hj : 0 < j := zq
  have hl := (zH.1 h).1
  rw [e, List.tail_append_of_ne_nil]
  intro e2
  have := congrArg List.length e2
  rw [zJ, List.length_nil] at this
  omega
 ·exact e
theorem ktl_zero {k : Int} {cs : List Cl} {j : Nat} (hc : k = 3 ∧ (j : Int) = 0) : ktl k (cs.take (j + 1)) = ktl k (cs.take j) := by
 obtain ⟨rfl, hj⟩ := hc
 obtain rfl : j = 0 := zq
 unfold ktl
 rw [if_pos rfl, if_pos rfl]
 cases cs <;> simp
theorem keys_sls {w w' : World} {B : Nat} {v : Value} {xs : List Value} {ds : List Cl} (h : OwnV w' B v xs) (k : KeyV w xs ds) (hb : Below w.heap.size w w') (hn : ds.length ≤ 1000000) :
  ∃ a c, v = .slice a ds.length c ∧ SlS w' a ds.length c (ds.map (·.key)) := by
 have hl := k.len
 rcases h.2 with ⟨rfl, h0⟩ | ⟨g, cap, cur, rfl, hg, hh, A, hm, hs, ht'⟩
 ·have : ds.length = 0 := zq
  rw [this]
  exact ⟨none, 0, rfl, ⟨by simpa using this, Lr, zq, fun _ => rfl, .inl rfl⟩⟩
 ·have h2 : w'.ownsRow B 22 1 (.slice (some ⟨g, 0, none⟩) ds.length cap) ds.length xs := by
   have h3 := h
   unfold OwnV at h3
   rw [hl] at h3
   exact h3
  rw [hl] at A ⊢
  clear h
  have h := h2
  refine ⟨some ⟨g, 0, none⟩, cap, rfl, ⟨zv, A, zq, (by intro h; cases h), .inr ⟨g, 0, rfl, (World.ownsRow.lt h g rfl).2, fun i hi => ?_⟩⟩⟩
  have hc := World.ownsRow.cellAt h i zq
  obtain ⟨ka, kc, e1, e2⟩ := k.at_ i ds[i] (zI hi)
  rw [e1] at hc
  refine ⟨_, _, _, by rw [Nat.zero_add]; exact hc, ?_⟩
  have e3 : (ds.map (·.key)).getD i [] = ds[i].key := by simp [List.getD, hi]
  rw [e3]
  exact e2.on Lr hb
theorem rshared_any (k : Int) (ao : Option Addr) (n cap : Nat) (cs : List Cl) (w : World) (hs : SlC w ao n cap cs) (hn : n ≤ 900000) :
  Calls Tryz.prog 93 #[.int .i64 k, .slice ao n cap] w fun e w' => ∃ v, e = .returned v ∧ Hid (OwnB w' w.heap.size v (shP k cs)) ∧ Hid (Below w.heap.size w w') := by
 have HS := zaa hs
 have Q := zaa hs.hlen
 obtain ⟨P, hP⟩ : ∃ P, shP k cs = P := ⟨_, rfl⟩
 rw [hP]
 have HP : Hid (shr (ktl k cs) = P) := zaa hP
 clear hs hP
 go_enter Tryz.func93, Tryz.ntmps93
 go_wp2_with fail
 go_loopw [5, 6] (fun v i wr => ∃ (j : Nat) (xs : List Value), j ≤ n ∧ i = .int .i64 j ∧ Hid (OwnV wr w.heap.size v xs) ∧ Hid (KeyV w xs (ktl k (cs.take j))) ∧ Hid (Below w.heap.size w wr)) (fun _ i _ => n - (intOf i).toNat)
 case atStart => exact ⟨0, [], zq, rfl, zaa (OwnV.nil _ _), zaa ⟨by unfold ktl; split <;> rfl, fun t d h => by unfold ktl at h; split at h <;> simp at h⟩, zaa Br⟩
 case round =>
  obtain ⟨j, xs, hj, rfl, HO, HK, HB⟩ := hrel
  have bj : (j : Int) ≤ 900000 := zq
  by_cases A3 : j < n
  ·have A6 : (j : Int) < (n : Int) := zq
   obtain ⟨b, off, c, ka, kc, va, vc, rfl, hb, L, c0, c1, c2, c3, c4, hk, hv⟩ := HS.out.item j A3
   by_cases hc : k = 3 ∧ (j : Int) = 0
   ·have D : Hid (KeyV w xs (ktl k (cs.take (j + 1)))) := zaa (by rw [ktl_zero hc]; exact HK.out)
    obtain ⟨rfl, A4⟩ := hc
    obtain rfl : j = 0 := zq
    clear hk hv c0 c1 c2 c3 c4 HK L
    go_wp2
    go_roundw
    case rel => exact ⟨1, xs, zq, by go_num, HO, D, HB⟩
    case measure => simp [intOf]; omega
   ·have T : xs.length ≤ 1000000 := by
     rw [HK.out.len]
     unfold ktl
     split <;> simp <;> omega
    have U := zaa T
    have D : Hid (KeyV w (xs ++ [.slice ka c.key.length kc]) (ktl k (cs.take (j + 1)))) := zaa (by rw [ktl_take L hc]; exact HK.out.snoc hk)
    have d0 := (HB.out.cell (p := ⟨b, off + j * 5, none⟩) hb).trans c0
    obtain ⟨K, hK⟩ : ∃ K, c.key.length = K := ⟨_, rfl⟩
    rw [hK] at d0 D
    have hsz := HB.out.size
    clear hk hv c0 c1 c2 c3 c4 HK L hK T
    have H : Hid ((wr.alloc (.cells #[.slice ka K kc] 22)).cell? ⟨wr.heap.size, 0, none⟩ = some (.slice ka K kc)) := zaa zv
    by_cases h3 : k = 3
    ·subst h3
     have A4 : ¬ (j : Int) = 0 := fun e => hc ⟨rfl, e⟩
     have B0 : (0 : Int) < (j : Int) := zq
     clear hc
     go_wp2_with (at_builtin; refine app_val _ rfl _ _ rfl w.heap.size xs _ rfl (HO.out.on Lr (zab Br Lr _)) wr.heap.size K kc rfl ka H.out U.out zso ?_; refine Hid.out ?_)
     apply zaa
     intro v2 w2 E g2
     have M := zaa E
     have A : Hid (Below w.heap.size w w2) := zaa ((zab HB.out Lr _).trans (zcu (HO.out.on Lr (zab Br Lr _)) zso g2))
     clear E g2 HO HB d0 H
     go_wp2
     go_roundw
     case rel => exact ⟨j + 1, _, zq, by go_num, M, D, A⟩
     case measure => simp [intOf]; omega
    ·have B1 : (k != 3) = true := by simpa using h3
     clear hc h3
     go_wp2_with (at_builtin; refine app_val _ rfl _ _ rfl w.heap.size xs _ rfl (HO.out.on Lr (zab Br Lr _)) wr.heap.size K kc rfl ka H.out U.out zso ?_; refine Hid.out ?_)
     apply zaa
     intro v2 w2 E g2
     have M := zaa E
     have A : Hid (Below w.heap.size w w2) := zaa ((zab HB.out Lr _).trans (zcu (HO.out.on Lr (zab Br Lr _)) zso g2))
     clear E g2 HO HB d0 H
     go_wp2
     go_roundw
     case rel => exact ⟨j + 1, _, zq, by go_num, M, D, A⟩
     case measure => simp [intOf]; omega
  ·have e : cs.take j = cs := List.take_of_length_le (by rw [Q.out]; omega)
   rw [e] at HK
   have I : (ktl k cs).length ≤ 900000 := by
    have := Q.out
    unfold ktl
    split <;> simp <;> omega
   obtain ⟨a, c, rfl, G⟩ := keys_sls HO.out HK.out HB.out zq
   have F := zaa G
   cases hk : ktl k cs with
   | nil =>
    rw [hk] at F HP
    obtain rfl : [] = P := HP.out
    have HC := zaa (refCommon_nil a c wr)
    simp only [List.length_nil]
    clear G HO HK hk I e F
    go_wp2_with (go_at_call 135; refine zcm HC.out ?_; intro q; refine Hid.out ?_)
    apply zaa
    have A := zaa (zac HB.out q)
    clear HC HB
    go_wp2
    go_ret
    exact ⟨_, rfl, zaa (OwnB.nil _ _), A⟩
   | cons d r =>
    rw [hk] at F HK
    have C := F.out
    simp only [List.map_cons, List.length_cons] at C
    have HC := zaa (refCommon_any a (r.length + 1) c d.key (r.map (·.key)) wr C)
    rw [cmN_shn] at HC
    have A2 := shn_le d.key r
    have HR : Hid (P = d.key.take (shn d.key r)) := zaa (by rw [← HP.out, hk]; rfl)
    obtain ⟨m, hm⟩ : ∃ m, shn d.key r = m := ⟨_, rfl⟩
    rw [hm] at HC A2 HR
    rcases C.hat with h | ⟨b, off, rfl, B2, V⟩
    ·omega
    obtain ⟨a0, m0, c0, O, B⟩ := V 0 zq
    simp only [Nat.add_zero, List.getD_cons_zero] at O B
    have B3 := B.hlen
    have B4 := B.hcap
    have B5 := B.hroom
    have W := zaa B
    obtain ⟨N, hN⟩ : ∃ N, r.length + 1 = N := ⟨_, rfl⟩
    have B6 : 0 < N := zq
    have A7 : (0 : Int) < (N : Int) := zq
    simp only [List.length_cons]
    rw [hN] at HC ⊢
    have B7 : (N : Int) ≤ 900000 := by rw [hk] at I; simp at I; omega
    clear G HO HK hk I e F C V B hN hm HP
    go_wp2_with (go_at_call 135; refine zcm HC.out ?_; intro q; refine Hid.out ?_)
    apply zaa
    have A := zaa (zac HB.out q)
    have X : (wr.drewN q).cell? ⟨b, off, none⟩ = some (.slice a0 m0 c0) := O
    have J := zaa (W.out.drewN q)
    obtain ⟨wq, Y⟩ : ∃ wq, wr.drewN q = wq := ⟨_, rfl⟩
    rw [Y] at A X J ⊢
    clear HC O W Y HB
    by_cases R : m = 0
    ·subst R
     go_wp2
     go_ret
     rw [HR.out, List.take_zero]
     exact ⟨_, rfl, zaa (OwnB.nil _ _), A⟩
    ·have B8 : ((m : Int) == 0) = false := by simpa using R
     rcases J.out.hat with h | ⟨b1, o1, rfl, A8, _⟩
     ·omega
     have Z : Hid (Sl wq (some ⟨b1, o1, none⟩) m c0 (d.key.take m)) := zaa (by
      have := J.out.piece 0 m c0 zq zq
      simpa using this)
     have B9 : m ≤ c0 := zq
     have A9 : (m : Int) ≤ (c0 : Int) := zq
     have C0 : (m : Int) ≤ 140737488355328 := zq
     have HA := zaa (zcg (.slice none 0 0) w.heap.size [] (d.key.take m) (some ⟨b1, o1, none⟩) m c0 wq (OwnB.nil _ _) Z.out (.inr (fun p hp e => by cases e)) zso A.out.size)
     clear J Z
     go_wp2_with (go_at_call 101; refine HA.out.mono ?_; rintro e w3 ⟨v3, rfl, A0, A1⟩; refine Hid.out ?_)
     apply zaa
     have A5 := zaa (A.out.trans A1.out)
     rw [List.nil_append, ← HR.out] at A0
     clear HA A1 A X
     go_wp2
     go_ret
     exact ⟨v3, rfl, A0, A5⟩
theorem rsize_any (k : Int) (ao : Option Addr) (n cap : Nat) (cs : List Cl) (w : World) (hs : SlC w ao n cap cs) (hn : n ≤ 900000) (A : ∀ c ∈ cs, c.key.length + c.val.length ≤ 35184372088832) (hz : szQ k (shP k cs).length cs ≤ 1099511627776) :
  Calls Tryz.prog 104 #[.int .i64 k, .slice ao n cap] w fun e w' => e = .returned (.int .i64 (szQ k (shP k cs).length cs : Int)) ∧ Hid (Below w.heap.size w w') := by
 have HA := zaa (rshared_any k ao n cap cs w hs hn)
 have HT := zaa (fun u (hu : Below w.heap.size w u) => rtaken_any k ao n cap (shP k cs).length cs u (hs.on hu) (fun j c hc F => beg_len (zby k cs c (mem_ktl hc zq))) A hz)
 obtain ⟨P, hP⟩ : ∃ P, shP k cs = P := ⟨_, rfl⟩
 rw [hP] at HA HT hz ⊢
 have G : (P.length : Int) ≤ 1099511627776 := by unfold szQ at hz; omega
 clear hs hP A hz
 go_enter Tryz.func104, Tryz.ntmps104
 go_wp2_with (go_at_call 93; refine HA.out.mono ?_; rintro e w1 ⟨v1, rfl, B, C⟩; refine Hid.out ?_)
 apply zaa
 obtain ⟨a1, c1, rfl⟩ := zch B.out
 clear HA B
 have D := zaa (HT.out w1 C.out)
 clear HT
 go_wp2_with (go_at_call 108; refine D.out.mono ?_; rintro e w2 ⟨rfl, E⟩; refine Hid.out ?_)
 apply zaa
 have HB := zaa (zae C.out Lr E.out)
 clear D
 go_wp2
 go_ret
 exact ⟨rfl, HB⟩
end Go.Proofs.YtbkhjeacmmbabaaGreatDoor
