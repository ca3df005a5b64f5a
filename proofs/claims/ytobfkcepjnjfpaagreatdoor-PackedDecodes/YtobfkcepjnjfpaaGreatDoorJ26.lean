/- Lent, AsLent and rows of slices for layer 7 (Own, Lent, AsLent, Lents, without layer 1's Live). -/
import Derived.Test.YtobfkcepjnjfpaaGreatDoorJ08
import Derived.Test.YtobfkcepjnjfpaaGreatDoorJ02
import Derived.Test.YtobfkcepjnjfpaaGreatDoorJ03
import Derived.Test.YtobfkcepjnjfpaaGreatDoorJ25
namespace Go.Proofs.YtobfkcepjnjfpaaGreatDoor
open Go.RowKit

set_option maxRecDepth 100000 in
theorem grown_trans {a b c : World} {row : Option Nat} (h : a.grownBy b row) (k : b.grownBy c row) : a.grownBy c row :=
  ⟨k.os.trans h.os, k.tape.trans h.tape, k.output.trans h.output, Nat.le_trans h.size k.size, fun i hi hne => (k.block i (Nat.lt_of_lt_of_le hi h.size) hne).trans (h.block i hi hne)⟩
set_option maxRecDepth 100000 in
theorem Sl.grown {w w' : World} {ao : Option Addr} {n cap : Nat} {l : List Int} {row : Option Nat} (h : Sl w ao n cap l) (hg : w.grownBy w' row) (hne : ∀ a, ao = some a → some a.block ≠ row) : Sl w' ao n cap l := by
  refine ⟨h.hlen, h.hcap, h.hroom, h.wf, h.hnil, ?_⟩
  rcases h.hat with h0 | ⟨b, off, e, hlt, hc⟩
  · exact .inl h0
  · exact .inr ⟨b, off, e, Nat.lt_of_lt_of_le hlt hg.size, fun i hi => hg.cell (hc i hi) (hne ⟨b, off, none⟩ e)⟩
set_option maxRecDepth 100000 in
set_option maxHeartbeats 1000000 in
theorem lent_any (ao : Option Addr) (n cap : Nat) (l : List Int) (w : World) (hs : Sl w ao n cap l) :
    Calls Tryz.prog 5 #[.slice ao n cap] w fun e w' => e = .returned (.slice (some ⟨w.heap.size, 0, none⟩) n (n + 3)) ∧ OwnB w' w.heap.size (.slice (some ⟨w.heap.size, 0, none⟩) (n + 3) (n + 3)) (l ++ [71, 72, 73]) ∧ Below w.heap.size w w' := by
  obtain ⟨i0, hi, hz0, hz1, hz2⟩ := info_parts info5
  obtain ⟨hlen, hcap, hroom, hwf, hnil, hat⟩ := hs
  have hsz : (Tryz.prog.info? 5).map (·.size) = some 1 := by rw [hi]; simp [hz1]
  go_enter Tryz.func5, Tryz.ntmps5
  go_wp2_with (at_make; refine wpList_make_full _ rfl _ _ 22 rfl w.heap.size 5 i0 (.int .u8 0) 1 Tryz.underlying22 hi hz0 hz1 .i64 .i64 (n + 3) (n + 3) (n + 3) rfl rfl rfl rfl (by rw [hz2]; omega) (by unfold maxLen; omega) (Nat.le_refl _) ?_)
  intro w1 hown1 hg1
  have hb1 : Below w.heap.size w w1 := (Below.refl _ _).grown hg1 (Nat.le_refl _) (fun k hk => by cases hk)
  clear hg1
  have hcur : w1.heap[w.heap.size]? = some (.cells (List.replicate (n + 3) (Value.int .u8 0)).toArray 5 (0, 0)) := by
    rcases hown1.2 with ⟨h, _⟩ | ⟨g, c, cur, h, _, hh, _, _, hs, ht⟩
    · cases h
    · cases h
      rw [hh]
      congr 2
      apply Array.toList_inj.1
      rw [toList_madeCells_one] at ht
      simp only [Nat.mul_one] at hs ht
      rw [List.take_of_length_le (by simp [hs])] at ht
      simpa using ht
  clear hown1
  obtain ⟨cur, hce⟩ : ∃ cur, List.replicate (n + 3) (Value.int .u8 0) = cur := ⟨_, rfl⟩
  rw [hce] at hcur
  have hcl : cur.length = n + 3 := by rw [← hce]; simp
  have HCE := hidden hce
  have HC := hidden hcur
  clear hcur hce
  have hpos : 0 < (By l).length → some (⟨w.heap.size, 0, none⟩ : Addr) = some ⟨w.heap.size, 0, none⟩ ∧ ∃ ad, ao = some ad ∧ ∀ j v, (By l)[j]? = some v → w1.cell? (ad.add j) = some v := by
    intro h
    rw [By_length] at h
    rcases hat with h0 | ⟨b, off, rfl, hbb, hc⟩
    · omega
    · refine ⟨rfl, _, rfl, fun j v hv => ?_⟩
      obtain ⟨h1, rfl⟩ := getElem?_By l j v hv
      rw [Addr.add_lit]
      exact (hb1.cell (p := ⟨b, off + j, none⟩) hbb).trans (hc j (by omega))
  have HP := hidden hpos
  clear hpos
  go_wp2_with (refine wpList_copy_splice rfl _ _ 22 22 rfl 5 Tryz.underlying22 hsz _ _ (n + 3) (n + 3) n cap rfl rfl w.heap.size 0 cur 5 HC.out (By l) (by rw [By_length, hlen]; exact (Nat.min_eq_left (by omega)).symm) HP.out (by rw [By_length]; omega) (By_one l) w.heap.size w hb1 (Nat.le_refl _) ?_)
  intro w2 hh hb2
  have ho : OwnB w2 w.heap.size (.slice (some ⟨w.heap.size, 0, none⟩) (n + 3) (n + 3)) (l ++ [0, 0, 0]) := by
    have h' := hh.out
    rw [show splice cur 0 (By l) = By (l ++ [0, 0, 0]) from by
      rw [← HCE.out]
      simp only [splice, By_length, hlen, List.take_zero, List.nil_append, Nat.zero_add, By_append, List.drop_replicate, show n + 3 - n = 3 by omega]
      rfl] at h'
    have := own_of_heap (l := l ++ [0, 0, 0]) h' (Nat.le_refl _) (by unfold maxLen; simp; omega)
    simpa [hlen] using this
  have hl0 : (l ++ [0, 0, 0]).length = n + 3 := by simp [hlen]
  have hl1 : ((l ++ [0, 0, 0]).set n 71).length = n + 3 := by simp [hlen]
  have hl2 : (((l ++ [0, 0, 0]).set n 71).set (n + 1) 72).length = n + 3 := by simp [hlen]
  have f0 := own_free ho hl0 n
  have c0 := own_cell ho hl0 (show n < n + 3 by omega)
  have o1 := own_set (x := 71) ho hl0 (show n < n + 3 by omega)
  have f1 := own_free o1 hl1 (n + 1)
  have c1 := own_cell o1 hl1 (show n + 1 < n + 3 by omega)
  have o2 := own_set (x := 72) o1 hl1 (show n + 1 < n + 3 by omega)
  have f2 := own_free o2 hl2 (n + 2)
  have c2 := own_cell o2 hl2 (show n + 2 < n + 3 by omega)
  have o3 := own_set (x := 73) o2 hl2 (show n + 2 < n + 3 by omega)
  have e3 : (((l ++ [0, 0, 0]).set n 71).set (n + 1) 72).set (n + 2) 73 = l ++ [71, 72, 73] := by
    subst hlen
    simp [List.set_append_right]
  rw [e3] at o3
  have HO3 := hidden o3
  have HB3 := hidden (((hb2.setCell (p := ⟨w.heap.size, n, none⟩) (Nat.le_refl _) (.int .u8 71)).setCell (p := ⟨w.heap.size, n + 1, none⟩) (Nat.le_refl _) (.int .u8 72)).setCell (p := ⟨w.heap.size, n + 2, none⟩) (Nat.le_refl _) (.int .u8 73))
  obtain ⟨y0, c0⟩ : ∃ y, w2.cell? ⟨w.heap.size, n, none⟩ = some y := ⟨_, c0⟩
  obtain ⟨y1, c1⟩ : ∃ y, (w2.setCell ⟨w.heap.size, n, none⟩ (.int .u8 71)).cell? ⟨w.heap.size, n + 1, none⟩ = some y := ⟨_, c1⟩
  obtain ⟨y2, c2⟩ : ∃ y, ((w2.setCell ⟨w.heap.size, n, none⟩ (.int .u8 71)).setCell ⟨w.heap.size, n + 1, none⟩ (.int .u8 72)).cell? ⟨w.heap.size, n + 2, none⟩ = some y := ⟨_, c2⟩
  clear hh ho o1 o2 o3 e3 hl0 hl1 hl2 hb2 HP HC HCE
  go_wp2
  go_ret
  exact ⟨rfl, HO3.out, HB3.out⟩
set_option maxRecDepth 100000 in
/-- What is owned from its row's head on reads as the beginning of its bytes. -/
theorem own_head {w : World} {B g n cap m : Nat} {l : List Int} (h : OwnB w B (.slice (some ⟨g, 0, none⟩) n cap) l) (hw : Wf l) (hn : l.length = n) (hm : m ≤ n) (hr : n ≤ 140737488355328) (c : Nat) (hc : m ≤ c) : Sl w (some ⟨g, 0, none⟩) m c (l.take m) := by
  have hlt : g < w.heap.size := (World.ownsRow.lt h g rfl).2
  refine ⟨by simp; omega, hc, by omega, hw.take m, (by intro h; cases h), .inr ⟨g, 0, rfl, hlt, fun i hi => ?_⟩⟩
  rw [Nat.zero_add, own_cell h hn (by omega)]
  simp [List.getD, hi]
set_option maxRecDepth 100000 in
set_option maxHeartbeats 2000000 in
theorem asLent_any (g B n : Nat) (bo : Option Addr) (d : Nat) (l : List Int) (w : World) (ho : OwnB w B (.slice (some ⟨g, 0, none⟩) (n + 3) (n + 3)) (l ++ [71, 72, 73])) (hb : Sl w bo n d l) (hbig : n + 3 ≤ 140737488355328) :
    Calls Tryz.prog 10 #[.slice (some ⟨g, 0, none⟩) n (n + 3), .slice bo n d] w fun e w' => e = .returned (.bool true) ∧ w.grownBy w' (some g) := by
  have hl : (l ++ [71, 72, 73]).length = n + 3 := by simp [hb.hlen]
  have hroom := hb.hroom
  have hwf := hb.wf
  have hlen := hb.hlen
  have hW : Wf (l ++ [71, 72, 73]) := hwf.append (by unfold Wf; decide)
  have c0 : w.cell? ⟨g, n, none⟩ = some (.int .u8 71) := by
    rw [own_cell ho hl (show n < n + 3 by omega)]
    subst hlen
    simp [List.getD]
  have c1 : w.cell? ⟨g, n + 1, none⟩ = some (.int .u8 72) := by
    rw [own_cell ho hl (show n + 1 < n + 3 by omega)]
    subst hlen
    simp [List.getD]
  have c2 : w.cell? ⟨g, n + 2, none⟩ = some (.int .u8 73) := by
    rw [own_cell ho hl (show n + 2 < n + 3 by omega)]
    subst hlen
    simp [List.getD]
  have ht : (l ++ [71, 72, 73]).take n = l := by subst hlen; simp
  have k1 : ∀ q, (convert 22 9 (.slice (some ⟨g, 0, none⟩) n (n + 3))).run Tryz.prog (w.drewN q) = .ok (.string (strOfNums l)) (w.drewN q) := fun q => by
    have h := own_head ho hW hl (show n ≤ n + 3 by omega) hbig (n + 3) (by omega)
    rw [ht] at h
    exact conv_sl (h.drewN q)
  have k2 : ∀ q, (convert 22 9 (.slice bo n d)).run Tryz.prog (w.drewN q) = .ok (.string (strOfNums l)) (w.drewN q) := fun q => conv_sl (hb.drewN q)
  have HO := hidden ho
  have HLN := hidden hl
  clear ho hb hW hl hwf ht
  go_enter Tryz.func10, Tryz.ntmps10
  go_wp2_with fail
  go_quiet (fail)
  go_wp2_with fail
  clear c0 c1 c2 k1 k2
  go_loopw [8] (fun i wr => ∃ (k : Nat) (l' : List Int), k ≤ n + 3 ∧ i = .int .i64 k ∧ l'.length = n + 3 ∧ OwnB wr B (.slice (some ⟨g, 0, none⟩) (n + 3) (n + 3)) l' ∧ w.grownBy wr (some g)) (fun i _ => n + 3 - (intOf i).toNat)
  case atStart => exact ⟨0, l ++ [71, 72, 73], by omega, rfl, HLN.out, HO.out, ⟨rfl, rfl, rfl, Nat.le_refl _, fun _ _ _ => rfl⟩⟩
  case round =>
    obtain ⟨k, l', hk, rfl, hl', hown, hgr⟩ := hrel
    clear HO HLN
    by_cases hlt : k < n + 3
    · have hce := own_cell hown hl' hlt
      have hfr := own_free hown hl' k
      have ho2 := own_set (x := 97) hown hl' hlt
      have hst : wr.grownBy (wr.setCell ⟨g, k, none⟩ (.int .u8 97)) (some g) := by
        have h' : wr.ownsRow B 5 1 (.slice (some ⟨g, 0, none⟩) (n + 3) (n + 3)) (n + 3) (By l') := by have := hown; unfold OwnB at this; rw [hl'] at this; exact this
        exact (World.ownsRow.stored h' k (.int .u8 97)).2
      have hg2 := grown_trans hgr hst
      clear hst hgr hown
      go_wp2
      go_roundw
      case rel => exact ⟨k + 1, l'.set k 97, by omega, by go_num, by simp [hl'], ho2, hg2⟩
      case measure => simp [intOf]; omega
    · go_wp2
      go_ret
      exact ⟨rfl, hgr⟩
set_option maxRecDepth 100000 in
theorem infoSl : (Tryz.prog.info? 22).map (fun i => (i.zero, i.size, i.bytes)) = some (some (.slice none 0 0), 1, 24) := by kernel_rfl
/-- The slice value v owns the slices xs. -/
def OwnV (w : World) (B : Nat) (v : Value) (xs : List Value) : Prop := w.ownsRow B 22 1 v xs.length xs
set_option maxRecDepth 100000 in
theorem OwnV.nil (w : World) (B : Nat) : OwnV w B (.slice none 0 0) [] := World.ownsRow_nil w B 22 1
set_option maxRecDepth 100000 in
theorem OwnV.on {w w' : World} {B C : Nat} {v : Value} {xs : List Value} (h : OwnV w B v xs) (hC : w.heap.size ≤ C) (hb : Below C w w') : OwnV w' B v xs := by
  refine World.ownsRow.kept (row := none) h ⟨hb.os, hb.tape, hb.output, hb.size, fun k hk _ => hb.block k (by omega)⟩ ?_
  cases hv : v.ownBlock with
  | none => exact .inl rfl
  | some k => exact .inr (by simp)
set_option maxRecDepth 100000 in
theorem app_val {ops : Array Oper} {rest : List Oper} {o : Oper} {a : Act} {Q : Exit → Act → World → Prop} (w : World) (hgd : o.guard = none) (s x : Operand)
    (ho : o.op = .call { callee := .builtin .append, args := #[s, x], argTypes := #[67, 67] }) (B : Nat) (xs : List Value) (v : Value) (hs : a.eval s = v)
    (hown : OwnV w B v xs) (g n c : Nat) (hx : a.eval x = .slice (some ⟨g, 0, none⟩) 1 1) (ao : Option Addr) (hcell : w.cell? ⟨g, 0, none⟩ = some (.slice ao n c)) (hb : xs.length ≤ 1000000) (hbase : B ≤ w.heap.size)
    (h : ∀ v' w', OwnV w' B v' (xs ++ [.slice ao n c]) → w.grownBy w' v.ownBlock → wpList Tryz.prog ops Q rest (a.put o.dst v') w') : wpList Tryz.prog ops Q (o :: rest) a w := by
  obtain ⟨i0, hi, hz0, hz1, hz2⟩ := info_parts infoSl
  refine wpList_append_own w hgd s x 67 ho B 22 i0 (.slice none 0 0) 1 24 Tryz.underlying67 hi hz0 hz1 hz2 rfl (by decide) v xs.length xs hs hown ⟨g, 0, none⟩ 1 1 [.slice ao n c] hx rfl
    (fun j u hu => by
      have hj : j = 0 := by
        have := (List.getElem?_eq_some_iff.1 hu).1
        simpa using this
      subst hj
      simp at hu
      subst hu
      simpa [Addr.add] using hcell) (fun u hu => by simp at hu; subst hu; rfl) (by unfold maxLen; omega) (by omega) hbase ?_
  intro v' w' h1 h2 _
  refine h v' w' ?_ h2
  unfold OwnV
  simpa using h1
end Go.Proofs.YtobfkcepjnjfpaaGreatDoor

/- The document's Shared and Size (layer 7). -/

namespace Go.Proofs.YtobfkcepjnjfpaaGreatDoor
open Go.RowKit

set_option maxRecDepth 100000 in
theorem cmN_shn_acc (a : List Int) : ∀ (r : List Cl) (acc : Nat), acc ≤ a.length → (r.map (·.key)).foldl (fun n x => min n (lcp x a)) acc = min acc (shn a r)
  | [], acc, h => by simp only [List.map_nil, List.foldl_nil, shn]; omega
  | d :: r, acc, h => by
    simp only [List.map_cons, List.foldl_cons, shn]
    rw [cmN_shn_acc a r _ (by omega), lcp_comm d.key a]
    omega
set_option maxRecDepth 100000 in
theorem cmN_shn (c : Cl) (r : List Cl) : cmN (c.key :: r.map (·.key)) = shn c.key r := by
  rw [cmN_min, cmN_shn_acc c.key r _ (Nat.le_refl _)]
  have := shn_le c.key r
  omega
/-- Values that are keys. -/
structure KeyV (w : World) (xs : List Value) (ds : List Cl) : Prop where
  len : xs.length = ds.length
  at_ : ∀ (t : Nat) (d : Cl), ds[t]? = some d → ∃ (ka : Option Addr) (kc : Nat), xs[t]? = some (Value.slice ka d.key.length kc) ∧ Sl w ka d.key.length kc d.key
set_option maxRecDepth 100000 in
theorem KeyV.snoc {w : World} {xs : List Value} {ds : List Cl} {d : Cl} {ka : Option Addr} {kc : Nat} (h : KeyV w xs ds) (hs : Sl w ka d.key.length kc d.key) : KeyV w (xs ++ [.slice ka d.key.length kc]) (ds ++ [d]) := by
  refine ⟨by simp [h.len], fun t e ht => ?_⟩
  by_cases hlt : t < ds.length
  · rw [List.getElem?_append_left hlt] at ht
    obtain ⟨ka', kc', h1, h2⟩ := h.at_ t e ht
    exact ⟨ka', kc', by rw [List.getElem?_append_left (by rw [h.len]; exact hlt)]; exact h1, h2⟩
  · have hl := (List.getElem?_eq_some_iff.1 ht).1
    simp only [List.length_append, List.length_cons, List.length_nil] at hl
    obtain rfl : t = ds.length := by omega
    rw [List.getElem?_append_right (Nat.le_refl _), Nat.sub_self] at ht
    simp at ht
    subst ht
    exact ⟨ka, kc, by rw [List.getElem?_append_right (by rw [h.len]; exact Nat.le_refl _), h.len, Nat.sub_self]; rfl, hs⟩
set_option maxRecDepth 100000 in
theorem ktl_take {k : Int} {cs : List Cl} {j : Nat} {c : Cl} (h : cs[j]? = some c) (hc : ¬ (k = 3 ∧ (j : Int) = 0)) : ktl k (cs.take (j + 1)) = ktl k (cs.take j) ++ [c] := by
  have e : cs.take (j + 1) = cs.take j ++ [c] := by rw [List.take_add_one, h]; rfl
  unfold ktl
  split
  · next h3 =>
    have hj : 0 < j := by omega
    have hl := (List.getElem?_eq_some_iff.1 h).1
    rw [e, List.tail_append_of_ne_nil]
    intro e2
    have := congrArg List.length e2
    rw [List.length_take, List.length_nil] at this
    omega
  · exact e
set_option maxRecDepth 100000 in
theorem ktl_zero {k : Int} {cs : List Cl} {j : Nat} (hc : k = 3 ∧ (j : Int) = 0) : ktl k (cs.take (j + 1)) = ktl k (cs.take j) := by
  obtain ⟨rfl, hj⟩ := hc
  obtain rfl : j = 0 := by omega
  unfold ktl
  rw [if_pos rfl, if_pos rfl]
  cases cs <;> simp
set_option maxRecDepth 100000 in
theorem keys_sls {w w' : World} {B : Nat} {v : Value} {xs : List Value} {ds : List Cl} (h : OwnV w' B v xs) (k : KeyV w xs ds) (hb : Below w.heap.size w w') (hn : ds.length ≤ 1000000) :
    ∃ a c, v = .slice a ds.length c ∧ SlS w' a ds.length c (ds.map (·.key)) := by
  have hl := k.len
  rcases h.2 with ⟨rfl, h0⟩ | ⟨g, cap, cur, rfl, hg, hh, hnc, hm, hs, ht'⟩
  · have : ds.length = 0 := by omega
    rw [this]
    exact ⟨none, 0, rfl, ⟨by simpa using this, Nat.le_refl _, by omega, fun _ => rfl, .inl rfl⟩⟩
  · have h2 : w'.ownsRow B 22 1 (.slice (some ⟨g, 0, none⟩) ds.length cap) ds.length xs := by
      have h3 := h
      unfold OwnV at h3
      rw [hl] at h3
      exact h3
    rw [hl] at hnc ⊢
    clear h
    have h := h2
    refine ⟨some ⟨g, 0, none⟩, cap, rfl, ⟨by simp, hnc, by omega, (by intro h; cases h), .inr ⟨g, 0, rfl, (World.ownsRow.lt h g rfl).2, fun i hi => ?_⟩⟩⟩
    have hc := World.ownsRow.cellAt h i (by omega)
    obtain ⟨ka, kc, e1, e2⟩ := k.at_ i ds[i] (List.getElem?_eq_getElem hi)
    rw [e1] at hc
    refine ⟨_, _, _, by rw [Nat.zero_add]; exact hc, ?_⟩
    have e3 : (ds.map (·.key)).getD i [] = ds[i].key := by simp [List.getD, hi]
    rw [e3]
    exact e2.on (Nat.le_refl _) hb
set_option maxRecDepth 100000 in
set_option maxHeartbeats 2000000 in
theorem rshared_any (k : Int) (ao : Option Addr) (n cap : Nat) (cs : List Cl) (w : World) (hs : SlC w ao n cap cs) (hn : n ≤ 900000) :
    Calls Tryz.prog 56 #[.int .i64 k, .slice ao n cap] w fun e w' => ∃ v, e = .returned v ∧ Hid (OwnB w' w.heap.size v (shP k cs)) ∧ Hid (Below w.heap.size w w') := by
  have HS := hidden hs
  have HLEN := hidden hs.hlen
  obtain ⟨P, hP⟩ : ∃ P, shP k cs = P := ⟨_, rfl⟩
  rw [hP]
  have HP : Hid (shr (ktl k cs) = P) := hidden hP
  clear hs hP
  go_enter Tryz.func56, Tryz.ntmps56
  go_wp2_with fail
  go_loopw [5, 6] (fun v i wr => ∃ (j : Nat) (xs : List Value), j ≤ n ∧ i = .int .i64 j ∧ Hid (OwnV wr w.heap.size v xs) ∧ Hid (KeyV w xs (ktl k (cs.take j))) ∧ Hid (Below w.heap.size w wr)) (fun _ i _ => n - (intOf i).toNat)
  case atStart => exact ⟨0, [], by omega, rfl, hidden (OwnV.nil _ _), hidden ⟨by unfold ktl; split <;> rfl, fun t d h => by unfold ktl at h; split at h <;> simp at h⟩, hidden (Below.refl _ _)⟩
  case round =>
    obtain ⟨j, xs, hj, rfl, HO, HK, HB⟩ := hrel
    have bj : (j : Int) ≤ 900000 := by omega
    by_cases hlt : j < n
    · have hltI : (j : Int) < (n : Int) := by omega
      obtain ⟨b, off, c, ka, kc, va, vc, rfl, hb, hci, c0, c1, c2, c3, c4, hk, hv⟩ := HS.out.item j hlt
      by_cases hc : k = 3 ∧ (j : Int) = 0
      · have HK2 : Hid (KeyV w xs (ktl k (cs.take (j + 1)))) := hidden (by rw [ktl_zero hc]; exact HK.out)
        obtain ⟨rfl, hj0⟩ := hc
        obtain rfl : j = 0 := by omega
        clear hk hv c0 c1 c2 c3 c4 HK hci
        go_wp2
        go_roundw
        case rel => exact ⟨1, xs, by omega, by go_num, HO, HK2, HB⟩
        case measure => simp [intOf]; omega
      · have hxl : xs.length ≤ 1000000 := by
          rw [HK.out.len]
          unfold ktl
          split <;> simp <;> omega
        have HXL := hidden hxl
        have HK2 : Hid (KeyV w (xs ++ [.slice ka c.key.length kc]) (ktl k (cs.take (j + 1)))) := hidden (by rw [ktl_take hci hc]; exact HK.out.snoc hk)
        have d0 := (HB.out.cell (p := ⟨b, off + j * 5, none⟩) hb).trans c0
        obtain ⟨K, hK⟩ : ∃ K, c.key.length = K := ⟨_, rfl⟩
        rw [hK] at d0 HK2
        have hsz := HB.out.size
        clear hk hv c0 c1 c2 c3 c4 HK hci hK hxl
        have HC1 : Hid ((wr.alloc (.cells #[.slice ka K kc] 22)).cell? ⟨wr.heap.size, 0, none⟩ = some (.slice ka K kc)) := hidden (by simp)
        by_cases h3 : k = 3
        · subst h3
          have hj0 : ¬ (j : Int) = 0 := fun e => hc ⟨rfl, e⟩
          have hj1 : (0 : Int) < (j : Int) := by omega
          clear hc
          go_wp2_with (at_builtin; refine app_val _ rfl _ _ rfl w.heap.size xs _ rfl (HO.out.on (Nat.le_refl _) (bl_al (Below.refl _ _) (Nat.le_refl _) _)) wr.heap.size K kc rfl ka HC1.out HXL.out (by simp; omega) ?_; refine Hid.out ?_)
          apply hidden
          intro v2 w2 ho2 g2
          have HO2 := hidden ho2
          have HB2 : Hid (Below w.heap.size w w2) := hidden ((bl_al HB.out (Nat.le_refl _) _).trans (own_below (HO.out.on (Nat.le_refl _) (bl_al (Below.refl _ _) (Nat.le_refl _) _)) (by simp; omega) g2))
          clear ho2 g2 HO HB d0 HC1
          go_wp2
          go_roundw
          case rel => exact ⟨j + 1, _, by omega, by go_num, HO2, HK2, HB2⟩
          case measure => simp [intOf]; omega
        · have hkb : (k != 3) = true := by simpa using h3
          clear hc h3
          go_wp2_with (at_builtin; refine app_val _ rfl _ _ rfl w.heap.size xs _ rfl (HO.out.on (Nat.le_refl _) (bl_al (Below.refl _ _) (Nat.le_refl _) _)) wr.heap.size K kc rfl ka HC1.out HXL.out (by simp; omega) ?_; refine Hid.out ?_)
          apply hidden
          intro v2 w2 ho2 g2
          have HO2 := hidden ho2
          have HB2 : Hid (Below w.heap.size w w2) := hidden ((bl_al HB.out (Nat.le_refl _) _).trans (own_below (HO.out.on (Nat.le_refl _) (bl_al (Below.refl _ _) (Nat.le_refl _) _)) (by simp; omega) g2))
          clear ho2 g2 HO HB d0 HC1
          go_wp2
          go_roundw
          case rel => exact ⟨j + 1, _, by omega, by go_num, HO2, HK2, HB2⟩
          case measure => simp [intOf]; omega
    · have e : cs.take j = cs := List.take_of_length_le (by rw [HLEN.out]; omega)
      rw [e] at HK
      have hdl : (ktl k cs).length ≤ 900000 := by
        have := HLEN.out
        unfold ktl
        split <;> simp <;> omega
      obtain ⟨a, c, rfl, hsls⟩ := keys_sls HO.out HK.out HB.out (by omega)
      have HSL := hidden hsls
      cases hk : ktl k cs with
      | nil =>
        rw [hk] at HSL HP
        obtain rfl : [] = P := HP.out
        have HC := hidden (refCommon_nil a c wr)
        simp only [List.length_nil]
        clear hsls HO HK hk hdl e HSL
        go_wp2_with (first | (go_at_call 90; refine quiet_call' HC.out ?_; intro q; refine Hid.out ?_))
        apply hidden
        have HB2 := hidden (bl_dr HB.out q)
        clear HC HB
        go_wp2
        go_ret
        exact ⟨_, rfl, hidden (OwnB.nil _ _), HB2⟩
      | cons d r =>
        rw [hk] at HSL HK
        have hsl2 := HSL.out
        simp only [List.map_cons, List.length_cons] at hsl2
        have HC := hidden (refCommon_any a (r.length + 1) c d.key (r.map (·.key)) wr hsl2)
        rw [cmN_shn] at HC
        have hshl := shn_le d.key r
        have HR : Hid (P = d.key.take (shn d.key r)) := hidden (by rw [← HP.out, hk]; rfl)
        obtain ⟨m, hm⟩ : ∃ m, shn d.key r = m := ⟨_, rfl⟩
        rw [hm] at HC hshl HR
        rcases hsl2.hat with h | ⟨b, off, rfl, hbb, hcs⟩
        · omega
        obtain ⟨a0, m0, c0, hc0, hs0⟩ := hcs 0 (by omega)
        simp only [Nat.add_zero, List.getD_cons_zero] at hc0 hs0
        have hm0 := hs0.hlen
        have hcp := hs0.hcap
        have hrm := hs0.hroom
        have HS0 := hidden hs0
        obtain ⟨N, hN⟩ : ∃ N, r.length + 1 = N := ⟨_, rfl⟩
        have hN0 : 0 < N := by omega
        have hN0I : (0 : Int) < (N : Int) := by omega
        simp only [List.length_cons]
        rw [hN] at HC ⊢
        have hNb : (N : Int) ≤ 900000 := by rw [hk] at hdl; simp at hdl; omega
        clear hsls HO HK hk hdl e HSL hsl2 hcs hs0 hN hm HP
        go_wp2_with (first | (go_at_call 90; refine quiet_call' HC.out ?_; intro q; refine Hid.out ?_))
        apply hidden
        have HB2 := hidden (bl_dr HB.out q)
        have hc1 : (wr.drewN q).cell? ⟨b, off, none⟩ = some (.slice a0 m0 c0) := hc0
        have HS1 := hidden (HS0.out.drewN q)
        obtain ⟨wq, hwq⟩ : ∃ wq, wr.drewN q = wq := ⟨_, rfl⟩
        rw [hwq] at HB2 hc1 HS1 ⊢
        clear HC hc0 HS0 hwq HB
        by_cases hm0' : m = 0
        · subst hm0'
          go_wp2
          go_ret
          rw [HR.out, List.take_zero]
          exact ⟨_, rfl, hidden (OwnB.nil _ _), HB2⟩
        · have hmb : ((m : Int) == 0) = false := by simpa using hm0'
          rcases HS1.out.hat with h | ⟨b1, o1, rfl, hbb1, _⟩
          · omega
          have HS2 : Hid (Sl wq (some ⟨b1, o1, none⟩) m c0 (d.key.take m)) := hidden (by
            have := HS1.out.piece 0 m c0 (by omega) (by omega)
            simpa using this)
          have hmc : m ≤ c0 := by omega
          have hmcI : (m : Int) ≤ (c0 : Int) := by omega
          have hmI : (m : Int) ≤ 140737488355328 := by omega
          have HA := hidden (radd_to (.slice none 0 0) w.heap.size [] (d.key.take m) (some ⟨b1, o1, none⟩) m c0 wq (OwnB.nil _ _) HS2.out (.inr (fun p hp e => by cases e)) (by simp; omega) HB2.out.size)
          clear HS1 HS2
          go_wp2_with (first | (go_at_call 52; refine HA.out.mono ?_; rintro e w3 ⟨v3, rfl, HO3, hb3⟩; refine Hid.out ?_))
          apply hidden
          have HB3 := hidden (HB2.out.trans hb3.out)
          rw [List.nil_append, ← HR.out] at HO3
          clear HA hb3 HB2 hc1
          go_wp2
          go_ret
          exact ⟨v3, rfl, HO3, HB3⟩
set_option maxRecDepth 100000 in
set_option maxHeartbeats 1000000 in
theorem rsize_any (k : Int) (ao : Option Addr) (n cap : Nat) (cs : List Cl) (w : World) (hs : SlC w ao n cap cs) (hn : n ≤ 900000) (hkv : ∀ c ∈ cs, c.key.length + c.val.length ≤ 35184372088832) (hz : szQ k (shP k cs).length cs ≤ 1099511627776) :
    Calls Tryz.prog 55 #[.int .i64 k, .slice ao n cap] w fun e w' => e = .returned (.int .i64 (szQ k (shP k cs).length cs : Int)) ∧ Hid (Below w.heap.size w w') := by
  have HA := hidden (rshared_any k ao n cap cs w hs hn)
  have HT := hidden (fun u (hu : Below w.heap.size w u) => rtaken_any k ao n cap (shP k cs).length cs u (hs.on hu) (fun j c hc hne => beg_len (shP_beg k cs c (mem_ktl hc (by omega)))) hkv hz)
  obtain ⟨P, hP⟩ : ∃ P, shP k cs = P := ⟨_, rfl⟩
  rw [hP] at HA HT hz ⊢
  have hzb : (P.length : Int) ≤ 1099511627776 := by unfold szQ at hz; omega
  clear hs hP hkv hz
  go_enter Tryz.func55, Tryz.ntmps55
  go_wp2_with (first | (go_at_call 56; refine HA.out.mono ?_; rintro e w1 ⟨v1, rfl, HO1, HB1⟩; refine Hid.out ?_))
  apply hidden
  obtain ⟨a1, c1, rfl⟩ := own_slice HO1.out
  clear HA HO1
  have HT1 := hidden (HT.out w1 HB1.out)
  clear HT
  go_wp2_with (first | (go_at_call 89; refine HT1.out.mono ?_; rintro e w2 ⟨rfl, HB2⟩; refine Hid.out ?_))
  apply hidden
  have HB := hidden (bl_go HB1.out (Nat.le_refl _) HB2.out)
  clear HT1
  go_wp2
  go_ret
  exact ⟨rfl, HB⟩
end Go.Proofs.YtobfkcepjnjfpaaGreatDoor
