import Derived.Test.YtofafbmpbkjhnaaGreatDoorJ14
import Derived.Deep.MidRow
import Derived.Deep.Upon
import Derived.Laws.IdiomCopy
namespace Go.Proofs.YtofafbmpbkjhnaaGreatDoor
set_option maxRecDepth 100000
set_option maxHeartbeats 2000000
open Go.RowKit
def CAt (w : World) (b off : Nat) (c : Cl) : Prop :=
 ∃ ka kc va vc, w.cell? ⟨b, off, none⟩ = some (.slice ka c.key.length kc) ∧ w.cell? ⟨b, off + 1, none⟩ = some (.int .i64 c.kd) ∧ w.cell? ⟨b, off + 2, none⟩ = some (.slice va c.val.length vc) ∧ w.cell? ⟨b, off + 3, none⟩ = some (.int .i64 c.pg) ∧ w.cell? ⟨b, off + 4, none⟩ = some (.int .i64 c.ct) ∧ Sl w ka c.key.length kc c.key ∧ Sl w va c.val.length vc c.val
structure SlC (w : World) (ao : Option Addr) (n cap : Nat) (cs : List Cl) : Prop where
 hlen : cs.length = n
 hcap : n ≤ cap
 hroom : n ≤ 140737488355328
 hnil : ao = none → cap = 0
 hat : n = 0 ∨ ∃ b off, ao = some ⟨b, off, none⟩ ∧ b < w.heap.size ∧ ∀ i c, cs[i]? = some c → CAt w b (off + i * 5) c
theorem CAt.on {w w' : World} {b off : Nat} {c : Cl} (h : CAt w b off c) (hb : b < w.heap.size) (hB : Below w.heap.size w w') : CAt w' b off c := by
 obtain ⟨ka, kc, va, vc, h0, h1, h2, h3, h4, h5, h6⟩ := h
 exact ⟨ka, kc, va, vc, (hB.cell (p := ⟨b, off, none⟩) hb).trans h0, (hB.cell (p := ⟨b, off + 1, none⟩) hb).trans h1, (hB.cell (p := ⟨b, off + 2, none⟩) hb).trans h2, (hB.cell (p := ⟨b, off + 3, none⟩) hb).trans h3, (hB.cell (p := ⟨b, off + 4, none⟩) hb).trans h4, h5.on Lr hB, h6.on Lr hB⟩
theorem SlC.on {w w' : World} {ao : Option Addr} {n cap : Nat} {cs : List Cl} (h : SlC w ao n cap cs) (hB : Below w.heap.size w w') : SlC w' ao n cap cs := by
 refine ⟨h.hlen, h.hcap, h.hroom, h.hnil, ?_⟩
 rcases h.hat with h0 | ⟨b, off, e, hb, hc⟩
 ·exact .inl h0
 ·exact .inr ⟨b, off, e, zO hb hB.size, fun i c hi => (hc i c hi).on hb hB⟩
theorem SlC.wf {w : World} {ao : Option Addr} {n cap : Nat} {cs : List Cl} (h : SlC w ao n cap cs) : ∀ c ∈ cs, c.Wf := by
 intro c hc
 obtain ⟨i, hi, e⟩ := List.getElem_of_mem hc
 rcases h.hat with h0 | ⟨b, off, _, _, hcs⟩
 ·have := h.hlen; omega
 ·obtain ⟨_, _, _, _, _, _, _, _, _, h5, h6⟩ := hcs i c (by rw [zI hi, e])
  exact ⟨h5.wf, h6.wf⟩
def RowC (w : World) (b N : Nat) : Prop := ∃ cur : Array Value, w.heap[b]? = some (.cells cur 43 (0, 0)) ∧ cur.size = 5 * N
theorem RowC.cell {w : World} {b N : Nat} (h : RowC w b N) (j : Nat) (hj : j < 5 * N) : (w.cell? ⟨b, j, none⟩).isSome = true := by
 obtain ⟨cur, h1, h2⟩ := h
 simp [World.cell?, h1, h2, hj]
theorem RowC.free {w : World} {b N : Nat} (h : RowC w b N) (j : Nat) : w.frozen? ⟨b, j, none⟩ = false := by
 obtain ⟨cur, h1, h2⟩ := h
 simp [World.frozen?, h1]
theorem RowC.lt {w : World} {b N : Nat} (h : RowC w b N) : b < w.heap.size := by
 obtain ⟨cur, h1, _⟩ := h
 exact zah h1
theorem RowC.on {w w' : World} {b N : Nat} (h : RowC w b N) (hb : Below w.heap.size w w') : RowC w' b N := by
 obtain ⟨cur, h1, h2⟩ := h
 exact ⟨cur, zaf h1 hb, h2⟩
theorem RowC.set {w : World} {b N : Nat} (h : RowC w b N) (j : Nat) (v : Value) : RowC (w.setCell ⟨b, j, none⟩ v) b N := by
 obtain ⟨cur, h1, h2⟩ := h
 exact ⟨_, heap_setCell_same w b j cur _ v h1, by simp [h2]⟩
theorem RowC.sets {b N : Nat} : ∀ (vs : List Value) (j : Nat) (w : World), RowC w b N → RowC (w.setCells b j vs) b N
 | [], _, _, h => h
 | v :: r, j, _, h => RowC.sets r (j + 1) _ (h.set j v)
theorem RowC.there {w : World} {b N : Nat} (h : RowC w b N) {j : Nat} (hj : j + 5 ≤ 5 * N) : w.there b j 5 := fun i hi => ⟨h.cell (j + i) (by omega), h.free _⟩
theorem oneCell5 (ka va : Option Addr) (kn kc vn vc : Nat) (kd pg ct : Int) : (#[.slice ka kn kc, .int .i64 kd, .slice va vn vc, .int .i64 pg, .int .i64 ct] : Array Value).all (·.oneCell') = true :=
 all_oneCell_toArray (cs := [.slice ka kn kc, .int .i64 kd, .slice va vn vc, .int .i64 pg, .int .i64 ct]) (by simp [Value.oneCell'])
theorem put_cell {ops : Array Oper} {rest : List Oper} {o : Oper} {a : Act} {w : World} {Q : Exit → Act → World → Prop} (hgd : o.guard = none) (p v : Operand)
  (ho : o.op = .store 43 p v) (b j N : Nat) (ka va : Option Addr) (kn kc vn vc : Nat) (kd pg ct : Int) (hr : RowC w b N) (hp : a.eval p = .pointer (some ⟨b, j, none⟩)) (hv : a.eval v = .agg #[.slice ka kn kc, .int .i64 kd, .slice va vn vc, .int .i64 pg, .int .i64 ct]) (hj : j + 5 ≤ 5 * N)
  (h : ∀ u, Hid (u = w.setCells b j [.slice ka kn kc, .int .i64 kd, .slice va vn vc, .int .i64 pg, .int .i64 ct]) → wpList Tryz.prog ops Q rest (a.put o.dst undef) u) : wpList Tryz.prog ops Q (o :: rest) a w :=
 wpList_store_mid hgd _ p v ho b j #[.slice ka kn kc, .int .i64 kd, .slice va vn vc, .int .i64 pg, .int .i64 ct] hp hv (hr.there hj) zbh (oneCell5 ..) (h _ (zaa rfl))
theorem infoC : (Tryz.prog.info? 43).map (fun i => (i.zero, i.size, i.bytes)) = some (some (.agg #[.slice none 0 0, .int .i64 0, .slice none 0 0, .int .i64 0, .int .i64 0]), 5, 72) := by kernel_rfl
theorem ctk_int (c : Cl) : (if c.kd = 1 then 7 + (c.key.length : Int) + (c.val.length : Int) else 13 + (c.key.length : Int)) = (ctk c : Int) := by
 unfold ctk
 split <;> simp
theorem szN_take (cs : List Cl) (i : Nat) (c : Cl) (h : cs[i]? = some c) : szN (cs.take (i + 1)) = szN (cs.take i) + ctk c := by
 have hi := (zH.1 h).1
 have e := (zH.1 h).2
 unfold szN
 rw [List.take_add_one, h]
 simp
 omega
theorem szN_take_le (cs : List Cl) (i : Nat) : szN (cs.take i) ≤ szN cs := by
 unfold szN
 conv => rhs; rw [← List.take_append_drop i cs]
 rw [List.map_append, List.sum_append]
 omega
theorem SlC.item {w : World} {ao : Option Addr} {n cap : Nat} {cs : List Cl} (h : SlC w ao n cap cs) (i : Nat) (hi : i < n) : ∃ b off c ka kc va vc, ao = some ⟨b, off, none⟩ ∧ b < w.heap.size ∧ cs[i]? = some c ∧
  w.cell? ⟨b, off + i * 5, none⟩ = some (.slice ka c.key.length kc) ∧ w.cell? ⟨b, off + i * 5 + 1, none⟩ = some (.int .i64 c.kd) ∧ w.cell? ⟨b, off + i * 5 + 2, none⟩ = some (.slice va c.val.length vc) ∧ w.cell? ⟨b, off + i * 5 + 3, none⟩ = some (.int .i64 c.pg) ∧ w.cell? ⟨b, off + i * 5 + 4, none⟩ = some (.int .i64 c.ct) ∧ Sl w ka c.key.length kc c.key ∧ Sl w va c.val.length vc c.val := by
 have hl := h.hlen
 rcases h.hat with h0 | ⟨b, off, e, hb, hc⟩
 ·omega
 ·obtain ⟨c, hci⟩ : ∃ c, cs[i]? = some c := ⟨_, zI (by omega)⟩
  obtain ⟨ka, kc, va, vc, h0⟩ := hc i c hci
  exact ⟨b, off, c, ka, kc, va, vc, e, hb, hci, h0⟩
theorem size_any (k : Int) (ao : Option Addr) (n cap : Nat) (cs : List Cl) (w : World) (hs : SlC w ao n cap cs) (hz : szN cs ≤ 1099511627776) :
  Calls Tryz.prog 80 #[.int .i64 k, .slice ao n cap] w fun e w' => e = .returned (.int .i64 (szN cs : Int)) ∧ Below w.heap.size w w' := by
 have HS := zaa hs
 have hn := hs.hroom
 have HLEN := zaa hs.hlen
 have HZ := zaa hz
 clear hs hz
 go_enter Tryz.func80, Tryz.ntmps80
 go_wp2_with fail
 go_loopw [5, 10] (fun v i wr => ∃ j : Nat, j ≤ n ∧ i = .int .i64 j ∧ v = .int .i64 (szN (cs.take j) : Int) ∧ Hid (Below w.heap.size w wr)) (fun _ i _ => n - (intOf i).toNat)
 case atStart => exact ⟨0, by omega, rfl, by simp [szN], zaa Br⟩
 case round =>
  obtain ⟨j, hj, rfl, rfl, HB⟩ := hrel
  have bj : (j : Int) ≤ 140737488355328 := by omega
  by_cases hlt : j < n
  ·have hltI : (j : Int) < (n : Int) := by omega
   obtain ⟨b, off, c, ka, kc, va, vc, rfl, hb, hci, c0, c1, c2, c3, c4, hk, hv⟩ := (HS.out.on HB.out).item j hlt
   have hkr := hk.hroom
   have hvr := hv.hroom
   have HST := zaa (szN_take cs j c hci)
   have hle := szN_take_le cs (j + 1)
   rw [HST.out] at hle
   have hz := HZ.out
   obtain ⟨S, hS⟩ : ∃ S, szN (cs.take j) = S := ⟨_, rfl⟩
   obtain ⟨T, hT⟩ : ∃ T, ctk c = T := ⟨_, rfl⟩
   have HTI := zaa (ctk_int c)
   rw [hS, hT] at hle
   rw [hS, hT] at HST
   rw [hT] at HTI
   rw [hS]
   have b1 : (S : Int) ≤ 1099511627776 := by omega
   have b2 : (T : Int) ≤ 1099511627776 := by omega
   have HPT := zaa (fun u => ptaken_any ka c.key.length kc c.kd va c.val.length vc c.pg c.ct u hkr hvr)
   rw [HTI.out] at HPT
   clear hk hv hci hS hT hle hz HTI
   go_wp2_with (go_at_call 142; refine (HPT.out _).mono ?_; rintro e w2 ⟨rfl, hb2⟩; have HB2 := zaa (zab (zac HB.out Lr _) Lr hb2); clear hb2)
   go_roundw
   case rel => exact ⟨j + 1, by omega, by go_num, by rw [HST.out]; simp, HB2⟩
   case measure => simp [intOf]; omega
  ·obtain rfl : j = n := by omega
   have hlI : ¬ (j : Int) < (j : Int) := by omega
   have HT : Hid (cs.take j = cs) := zaa (List.take_of_length_le (by rw [HLEN.out]; exact Lr))
   go_wp2
   go_ret
   rw [HT.out]
   exact ⟨rfl, HB.out⟩
theorem insB_nil (vo : Option Addr) (vn vc : Nat) (l : List Int) (w : World) (hs : Sl w vo vn vc l) :
  Calls Tryz.prog 212 #[.slice none 0 0, .int .i64 0, .slice vo vn vc] w fun e w' => ∃ v', e = .returned v' ∧ Hid (OwnB w' w.heap.size v' l) ∧ Hid (Below w.heap.size w w') := by
 have hlen := hs.hlen
 have hroom := hs.hroom
 by_cases h0 : vn = 0
 ·subst h0
  obtain rfl : l = [] := List.eq_nil_of_length_eq_zero hlen
  clear hs
  go_enter Tryz.func212, Tryz.ntmps212
  go_wp2
  go_ret
  exact ⟨_, rfl, zaa (OwnB.nil _ _), zaa Br⟩
 ·have h1 : ¬ (vn : Int) = 0 := by omega
  have HS := zaa hs
  clear hs
  go_enter Tryz.func212, Tryz.ntmps212
  go_wp2_with (at_builtin; refine zbi _ rfl _ _ rfl w.heap.size [] l _ vo vn vc rfl rfl (OwnB.nil _ _) HS.out (by simp; omega) Lr ?_; refine Hid.out ?_)
  apply zaa
  intro v1 w1 ho1 g1
  have HO := zaa ho1
  have HB : Hid (Below w.heap.size w w1) := zaa (g1.below (OwnB.nil w w.heap.size) Lr)
  clear ho1 g1
  go_wp2
  go_ret
  exact ⟨v1, rfl, by simpa using HO, HB⟩
theorem repB_nil (vo : Option Addr) (vn vc : Nat) (l : List Int) (w : World) (hs : Sl w vo vn vc l) :
  Calls Tryz.prog 186 #[.slice none 0 0, .int .i64 0, .int .i64 0, .slice vo vn vc] w fun e w' => ∃ v', e = .returned v' ∧ Hid (OwnB w' w.heap.size v' l) ∧ Hid (Below w.heap.size w w') := by
 have HI := zaa (insB_nil vo vn vc l w hs)
 clear hs
 go_enter Tryz.func186, Tryz.ntmps186
 go_wp2_with (go_at_call 212; refine HI.out.mono ?_; rintro e w1 ⟨v1, rfl, HO, HB⟩)
 go_ret
 exact ⟨v1, rfl, HO, HB⟩
theorem OwnN.nil (w : World) (B : Nat) : OwnN w B (.slice none 0 0) [] := World.ownsRow_nil w B 3 1
theorem app_slN {ops : Array Oper} {rest : List Oper} {o : Oper} {a : Act} {Q : Exit → Act → World → Prop} (w : World) (hgd : o.guard = none) (s x : Operand)
  (ho : o.op = .call { callee := .builtin .append, args := #[s, x], argTypes := #[152, 152] }) (B : Nat) (l news : List Nat) (v : Value) (b off n c : Nat) (hs : a.eval s = v) (hx : a.eval x = .slice (some ⟨b, off, none⟩) n c)
  (hown : OwnN w B v l) (hln : news.length = n) (hcs : ∀ i, i < n → w.cell? ⟨b, off + i, none⟩ = some (.int .i64 ((news.getD i 0 : Nat) : Int))) (hb : l.length + n ≤ 1000000) (hbase : B ≤ w.heap.size)
  (h : ∀ v' w', OwnN w' B v' (l ++ news) → Gr w v w' v' → wpList Tryz.prog ops Q rest (a.put o.dst v') w') : wpList Tryz.prog ops Q (o :: rest) a w := by
 obtain ⟨i0, hi, hz0, hz1, hz2⟩ := info_parts infoI
 refine wpList_append_own_at w hgd s x 152 ho B 3 i0 (.int .i64 0) 1 8 Tryz.underlying152 hi hz0 hz1 hz2 rfl (by decide) v l.length (NI l) hs hown ⟨b, off, none⟩ n c (NI news) hx (by simp [NI, hln])
  (fun j u hu => by
   have hj : j < news.length := by have := (zH.1 hu).1; simpa [NI] using this
   have e : u = .int .i64 ((news.getD j 0 : Nat) : Int) := by
    simp [NI, zI hj] at hu
    simp [List.getD, zI hj, ← hu]
   rw [Addr.add_lit, e]
   exact hcs j (by omega)) (NI_one news) (by unfold maxLen; omega) (by omega) hbase ?_
 intro v' w' h1 h2 _ h4
 refine h v' w' ?_ ⟨h2, h4.imp id fun e => ⟨_, e, Lr⟩⟩
 unfold OwnN
 rw [show NI (l ++ news) = NI l ++ NI news from by simp [NI], zG, hln]
 exact h1
theorem insN_nil (vo : Option Addr) (vn vc : Nat) (l : List Nat) (w : World) (hs : SlN w vo vn vc l) (hb : vn ≤ 1000000) :
  Calls Tryz.prog 216 #[.slice none 0 0, .int .i64 0, .slice vo vn vc] w fun e w' => ∃ v', e = .returned v' ∧ Hid (OwnN w' w.heap.size v' l) ∧ Hid (Below w.heap.size w w') := by
 have hlen := hs.hlen
 by_cases h0 : vn = 0
 ·subst h0
  obtain rfl : l = [] := List.eq_nil_of_length_eq_zero hlen
  clear hs
  go_enter Tryz.func216, Tryz.ntmps216
  go_wp2
  go_ret
  exact ⟨_, rfl, zaa (OwnN.nil _ _), zaa Br⟩
 ·have h1 : ¬ (vn : Int) = 0 := by omega
  obtain ⟨b, off, rfl, _, hcs⟩ : ∃ b off, vo = some ⟨b, off, none⟩ ∧ b < w.heap.size ∧ ∀ i, i < vn → w.cell? ⟨b, off + i, none⟩ = some (.int .i64 ((l.getD i 0 : Nat) : Int)) := by
   rcases hs.hat with h | h
   ·omega
   ·exact h
  have HCS := zaa hcs
  have HLN := zaa hlen
  clear hs hcs hlen
  go_enter Tryz.func216, Tryz.ntmps216
  go_wp2_with (at_builtin; refine app_slN _ rfl _ _ rfl w.heap.size [] l _ b off vn vc rfl rfl (OwnN.nil _ _) HLN.out HCS.out (by simp; omega) Lr ?_; refine Hid.out ?_)
  apply zaa
  intro v1 w1 ho1 g1
  have HO := zaa ho1
  have HB : Hid (Below w.heap.size w w1) := zaa ⟨g1.grow.os, g1.grow.tape, g1.grow.output, g1.grow.size, fun k hk => g1.grow.block k hk (by simp [Value.ownBlock])⟩
  clear ho1 g1
  go_wp2
  go_ret
  exact ⟨v1, rfl, by simpa using HO, HB⟩
theorem repN_nil (vo : Option Addr) (vn vc : Nat) (l : List Nat) (w : World) (hs : SlN w vo vn vc l) (hb : vn ≤ 1000000) :
  Calls Tryz.prog 187 #[.slice none 0 0, .int .i64 0, .int .i64 0, .slice vo vn vc] w fun e w' => ∃ v', e = .returned v' ∧ Hid (OwnN w' w.heap.size v' l) ∧ Hid (Below w.heap.size w w') := by
 have HI := zaa (insN_nil vo vn vc l w hs hb)
 clear hs
 go_enter Tryz.func187, Tryz.ntmps187
 go_wp2_with (go_at_call 216; refine HI.out.mono ?_; rintro e w1 ⟨v1, rfl, HO, HB⟩)
 go_ret
 exact ⟨v1, rfl, HO, HB⟩
theorem start_nil (w : World) (a : Nat) (k : Int) (n : Nat) (h : PR w a k n (.slice none 0 0) (.slice none 0 0)) :
  Calls Tryz.prog 184 #[.pointer (some ⟨a, 0, none⟩), .int .i64 0] w fun e w' => e = .returned (.int .i64 0) ∧ w' = w := by
 obtain ⟨c0, c1, c2, c3⟩ := h.cells
 clear h
 go_enter Tryz.func184, Tryz.ntmps184
 go_wp2
 go_ret
 exact ⟨rfl, rfl⟩
theorem Sl.far {w u : World} {ao : Option Addr} {n cap : Nat} {l l' : List Int} {v : Value} (h : Sl w ao n cap l) (ho : OwnB u w.heap.size v l') : Far ao n v := by
 rcases h.hat with h0 | ⟨b, off, rfl, hb, _⟩
 ·exact .inl h0
 ·refine ho.far fun p hp => ?_
  injection hp with hp
  subst hp
  exact hb
theorem Sl.apartPR {w : World} {ao : Option Addr} {n cap : Nat} {l : List Int} (h : Sl w ao n cap l) {a : Nat} {k : Int} {m : Nat} {x y : Option Addr} {b c d e : Nat} (hr : PR w a k m (.slice x b c) (.slice y d e)) : n = 0 ∨ ∀ p, ao = some p → ¬ p.block = a := by
 rcases h.hat with h0 | ⟨q, off, rfl, hg, hc⟩
 ·exact .inl h0
 ·rcases Nat.eq_zero_or_pos n with h0 | h0
  ·exact .inl h0
  ·right
   rintro p hp rfl
   injection hp with hp
   subst hp
   have h1 := hc 0 h0
   unfold PR at hr
   rw [cell_of_row _ _ _ _ _ _ hr] at h1
   rcases Nat.lt_or_ge (off + 0) 4 with h3 | h3
   ·have h4 : off + 0 = 0 ∨ off + 0 = 1 ∨ off + 0 = 2 ∨ off + 0 = 3 := by omega
    rcases h4 with h4 | h4 | h4 | h4 <;> (rw [h4] at h1; simp at h1)
   ·rw [Array.getElem?_eq_none (by simpa using h3)] at h1
    cases h1
theorem own_bn {w : World} {B C : Nat} {v u : Value} {l : List Int} {m : List Nat} (h : OwnB w B v l) (g : OwnN w C u m) : v.ownBlock = none ∨ v.ownBlock ≠ u.ownBlock := by
 unfold OwnB at h
 rcases h.2 with ⟨rfl, _⟩ | ⟨q, cap, cur, rfl, _, hh, _⟩
 ·exact .inl rfl
 ·right
  intro e
  exact g.apart hh (by decide) e.symm
theorem OwnN.be {w w' : World} {B : Nat} {v v' : Value} {l : List Nat} (h : OwnN w B v l) (hg : Gr w v w' v') (hB : B ≤ w.heap.size) : Below B w w' := zcq h hB hg.grow
theorem OwnB.slice {w : World} {B : Nat} {v : Value} {l : List Int} (h : OwnB w B v l) : ∃ ao cap, v = .slice ao l.length cap := by
 unfold OwnB at h
 rcases h.2 with ⟨rfl, h0⟩ | ⟨g, cap, cur, rfl, _⟩
 ·exact ⟨none, 0, by rw [h0]⟩
 ·exact ⟨_, cap, rfl⟩
theorem sln_one (w : World) (x : Nat) : ∀ i, i < 1 → (w.alloc (.cells #[.int .i64 (x : Int)] 3)).cell? ⟨w.heap.size, 0 + i, none⟩ = some (.int .i64 (([x].getD i 0 : Nat) : Int)) := by
 intro i hi
 obtain rfl : i = 0 := by omega
 simp
theorem replace_nil (w : World) (a : Nat) (k : Int) (n : Nat) (co : Option Addr) (cn cc : Nat) (cs : List Cl) (hr : PR w a k n (.slice none 0 0) (.slice none 0 0)) (hs : SlC w co cn cc cs) (hf : ∀ c ∈ cs, c.fit) (hz : szN cs ≤ 65536) :
  Calls Tryz.prog 145 #[.pointer (some ⟨a, 0, none⟩), .int .i64 0, .int .i64 0, .slice co cn cc] w fun e w' => e = .returned (.tuple #[]) ∧ Hid (Cf (· = a) w w') ∧ Hid (∃ bo bn bc so sn sc, PgAt w' a k n bo bn bc so sn sc cs) := by
 have HR := zaa hr
 have HS := zaa hs
 have HFIT := zaa hf
 have hz2 := zaq cs
 have hlen := hs.hlen
 have hcn : cn ≤ 65536 := by omega
 have HBL : Hid ((bdy cs).length ≤ 65536) := zaa (by omega)
 have HST := zaa (start_nil w a k n hr)
 have HLEN := zaa hlen
 obtain ⟨B, hB⟩ : ∃ B, w.heap.size = B := ⟨_, rfl⟩
 have HB := zaa hB
 clear hr hs hf hz hz2 hlen
 go_enter Tryz.func145, Tryz.ntmps145
 go_wp2_with (go_at_call 184; refine zae HST.out ?_)
 clear HST
 go_loopw [10, 11, 24] (fun vb vs i wr => ∃ (j : Nat) (bo : Option Addr) (bn bc : Nat) (so : Option Addr) (sn sc : Nat), j ≤ cn ∧ i = .int .i64 j ∧ vb = .slice bo bn bc ∧ vs = .slice so sn sc ∧ Hid (OwnB wr B (.slice bo bn bc) (bdy (cs.take j))) ∧ Hid (OwnN wr B (.slice so sn sc) (sts 0 (cs.take j))) ∧ Hid (Below B w wr)) (fun _ _ i _ => cn - (intOf i).toNat)
 case atStart => exact ⟨0, none, 0, 0, none, 0, 0, by omega, rfl, rfl, rfl, zaa (by simpa [bdy] using OwnB.nil w B), zaa (by simpa [sts] using OwnN.nil w B), zaa Br⟩
 case round =>
  obtain ⟨j, bo, bn, bc, so, sn, sc, hj, rfl, rfl, rfl, HOB, HON, HBE⟩ := hrel
  have bj : (j : Int) ≤ 65536 := by omega
  by_cases hlt : j < cn
  ·have hltI : (j : Int) < (cn : Int) := by omega
   obtain ⟨b, off, c, ka, kc, va, vc, rfl, hb, hci, c0, c1, c2, c3, c4, hk, hv⟩ := HS.out.item j hlt
   have hbw := HBE.out
   rw [← HB.out] at hbw
   have d0 := (hbw.cell (p := ⟨b, off + j * 5, none⟩) hb).trans c0
   have d1 := (hbw.cell (p := ⟨b, off + j * 5 + 1, none⟩) hb).trans c1
   have d2 := (hbw.cell (p := ⟨b, off + j * 5 + 2, none⟩) hb).trans c2
   have d3 := (hbw.cell (p := ⟨b, off + j * 5 + 3, none⟩) hb).trans c3
   have d4 := (hbw.cell (p := ⟨b, off + j * 5 + 4, none⟩) hb).trans c4
   have HK := zaa hk
   have HV := zaa hv
   have hcf := HFIT.out c (List.mem_of_getElem? hci)
   have HCF := zaa hcf
   have HTK : Hid (bdy (cs.take (j + 1)) = bdy (cs.take j) ++ cB c ∧ sts 0 (cs.take (j + 1)) = sts 0 (cs.take j) ++ [bn]) := by
    have e : cs.take (j + 1) = cs.take j ++ [c] := by rw [List.take_add_one, hci]; rfl
    have hbn : bn = (bdy (cs.take j)).length := by
     obtain ⟨x, y, hxy⟩ := HOB.out.slice
     injection hxy
    refine zaa ⟨by rw [e, zbe]; simp [bdy], ?_⟩
    rw [e, zcs, Nat.zero_add, hbn]
    rfl
   have hbl2 := zbw cs j
   have hbn2 : bn ≤ 65536 := by
    obtain ⟨x, y, hxy⟩ := HOB.out.slice
    injection hxy with _ h2
    have := HBL.out
    omega
   have bbn : (bn : Int) ≤ 65536 := by omega
   have HBNL : Hid ((bdy (cs.take j)).length ≤ 65536) := zaa (zN hbl2 HBL.out)
   have HSTL : Hid ((sts 0 (cs.take j)).length + 1 ≤ 1000000) := zaa (by rw [zai, zJ]; omega)
   obtain ⟨x, hx⟩ : ∃ x, (wr.alloc (.cells #[.slice ka c.key.length kc, .int .i64 c.kd, .slice va c.val.length vc, .int .i64 c.pg, .int .i64 c.ct] 43)).alloc (.cells #[.int .i64 (bn : Int)] 3) = x := ⟨_, rfl⟩
   have hbx : Below wr.heap.size wr x := by rw [← hx]; exact zac (zac Br Lr _) Lr _
   obtain ⟨s, hss⟩ : ∃ s, wr.heap.size = s := ⟨_, rfl⟩
   have HBOX : Hid (C5 x s (.slice ka c.key.length kc) (.int .i64 c.kd) (.slice va c.val.length vc) (.int .i64 c.pg) (.int .i64 c.ct)) := by
    rw [← hx, ← hss]
    exact zaa ((Below.heap_alloc _ _ _ (by simp)).trans (heap_alloc_last wr _))
   have H1 : Hid (∀ i, i < 1 → x.cell? ⟨s + 1, 0 + i, none⟩ = some (.int .i64 (([bn].getD i 0 : Nat) : Int))) := by
    have := sln_one (wr.alloc (.cells #[.slice ka c.key.length kc, .int .i64 c.kd, .slice va c.val.length vc, .int .i64 c.pg, .int .i64 c.ct] 43)) bn
    rw [hx] at this
    rw [← hss]
    exact zaa (by simpa using this)
   have HON1 := zaa (HON.out.below hbx)
   have HOB1 : Hid (OwnB x B (.slice bo bn bc) (bdy (cs.take j))) := zaa (HOB.out.on Lr hbx)
   have hBx : B ≤ x.heap.size := zN (by rw [← HB.out]; exact hbw.size) hbx.size
   have HBX : Hid (Below B w x) := zaa (HBE.out.trans (hbx.mono (by rw [← HB.out]; exact hbw.size)))
   clear hb hci c0 c1 c2 c3 c4 hk hv hcf hbl2 hbx hbw HOB HON HBE
   go_wp2_with (at_builtin; refine app_slN _ rfl _ _ rfl B (sts 0 (cs.take j)) [bn] (.slice so sn sc) (s + 1) 0 1 1 rfl rfl HON1.out rfl H1.out HSTL.out hBx ?_; refine Hid.out ?_)
   apply zaa
   intro v2 w2 ho2 g2
   obtain ⟨so2, sc2, rfl, _⟩ := ho2.sln (by rw [zG]; have := HSTL.out; simp; omega)
   obtain ⟨sn2, hsn2⟩ : ∃ sn2, (sts 0 (cs.take j) ++ [bn]).length = sn2 := ⟨_, rfl⟩
   rw [hsn2] at ho2 g2 ⊢
   have HON2 := zaa ho2
   have HB2 : Hid (Below B w w2) := zaa (HBX.out.trans (HON1.out.be g2 hBx))
   have HOB2 : Hid (OwnB w2 B (.slice bo bn bc) (bdy (cs.take j))) := zaa (World.ownsRow.kept HOB1.out g2.grow (own_bn HOB1.out HON1.out))
   have HBOX2 : Hid (C5 w2 s (.slice ka c.key.length kc) (.int .i64 c.kd) (.slice va c.val.length vc) (.int .i64 c.pg) (.int .i64 c.ct)) := zaa (HBOX.out.gr g2 (HON1.out.apart HBOX.out (by decide)))
   have hB2 : B ≤ w2.heap.size := by have := HB2.out.size; have := HB.out; omega
   have hbw2 : Below w.heap.size w w2 := by rw [HB.out]; exact HB2.out
   have HK2 : Hid (Sl w2 ka c.key.length kc c.key) := zaa (HK.out.on Lr hbw2)
   have HV2 : Hid (Sl w2 va c.val.length vc c.val) := zaa (HV.out.on Lr hbw2)
   have hob : OwnB w2 w.heap.size (.slice bo bn bc) (bdy (cs.take j)) := by rw [HB.out]; exact HOB2.out
   have HT := zaa (appended_any (.slice bo bn bc) B (bdy (cs.take j)) ka c.key.length kc c.kd va c.val.length vc c.pg c.ct c.key c.val w2 HOB2.out hB2 HK2.out HV2.out (HK.out.far hob) (HV.out.far hob) HCF.out.pg HCF.out.ct (by have := HBNL.out; have := HCF.out.key; have := HCF.out.val; omega))
   obtain ⟨c0, c1, c2, c3, c4⟩ := HBOX2.out.cells
   clear ho2 g2 hsn2 hbw2 hob hx hss H1 HON1 HOB1 HBOX d0 d1 d2 d3 d4 hBx HBX
   go_wp2_with (go_at_call 185; refine HT.out.mono ?_; rintro e w3 ⟨v3, rfl, HO3, HG3⟩; refine Hid.out ?_)
   apply zaa
   obtain ⟨bo3, bc3, rfl⟩ := HO3.out.slice
   obtain ⟨bn3, hbn3⟩ : ∃ bn3, (bdy (cs.take j) ++ cB ⟨c.key, c.kd, c.val, c.pg, c.ct⟩).length = bn3 := ⟨_, rfl⟩
   rw [hbn3] at HO3 HG3 ⊢
   have HON3 : Hid (OwnN w3 B (.slice so2 sn2 sc2) (sts 0 (cs.take j) ++ [bn])) := zaa (World.ownsRow.kept HON2.out HG3.out.grow (by
    rcases own_bn HOB2.out HON2.out with h | h
    ·cases hv : (Value.slice so2 sn2 sc2).ownBlock with
     | none => exact .inl rfl
     | some q => right; rw [h]; simp
    ·exact .inr (fun e => h e.symm)))
   have HB3 : Hid (Below B w w3) := zaa (HB2.out.trans (HG3.out.below HOB2.out hB2))
   have HOB3 : Hid (OwnB w3 B (.slice bo3 bn3 bc3) (bdy (cs.take (j + 1)))) := zaa (by rw [HTK.out.1]; exact HO3.out)
   have HON4 : Hid (OwnN w3 B (.slice so2 sn2 sc2) (sts 0 (cs.take (j + 1)))) := zaa (by rw [HTK.out.2]; exact HON3.out)
   clear HT HO3 HG3 hbn3 c0 c1 c2 c3 c4 HBOX2 HK2 HV2 HOB2 HON2 HON3
   go_wp2
   go_roundw
   case rel => exact ⟨j + 1, bo3, bn3, bc3, so2, sn2, sc2, by omega, by go_num, rfl, rfl, HOB3, HON4, HB3⟩
   case measure => simp [intOf]; omega
  ·obtain rfl : j = cn := by omega
   have hlI : ¬ (j : Int) < (j : Int) := by omega
   have htk : cs.take j = cs := List.take_of_length_le (by rw [HLEN.out]; exact Lr)
   rw [htk] at HOB HON
   have hbw : Below w.heap.size w wr := by rw [HB.out]; exact HBE.out
   have HWF : Hid (Wf (bdy cs)) := zaa (bdy_wf HS.out.wf)
   have HSB : Hid (Sl wr bo bn bc (bdy cs)) := by
    obtain ⟨x, y, hxy, hsl, _⟩ := HOB.out.sl HWF.out (by have := HBL.out; omega)
    injection hxy with e1 e2 e3
    subst e1 e2 e3
    exact zaa hsl
   have HSNN : Hid (SlN wr so sn sc (sts 0 cs)) := by
    obtain ⟨x, y, hxy, hsl⟩ := HON.out.sln (by rw [zai, HLEN.out]; omega)
    injection hxy with e1 e2 e3
    subst e1 e2 e3
    exact zaa hsl
   have hsn : sn ≤ 1000000 := by have := HSNN.out.hlen; rw [zai, HLEN.out] at this; omega
   have HRW : Hid (PR wr a k n (.slice none 0 0) (.slice none 0 0)) := zaa (zaf HR.out hbw)
   obtain ⟨c0, c1, c2, c3⟩ := HRW.out.cells
   have HRB := zaa (repB_nil bo bn bc (bdy cs) wr HSB.out)
   clear htk
   go_wp2_with (go_at_call 186; refine HRB.out.mono ?_; rintro e w2 ⟨v2, rfl, HO2, HB2⟩; refine Hid.out ?_)
   apply zaa
   obtain ⟨bo2, bc2, rfl⟩ := HO2.out.slice
   obtain ⟨bn2, hbn2⟩ : ∃ bn2, (bdy cs).length = bn2 := ⟨_, rfl⟩
   rw [hbn2] at HO2 ⊢
   have HRW2 : Hid (PR w2 a k n (.slice none 0 0) (.slice none 0 0)) := zaa (zaf HRW.out HB2.out)
   clear c0 c1 c2 c3 HRB
   obtain ⟨c0, c1, c2, c3⟩ := HRW2.out.cells
   have f2 := HRW2.out.free 2
   have HRW3 : Hid (PR (w2.setCell ⟨a, 2, none⟩ (.slice bo2 bn2 bc2)) a k n (.slice bo2 bn2 bc2) (.slice none 0 0)) := zaa (HRW2.out.set2 _)
   have HO3 : Hid (OwnB (w2.setCell ⟨a, 2, none⟩ (.slice bo2 bn2 bc2)) wr.heap.size (.slice bo2 bn2 bc2) (bdy cs)) := by
    refine zaa (World.ownsRow.kept (row := some a) HO2.out ⟨rfl, rfl, rfl, by simp [World.setCell], fun i _ hi => Below.heap_setCell _ _ _ _ (fun e => hi (by rw [e]))⟩ (.inr ?_))
    intro e
    have h1 := (HO2.out.lt a e).1
    have h2 := zah HRW.out
    omega
   have HSN3 : Hid (SlN (w2.setCell ⟨a, 2, none⟩ (.slice bo2 bn2 bc2)) so sn sc (sts 0 cs)) := by
    have o1 := HON.out.below HB2.out
    have hrow := HRW2.out
    unfold PR at hrow
    have o2 := o1.cf (Cf.set w2 a 2 (.slice bo2 bn2 bc2)) (o1.apart hrow (by decide))
    obtain ⟨x, y, hxy, hsl⟩ := o2.sln (by rw [zai, HLEN.out]; omega)
    injection hxy with e1 e2 e3
    subst e1 e2 e3
    exact zaa hsl
   have HCF3 : Hid (Cf (· = a) w (w2.setCell ⟨a, 2, none⟩ (.slice bo2 bn2 bc2))) := zaa (((Cf.of_below hbw).go (Cf.of_below HB2.out)).go (Cf.set _ _ _ _))
   obtain ⟨u3, hu3⟩ : ∃ u3, w2.setCell ⟨a, 2, none⟩ (.slice bo2 bn2 bc2) = u3 := ⟨_, rfl⟩
   rw [hu3] at HRW3 HO3 HSN3 HCF3
   obtain ⟨d0, d1, d2, d3⟩ := HRW3.out.cells
   have HRN := zaa (repN_nil so sn sc (sts 0 cs) u3 HSN3.out hsn)
   clear hbw
   go_wp2_with (go_at_call 187; refine HRN.out.mono ?_; rintro e w4 ⟨v4, rfl, HO4, HB4⟩; refine Hid.out ?_)
   apply zaa
   clear c0 c1 c2 c3 f2 d0 d1 d2 d3 HRN hu3
   obtain ⟨so4, sc4, rfl, _⟩ := HO4.out.sln (by rw [zai, HLEN.out]; omega)
   obtain ⟨sn4, hsn4⟩ : ∃ sn4, (sts 0 cs).length = sn4 := ⟨_, rfl⟩
   rw [hsn4] at HO4 ⊢
   have hsn5 : sn4 = j := by rw [← hsn4, zai, HLEN.out]
   have HRW4 : Hid (PR w4 a k n (.slice bo2 bn2 bc2) (.slice none 0 0)) := zaa (zaf HRW3.out HB4.out)
   obtain ⟨c0, c1, c2, c3⟩ := HRW4.out.cells
   have f3 := HRW4.out.free 3
   have HRW5 : Hid (PR (w4.setCell ⟨a, 3, none⟩ (.slice so4 sn4 sc4)) a k n (.slice bo2 bn2 bc2) (.slice so4 sn4 sc4)) := zaa (HRW4.out.set3 _)
   have HFIN : Hid (Cf (· = a) w (w4.setCell ⟨a, 3, none⟩ (.slice so4 sn4 sc4)) ∧ ∃ bo bn bc so sn sc, PgAt (w4.setCell ⟨a, 3, none⟩ (.slice so4 sn4 sc4)) a k n bo bn bc so sn sc cs) := by
    have hrow := HRW4.out
    unfold PR at hrow
    have hc := Cf.set w4 a 3 (.slice so4 sn4 sc4)
    have o1 := HO4.out.cf hc (HO4.out.apart hrow (by decide))
    obtain ⟨x, y, hxy, hsl⟩ := o1.sln (by rw [zai, HLEN.out]; omega)
    injection hxy with e1 e2 e3
    subst e1 e2 e3
    have hb4 : OwnB w4 wr.heap.size (.slice bo2 bn2 bc2) (bdy cs) := HO3.out.on Lr HB4.out
    obtain ⟨x', y', hxy', hsl', _⟩ := hb4.sl HWF.out (by have := HBL.out; omega)
    injection hxy' with e1 e2 e3
    subst e1 e2 e3
    exact zaa ⟨(HCF3.out.go (Cf.of_below HB4.out)).go hc, _, _, _, _, _, _, HRW5.out, hsl'.cf hc (hsl'.apartPR HRW4.out), hsl⟩
   obtain ⟨c5, c6, c7, c8⟩ := HRW5.out.cells
   have bs4 : (sn4 : Int) ≤ 65536 := by omega
   have bb2 : (bn : Int) ≤ 140737488355328 := by have := HSB.out.hroom; omega
   obtain ⟨u5, hu5⟩ : ∃ u5, w4.setCell ⟨a, 3, none⟩ (.slice so4 sn4 sc4) = u5 := ⟨_, rfl⟩
   rw [hu5] at HRW5 HFIN c5 c6 c7 c8
   subst hsn5
   clear hsn4
   go_wp2_with fail
   go_loopw [15] (fun v wx => v = .int .i64 (sn4 : Int) ∧ wx = u5) (fun _ _ => 0)
   case atStart => exact ⟨rfl, by first | rfl | exact hu5⟩
   case round =>
    obtain ⟨rfl, rfl⟩ := hrel
    go_wp2
    go_returns
    exact ⟨rfl, zaa HFIN.out.1, zaa HFIN.out.2⟩
def encE (k n : Int) (cs : List Cl) : Int := if isKd k ∧ pw n then (if chk k n none cs = 0 then (if n < szN cs then 61 else 0) else chk k n none cs) else 1
def EncTo (k n : Int) (cs : List Cl) (w : World) (e : Ending) (w' : World) : Prop :=
 ∃ ao m cap c, e = .returned (.tuple #[.slice ao m cap, .int .i64 c]) ∧ Hid (Below w.heap.size w w') ∧ Hid (c = encE k n cs ∧ ((c ≠ 0 ∧ ao = none ∧ m = 0 ∧ cap = 0) ∨ (c = 0 ∧ ∃ g, ao = some ⟨g, 0, none⟩ ∧ m = n.toNat ∧ cap = n.toNat ∧ w.heap.size ≤ g ∧ Bk w' g (pgB k n.toNat cs))))
theorem EncTo.no {k n : Int} {cs : List Cl} {w w' : World} {c : Int} (hb : Below w.heap.size w w') (hc : c = encE k n cs) (h0 : c ≠ 0) : EncTo k n cs w (.returned (.tuple #[.slice none 0 0, .int .i64 c])) w' := ⟨none, 0, 0, c, rfl, zaa hb, zaa ⟨hc, .inl ⟨h0, rfl, rfl, rfl⟩⟩⟩
theorem chk_step (k n : Int) (cs : List Cl) (j : Nat) (c : Cl) (h : cs[j]? = some c) : chk k n (prv (cs.take j)) (cs.drop j) = if mayP k n c then (if zat (prv (cs.take j)) c.key then chk k n (prv (cs.take (j + 1))) (cs.drop (j + 1)) else 63) else 62 := by
 obtain ⟨hj, e⟩ := zH.1 h
 rw [List.drop_eq_getElem_cons hj, e, chk]
 have : prv (cs.take (j + 1)) = some c.key := by
  rw [List.take_add_one, h]
  simp [prv]
 rw [this]
theorem encode_plain (k n : Int) (co : Option Addr) (cn cc : Nat) (cs : List Cl) (w : World) (hs : SlC w co cn cc cs) (hz : szN cs ≤ 1099511627776) (ht : Tab w) (h0 : 1 < w.heap.size) :
  Calls Tryz.prog 81 #[.int .i64 k, .slice co cn cc, .int .i64 n] w fun e w' => EncTo k n cs w e w' := by
 have HS := zaa hs
 have HZ := zaa hz
 have HT := zaa ht
 have HLEN := zaa hs.hlen
 have hcn : cn ≤ 1099511627776 := by have := hs.hlen; have := zaq cs; omega
 have HN := zaa (new_any k n w)
 clear hs hz ht
 go_enter Tryz.func81, Tryz.ntmps81
 go_wp2_with (go_at_call 85; refine HN.out.mono ?_; rintro e w1 ⟨po, ec, rfl, HB1, HQ⟩; refine Hid.out ?_)
 apply zaa
 clear HN
 rcases HQ.out with ⟨rfl, rfl, hno⟩ | ⟨rfl, rfl, hk, hn, hrow⟩
 ·have HE : Hid ((1 : Int) = encE k n cs) := zaa (by unfold encE; rw [if_neg hno])
  clear HQ hno
  go_wp2
  go_ret2
  exact EncTo.no HB1.out HE.out (by omega)
 ·have hpn := pw_le hn
  obtain ⟨N, rfl⟩ := Int.eq_ofNat_of_zero_le (show 0 ≤ n by omega)
  obtain ⟨a, ha⟩ : ∃ a, w.heap.size = a := ⟨_, rfl⟩
  rw [ha] at hrow ⊢
  have HA := zaa ha
  have HROW : Hid (PR w1 a k N (.slice none 0 0) (.slice none 0 0)) := zaa hrow
  have HK := zaa hk
  have HPN := zaa hn
  have HE0 : Hid (encE k N cs = if chk k N none cs = 0 then (if (N : Int) < szN cs then 61 else 0) else chk k N none cs) := zaa (by unfold encE; rw [if_pos ⟨hk, hn⟩])
  have hN1 : (N : Int) ≤ 65536 := hpn.2
  have hN2 : 512 ≤ N := by omega
  clear HQ hk hn hrow ha hpn
  go_wp2_with fail
  go_loopw [23] (fun i wr => ∃ j : Nat, j ≤ cn ∧ i = .int .i64 j ∧ Hid (chk k N none cs = chk k N (prv (cs.take j)) (cs.drop j)) ∧ Hid (Below w1.heap.size w1 wr)) (fun i _ => cn - (intOf i).toNat)
  case atStart => exact ⟨0, by omega, rfl, zaa (by simp [prv]), zaa Br⟩
  case round =>
   obtain ⟨j, hj, rfl, HC, HB⟩ := hrel
   have bj : (j : Int) ≤ 1099511627776 := by omega
   have HBW : Hid (Below w.heap.size w wr) := zaa (zab HB1.out Lr HB.out)
   by_cases hlt : j < cn
   ·have hltI : (j : Int) < (cn : Int) := by omega
    obtain ⟨b, off, c, ka, kc, va, vc, rfl, hb, hci, c0, c1, c2, c3, c4, hkS, hvS⟩ := (HS.out.on HBW.out).item j hlt
    have HCS := zaa (chk_step k N cs j c hci)
    have HCI := zaa hci
    have hkr := hkS.hroom
    have hvr := hvS.hroom
    have HKS := zaa hkS
    have HMB := zaa (fun u => zcu k (N : Int) ka c.key.length kc c.kd va c.val.length vc c.pg c.ct u (by omega) hN1 hkr hvr)
    have HMI := zaa (zch k N c)
    clear hci hkS hvS
    cases hm : decide (mayN k N c.key.length c.kd c.val.length c.pg c.ct) with
    | false =>
     have HE : Hid ((62 : Int) = encE k N cs) := by
      have : ¬ mayP k N c := fun h => by have := HMI.out.2 h; simp at hm; exact hm this
      have e : chk k N none cs = 62 := by rw [HC.out, HCS.out, if_neg this]
      exact zaa (by rw [HE0.out, e]; simp)
     go_wp2_with (go_at_call 143; refine (HMB.out _).mono ?_; rintro e w2 ⟨rfl, hb2⟩; have HB2 := zaa (zab (zac HBW.out Lr _) Lr hb2); clear hb2; rw [hm])
     go_ret2
     exact EncTo.no HB2.out HE.out (by omega)
    | true =>
     have hmp : mayP k N c := HMI.out.1 (by simpa using hm)
     have HMP := zaa hmp
     clear hmp
     go_wp2_with (go_at_call 143; refine (HMB.out _).mono ?_; rintro e w2 ⟨rfl, hb2⟩; have HBOX := zaa (box5 hb2); have HBR := zaa (al5 hb2); have HB2 := zaa (zab (zac HB.out Lr _) Lr hb2); clear hb2; rw [hm]; refine Hid.out ?_)
     apply zaa
     obtain ⟨g8, hg8⟩ : ∃ g8, wr.heap.size = g8 := ⟨_, rfl⟩
     rw [hg8] at HBOX ⊢
     obtain ⟨z0, z1, z2, z3, z4⟩ := HBOX.out
     have HBW2 : Hid (Below w.heap.size w w2) := zaa (zab HB1.out Lr HB2.out)
     clear hg8 HBOX c0 c1 c2 c3 c4 HMB HMI
     by_cases hj0 : j = 0
     ·subst hj0
      have HNX : Hid (chk k N none cs = chk k N (prv (cs.take (0 + 1))) (cs.drop (0 + 1))) := zaa (by rw [HC.out, HCS.out, if_pos HMP.out, if_pos (by simp [prv, zat])])
      go_wp2_with fail
      go_quiet (fail)
      go_wp2
      go_roundw
      case rel => exact ⟨1, by omega, by go_num, HNX, zaa (zad HB2.out _)⟩
      case measure => simp [intOf]; omega
     ·obtain ⟨i, rfl⟩ : ∃ i, j = i + 1 := ⟨j - 1, by omega⟩
      obtain ⟨b', off', c', ka', kc', va', vc', hbo, hb', hci', e0, e1, e2, e3, e4, hk', hv'⟩ := (HS.out.on HBW2.out).item i (by omega)
      injection hbo with hbo
      injection hbo with hb1 hb2
      subst hb1 hb2
      have hprv : prv (cs.take (i + 1)) = some c'.key := by rw [List.take_add_one, hci']; simp [prv]
      have HRI : Hid (∀ q, Calls Tryz.prog 144 #[.slice ka' c'.key.length kc', .slice ka c.key.length kc] (w2.drewN q) fun e w' => e = .returned (.bool (decide (kl c'.key c.key))) ∧ w' = w2.drewN q) :=
       zaa fun q => zci _ _ _ _ _ _ _ _ _ (hk'.drewN q) ((HKS.out.on Lr HBR.out).drewN q)
      have HPR := zaa hprv
      have i1 : (i : Int) < (cn : Int) := by omega
      have i2 : i < cn := by omega
      have i3 : (i : Int) ≤ 1099511627776 := by omega
      clear hk' hv' hprv hci' e1 e2 e3 e4 z1 z2 z3 z4 hj0
      cases hkl : decide (kl c'.key c.key) with
      | true =>
       have HNX : Hid (chk k N none cs = chk k N (prv (cs.take (i + 1 + 1))) (cs.drop (i + 1 + 1))) := zaa (by
        rw [HC.out, HCS.out, if_pos HMP.out, if_pos (by rw [HPR.out]; simpa [zat] using hkl)])
       rw [hkl] at HRI
       go_wp2_with fail
       go_quiet (first | (go_at_call 144; exact Calls.quiet_of_same (HRI.out _)))
       go_wp2
       go_roundw
       case rel => exact ⟨i + 1 + 1, by omega, by go_num, HNX, zaa (zad HB2.out _)⟩
       case measure => simp [intOf]; omega
      | false =>
       have HE : Hid ((63 : Int) = encE k N cs) := by
        have e : chk k N none cs = 63 := by rw [HC.out, HCS.out, if_pos HMP.out, if_neg (by rw [HPR.out]; simpa [zat] using hkl)]
        exact zaa (by rw [HE0.out, e]; simp)
       rw [hkl] at HRI
       go_wp2_with fail
       go_quiet (first | (go_at_call 144; exact Calls.quiet_of_same (HRI.out _)))
       go_wp2
       go_ret2
       exact EncTo.no (zad HBW2.out _) HE.out (by omega)
   ·obtain rfl : j = cn := by omega
    have hlI : ¬ (j : Int) < (j : Int) := by omega
    have HOK : Hid (chk k N none cs = 0) := zaa (by rw [HC.out, List.drop_eq_nil_of_le (by rw [HLEN.out]; exact Lr)]; rfl)
    have HSC := zaa (HS.out.on HBW.out)
    have HSZ := zaa (size_any k co j cc cs wr HSC.out HZ.out)
    have hszb := HZ.out
    obtain ⟨Z, hZ⟩ : ∃ Z, szN cs = Z := ⟨_, rfl⟩
    have HZE := zaa hZ
    rw [hZ] at HSZ hszb
    have bZ : (Z : Int) ≤ 1099511627776 := by omega
    clear hZ
    go_wp2_with (go_at_call 80; refine HSZ.out.mono ?_; rintro e w2 ⟨rfl, hb2⟩; have HB2 := zaa hb2; clear hb2; refine Hid.out ?_)
    apply zaa
    have HBW2 : Hid (Below w.heap.size w w2) := zaa (zab HBW.out Lr HB2.out)
    by_cases hfit : (N : Int) < (Z : Int)
    ·have HE : Hid ((61 : Int) = encE k N cs) := zaa (by rw [HE0.out, if_pos HOK.out, HZE.out, if_pos hfit])
     go_wp2
     go_ret2
     exact EncTo.no HBW2.out HE.out (by omega)
    ·have HE : Hid ((0 : Int) = encE k N cs) := zaa (by rw [HE0.out, if_pos HOK.out, HZE.out, if_neg hfit])
     have HR2 : Hid (PR w2 a k N (.slice none 0 0) (.slice none 0 0)) := zaa (zaf HROW.out (zab HB.out Lr HB2.out))
     have HRP := zaa (replace_nil w2 a k N co j cc cs HR2.out (HSC.out.on HB2.out) (fun c hc => (chk_may HOK.out c hc).fit hN1) (by rw [HZE.out]; omega))
     go_wp2_with (go_at_call 145; refine HRP.out.mono ?_; rintro e w3 ⟨rfl, HC3, HP3⟩; refine Hid.out ?_)
     apply zaa
     have HBW3 : Hid (Below w.heap.size w w3) := zaa (HBW2.out.trans (HC3.out.below HBW2.out.size (by have := HA.out; intro i hi e; omega)))
     obtain ⟨bo, bn, bc, so, sn, sc, hpg⟩ := HP3.out
     have HBY := zaa (bytes_any w3 a k N bo bn bc so sn sc cs hpg HK.out HPN.out (by rw [HZE.out]; omega) (HT.out.on HBW3.out h0) (zO h0 HBW3.out.size) HS.out.wf)
     clear hpg HP3
     go_wp2_with (go_at_call 146; refine HBY.out.mono ?_; rintro e w4 ⟨g, rfl, hg, HBK, HB4⟩)
     go_ret2
     refine ⟨some ⟨g, 0, none⟩, N, N, 0, rfl, zaa (zab HBW3.out Lr HB4.out), zaa ⟨HE.out, .inr ⟨rfl, g, rfl, by simp, by simp, zN HBW3.out.size hg, ?_⟩⟩⟩
     rw [Int.toNat_natCast]
     exact HBK.out
theorem zce : ∀ (a b c : List Int), kl a b → kl b c → kl a c
 | [], [], _, h, _ => by simp [kl, ordL] at h
 | [], _ :: _, [], _, h => by simp [kl, ordL] at h
 | [], _ :: _, _ :: _, _, _ => by simp [kl, ordL]
 | _ :: _, [], _, h, _ => by simp [kl, ordL] at h
 | _ :: _, _ :: _, [], _, h => by simp [kl, ordL] at h
 | x :: a, y :: b, z :: c, h, g => by
  have ih := zce a b c
  unfold kl at *
  simp only [ordL] at h g ⊢
  by_cases h1 : x < y
  ·by_cases g1 : y < z
   ·rw [if_pos (by omega)]
   ·rw [if_neg g1] at g
    by_cases g2 : z < y
    ·rw [if_pos g2] at g; simp at g
    ·rw [if_pos (by omega)]
  ·rw [if_neg h1] at h
   by_cases h2 : y < x
   ·rw [if_pos h2] at h; simp at h
   ·rw [if_neg h2] at h
    by_cases g1 : y < z
    ·rw [if_pos (by omega)]
    ·rw [if_neg g1] at g
     by_cases g2 : z < y
     ·rw [if_pos g2] at g; simp at g
     ·rw [if_neg g2] at g
      rw [if_neg (by omega), if_neg (by omega)]
      exact ih h g
theorem chk_first {k p : Int} : ∀ {q : List Int} {cs : List Cl}, chk k p (some q) cs = 0 → ∀ c ∈ cs, kl q c.key
 | _, [], _, c, hc => by cases hc
 | q, d :: r, h, c, hc => by
  unfold chk at h
  split at h
  ·split at h
   ·next h2 =>
    rcases List.mem_cons.1 hc with e | e
    ·rw [e]; exact h2
    ·exact zce _ _ _ h2 (chk_first h c e)
   ·simp at h
  ·simp at h
theorem chk_rise {k p : Int} : ∀ {pr : Option (List Int)} {cs : List Cl}, chk k p pr cs = 0 → ∀ (i j : Nat) (c d : Cl), i < j → cs[i]? = some c → cs[j]? = some d → kl c.key d.key
 | _, [], _, i, j, c, d, _, hc, _ => by simp at hc
 | pr, e :: r, h, 0, j + 1, c, d, _, hc, hd => by
  unfold chk at h
  split at h
  ·split at h
   ·simp at hc
    subst hc
    exact chk_first h d (List.mem_of_getElem? (by simpa using hd))
   ·simp at h
  ·simp at h
 | pr, e :: r, h, i + 1, j + 1, c, d, hij, hc, hd => by
  unfold chk at h
  split at h
  ·split at h
   ·exact chk_rise h i j c d (by omega) (by simpa using hc) (by simpa using hd)
   ·simp at h
  ·simp at h
 | _, _ :: _, _, i, 0, _, _, hij, _, _ => by omega
theorem key_at (cs : List Cl) (i : Nat) (c : Cl) (h : cs[i]? = some c) (hf : c.fit) : ∃ r, zar ((bdy cs).drop ((bdy (cs.take i)).length + 1)) = some (c.key, r) := by
 obtain ⟨hi, e⟩ := zH.1 h
 have hd : (bdy cs).drop (bdy (cs.take i)).length = cB c ++ bdy (cs.drop (i + 1)) := by
  rw [bdy_drop, List.drop_eq_getElem_cons hi, e, zbu]
 rw [← List.drop_drop, hd, cB]
 simp only [List.cons_append, List.nil_append, List.drop_succ_cons, List.drop_zero, zM]
 exact ⟨_, pText_mid _ _ hf.key⟩
theorem keyAt_any (w : World) (a : Nat) (k : Int) (n : Nat) (bo : Option Addr) (bn bc : Nat) (so : Option Addr) (sn sc : Nat) (cs : List Cl) (h : PgAt w a k n bo bn bc so sn sc cs) (hfit : ∀ c ∈ cs, c.fit) (i : Nat) (c : Cl) (hci : cs[i]? = some c) (hsz : bn ≤ 65536) :
  Calls Tryz.prog 267 #[.pointer (some ⟨a, 0, none⟩), .int .i64 (((sts 0 cs).getD i 0 : Nat) : Int)] w fun e w' => ∃ ko kn kc, e = .returned (.slice ko kn kc) ∧ Hid (Sl w' ko kn kc c.key) ∧ Hid (Below w.heap.size w w') := by
 obtain ⟨hi, hce⟩ := zH.1 hci
 obtain ⟨hsn, hbn⟩ := h.sn_eq
 obtain ⟨c0, c1, c2, c3⟩ := h.cells
 rw [zcd 0 i cs hi, Nat.zero_add]
 obtain ⟨r, hpt⟩ := key_at cs i c hci (hfit c (List.mem_of_getElem? hci))
 have hle : (bdy (cs.take i)).length + 1 ≤ bn := by
  have h1 := congrArg List.length (bdy_drop cs i)
  rw [List.drop_eq_getElem_cons hi, zbu, zK, zG] at h1
  have h2 := cB_length cs[i]
  have h3 : 2 < ctk cs[i] := by unfold ctk; split <;> omega
  omega
 obtain ⟨st, hst⟩ : ∃ st, (bdy (cs.take i)).length = st := ⟨_, rfl⟩
 rw [hst] at hpt hle ⊢
 obtain ⟨gb, off, rfl⟩ : ∃ gb off, bo = some ⟨gb, off, none⟩ := by
  rcases h.body.hat with h0 | ⟨b, off, e, _⟩
  ·omega
  ·exact ⟨b, off, e⟩
 have HSL := zaa h.body
 have HPT := zaa hpt
 have b1 : (st : Int) ≤ 65536 := by omega
 obtain ⟨st1, hst1⟩ : ∃ st1, st + 1 = st1 := ⟨_, rfl⟩
 have hstI : (st : Int) + 1 = (st1 : Int) := by omega
 rw [hst1] at HPT hle
 have HBN := zaa hbn
 clear h hci hi hce hfit hpt hst hsn hbn hst1
 go_enter Tryz.func267, Tryz.ntmps267
 have HTX : Hid (∀ x, x = w.alloc (.cells #[.slice (some ⟨gb, off, none⟩) bn bc, .int .i64 (st1 : Int), .bool false] 186) → Calls Tryz.prog 223 #[.pointer (some ⟨w.heap.size, 0, none⟩)] x fun e w' => ∃ ko kn kc, e = .returned (.slice ko kn kc) ∧ Hid (Sl w' ko kn kc c.key) ∧ Hid (Below w.heap.size w w')) := by
  refine zaa fun x hx => ?_
  have hbx : Below w.heap.size w x := by rw [hx]; exact zac Br Lr _
  have hrd : Rd x w.heap.size (some ⟨gb, off, none⟩) bn bc st1 false := by rw [hx]; exact heap_alloc_last w _
  refine (text_any (bdy cs) x w.heap.size gb off bn bc st1 false hrd (HSL.out.on Lr hbx) hle).mono ?_
  rintro e w' ⟨ko, kn, kc, p, en', t, rfl, _, HC, HQ⟩
  obtain ⟨hs, _, _, hcase⟩ := HQ.out
  rw [HPT.out] at hcase
  rcases hcase with ⟨h1, _⟩ | ⟨h1, _⟩
  ·injection h1 with h1
   injection h1 with h2 _
   subst h2
   exact ⟨ko, kn, kc, rfl, zaa hs, zaa (hbx.trans (HC.out.below hbx.size (by intro i hi e; omega)))⟩
  ·cases h1
 go_wp2_with (go_at_call 223; refine (HTX.out _ rfl).mono ?_; rintro e w2 ⟨ko, kn, kc, rfl, HS2, HB2⟩)
 go_ret
 exact ⟨ko, kn, kc, rfl, HS2, HB2⟩
theorem find1_any (w : World) (a bx : Nat) (k : Int) (n : Nat) (bo : Option Addr) (bn bc : Nat) (so : Option Addr) (sn sc : Nat) (cs : List Cl) (h : PgAt w a k n bo bn bc so sn sc cs) (hfit : ∀ c ∈ cs, c.fit) (i : Nat) (c : Cl) (hci : cs[i]? = some c) (hsz : bn ≤ 65536) (qo : Option Addr) (qn qc : Nat) (q : List Int) (hq : Sl w qo qn qc q) (hbx : w.cell? ⟨bx, 0, none⟩ = some (.pointer (some ⟨a, 0, none⟩))) :
  Calls Tryz.prog 266 #[.int .i64 (((sts 0 cs).getD i 0 : Nat) : Int), .slice qo qn qc, .pointer (some ⟨bx, 0, none⟩)] w fun e w' => e = .returned (.int .i64 (ordL c.key q)) ∧ Hid (Below w.heap.size w w') := by
 have HK := zaa (keyAt_any w a k n bo bn bc so sn sc cs h hfit i c hci hsz)
 have HQ := zaa hq
 generalize (((sts 0 cs).getD i 0 : Nat) : Int) = st at *
 clear h hq
 go_enter Tryz.func266, Tryz.ntmps266
 go_wp2_with (first | (go_at_call 267; refine HK.out.mono ?_; rintro e w2 ⟨ko, kn, kc, rfl, HS2, HB2⟩) | (go_at_call 183; refine zae (zdd _ _ _ _ _ _ c.key q _ HS2.out (HQ.out.on Lr HB2.out)) ?_))
 go_ret
 exact ⟨rfl, HB2⟩
structure Fnd (cs : List Cl) (q : List Int) (r : Nat) : Prop where
 le : r ≤ cs.length
 lo : ∀ i c, i < r → cs[i]? = some c → kl c.key q
 hi : ∀ i c, r ≤ i → cs[i]? = some c → ¬ kl c.key q
def FindTo (cs : List Cl) (q : List Int) (w : World) (e : Ending) (w' : World) : Prop :=
 ∃ r : Nat, ∃ is : Bool, e = .returned (.tuple #[.int .i64 (r : Int), .bool is]) ∧ Hid (Below w.heap.size w w') ∧ Hid (Fnd cs q r ∧ (is = true ↔ ∃ c, cs[r]? = some c ∧ c.key = q))
theorem search_any (w : World) (a bx : Nat) (k : Int) (n : Nat) (bo : Option Addr) (bn bc : Nat) (so : Option Addr) (sn sc : Nat) (cs : List Cl) (h : PgAt w a k n bo bn bc so sn sc cs) (hchk : chk k n none cs = 0) (hn : (n : Int) ≤ 65536) (hsz : bn ≤ 65536) (hsn : sn ≤ 65536) (qo : Option Addr) (qn qc : Nat) (q : List Int) (hq : Sl w qo qn qc q) (hbx : w.cell? ⟨bx, 0, none⟩ = some (.pointer (some ⟨a, 0, none⟩))) (hbl : bx < w.heap.size) :
  Calls Tryz.prog 265 #[.slice so sn sc, .slice qo qn qc, .func (.func 266) #[] #[.pointer (some ⟨bx, 0, none⟩)]] w fun e w' => FindTo cs q w e w' := by
 have HPG := zaa h
 have HFIT : Hid (∀ c ∈ cs, c.fit) := zaa fun c hc => (chk_may hchk c hc).fit hn
 have HRS := zaa (chk_rise hchk)
 have HQ := zaa hq
 have HSN := zaa h.sn_eq.1
 have HBX := zaa hbx
 have HF : Hid (∀ u i c, Below w.heap.size w u → cs[i]? = some c → Calls Tryz.prog 266 #[.int .i64 (((sts 0 cs).getD i 0 : Nat) : Int), .slice qo qn qc, .pointer (some ⟨bx, 0, none⟩)] u fun e w' => e = .returned (.int .i64 (ordL c.key q)) ∧ Hid (Below u.heap.size u w')) :=
  zaa fun u i c hu hc => find1_any u a bx k n bo bn bc so sn sc cs (HPG.out.on hu) HFIT.out i c hc hsz qo qn qc q (HQ.out.on Lr hu) ((hu.cell (p := ⟨bx, 0, none⟩) hbl).trans hbx)
 clear h hchk hq hbx
 go_enter Tryz.func265, Tryz.ntmps265
 go_wp2_with fail
 go_loopw [9, 10] (fun s9 s10 wr => ∃ lo hi : Nat, s9 = .int .i64 lo ∧ s10 = .int .i64 hi ∧ lo ≤ hi ∧ hi ≤ sn ∧ Hid (Below w.heap.size w wr) ∧ Hid ((∀ i c, i < lo → cs[i]? = some c → kl c.key q) ∧ ∀ i c, hi ≤ i → cs[i]? = some c → ¬ kl c.key q)) (fun s9 s10 _ => (intOf s10).toNat - (intOf s9).toNat)
 case atStart => exact ⟨0, sn, rfl, rfl, by omega, by omega, zaa Br, zaa ⟨fun i c hi => by omega, fun i c hi hc => by
  have := (zH.1 hc).1
  have := HSN.out
  omega⟩⟩
 case round =>
  obtain ⟨lo, hi, rfl, rfl, hlh, hhs, HB, HI⟩ := hrel
  have b1 : (lo : Int) ≤ 65536 := by omega
  have b2 : (hi : Int) ≤ 65536 := by omega
  have hst := (HPG.out.on HB.out).starts
  by_cases hlt : lo < hi
  ·have hltI : (lo : Int) < (hi : Int) := by omega
   obtain ⟨gs, offs, rfl, hgs, hcs⟩ : ∃ b off, so = some ⟨b, off, none⟩ ∧ b < wr.heap.size ∧ ∀ j, j < sn → wr.cell? ⟨b, off + j, none⟩ = some (.int .i64 (((sts 0 cs).getD j 0 : Nat) : Int)) := by
    rcases hst.hat with h0 | h0
    ·omega
    ·exact h0
   obtain ⟨m, hm⟩ : ∃ m, (lo + hi) / 2 = m := ⟨_, rfl⟩
   have hmI : ((lo : Int) + (hi : Int)) / 2 = (m : Int) := by omega
   have m1 : m < sn := by omega
   have m2 : (m : Int) < (sn : Int) := by omega
   have m3 : (m : Int) ≤ 65536 := by omega
   have cj := hcs m m1
   obtain ⟨c, hc⟩ : ∃ c, cs[m]? = some c := ⟨_, zI (by have := HSN.out; omega)⟩
   have HFM := zaa (HF.out wr m c HB.out hc)
   have HC := zaa hc
   have HML : Hid (lo ≤ m ∧ m < hi) := zaa (by omega)
   obtain ⟨st, hste⟩ : ∃ st, (((sts 0 cs).getD m 0 : Nat) : Int) = st := ⟨_, rfl⟩
   rw [hste] at cj HFM
   have h3 := zcg c.key q
   have HKL : Hid (kl c.key q ↔ ordL c.key q < 0) := zaa (by unfold kl; omega)
   generalize ordL c.key q = o at *
   clear hcs hst hc hm hste h3
   by_cases ho : o < 0
   ·go_wp2_with (go_at_call 266; refine HFM.out.mono ?_; rintro e w2 ⟨rfl, HB2⟩)
    go_roundw
    case rel =>
     refine ⟨m + 1, hi, by go_num, rfl, by have := HML.out; omega, hhs, zaa (zab HB.out Lr HB2.out), zaa ⟨fun i d hi' hd => ?_, HI.out.2⟩⟩
     by_cases e : i = m
     ·subst e
      rw [HC.out] at hd
      injection hd with hd
      subst hd
      exact HKL.out.2 ho
     ·exact zce _ _ _ (HRS.out i m d c (by omega) hd HC.out) (HKL.out.2 ho)
    case measure => have := HML.out; simp [intOf]; omega
   ·go_wp2_with (go_at_call 266; refine HFM.out.mono ?_; rintro e w2 ⟨rfl, HB2⟩)
    go_roundw
    case rel =>
     refine ⟨lo, m, rfl, by go_num, by have := HML.out; omega, by omega, zaa (zab HB.out Lr HB2.out), zaa ⟨HI.out.1, fun i d hi' hd hk => ?_⟩⟩
     by_cases e : i = m
     ·subst e
      rw [HC.out] at hd
      injection hd with hd
      subst hd
      have := HKL.out.1 hk
      omega
     ·have := HKL.out.1 (zce _ _ _ (HRS.out m i c d (by omega) HC.out hd) hk)
      omega
    case measure => have := HML.out; simp [intOf]; omega
  ·obtain rfl : hi = lo := by omega
   have hltI : ¬ (hi : Int) < (hi : Int) := by omega
   have HFN : Hid (Fnd cs q hi) := zaa ⟨by have := HSN.out; omega, HI.out.1, HI.out.2⟩
   by_cases hh : hi < sn
   ·have hhI : (hi : Int) < (sn : Int) := by omega
    obtain ⟨gs, offs, rfl, hgs, hcs⟩ : ∃ b off, so = some ⟨b, off, none⟩ ∧ b < wr.heap.size ∧ ∀ j, j < sn → wr.cell? ⟨b, off + j, none⟩ = some (.int .i64 (((sts 0 cs).getD j 0 : Nat) : Int)) := by
     rcases hst.hat with h0 | h0
     ·omega
     ·exact h0
    have cj := hcs hi hh
    obtain ⟨c, hc⟩ : ∃ c, cs[hi]? = some c := ⟨_, zI (by have := HSN.out; omega)⟩
    have HFM := zaa (HF.out wr hi c HB.out hc)
    have HEQ : Hid (ordL c.key q = 0 ↔ ∃ d, cs[hi]? = some d ∧ d.key = q) := zaa (by
     rw [hc]
     constructor
     ·intro h
      exact ⟨c, rfl, ordL_eq _ _ h⟩
     ·rintro ⟨d, hd, rfl⟩
      injection hd with hd
      subst hd
      exact ordL_self _)
    obtain ⟨st, hste⟩ : ∃ st, (((sts 0 cs).getD hi 0 : Nat) : Int) = st := ⟨_, rfl⟩
    rw [hste] at cj HFM
    generalize ordL c.key q = o at *
    clear hcs hst hc hste
    by_cases ho : o = 0
    ·subst ho
     go_wp2_with (go_at_call 266; refine HFM.out.mono ?_; rintro e w2 ⟨rfl, HB2⟩)
     go_ret2
     exact ⟨hi, true, rfl, zaa (zab HB.out Lr HB2.out), zaa ⟨HFN.out, by simpa using HEQ.out⟩⟩
    ·have d1 : (o == 0) = false := by simpa using ho
     go_wp2_with (go_at_call 266; refine HFM.out.mono ?_; rintro e w2 ⟨rfl, HB2⟩)
     go_ret2
     exact ⟨hi, false, rfl, zaa (zab HB.out Lr HB2.out), zaa ⟨HFN.out, by simpa using fun x h1 h2 => ho (HEQ.out.2 ⟨x, h1, h2⟩)⟩⟩
   ·have hhI : ¬ (hi : Int) < (sn : Int) := by omega
    have HNO : Hid (cs[hi]? = none) := zaa (List.getElem?_eq_none (by have := HSN.out; omega))
    clear hst
    go_wp2
    go_ret2
    exact ⟨hi, false, rfl, HB, zaa ⟨HFN.out, by simp [HNO.out]⟩⟩
theorem find_any (w : World) (a : Nat) (k : Int) (n : Nat) (bo : Option Addr) (bn bc : Nat) (so : Option Addr) (sn sc : Nat) (cs : List Cl) (h : PgAt w a k n bo bn bc so sn sc cs) (hchk : chk k n none cs = 0) (hn : (n : Int) ≤ 65536) (hf : szN cs ≤ n) (qo : Option Addr) (qn qc : Nat) (q : List Int) (hq : Sl w qo qn qc q) :
  Calls Tryz.prog 258 #[.pointer (some ⟨a, 0, none⟩), .slice qo qn qc] w fun e w' => FindTo cs q w e w' := by
 have hz := zaq cs
 obtain ⟨h1, h2⟩ := h.sn_eq
 obtain ⟨x, hx⟩ : ∃ x, w.alloc (.cells #[.pointer (some ⟨a, 0, none⟩)] 110) = x := ⟨_, rfl⟩
 have hbx : Below w.heap.size w x := by rw [← hx]; exact zac Br Lr _
 obtain ⟨s, hs⟩ : ∃ s, w.heap.size = s := ⟨_, rfl⟩
 have hc : x.cell? ⟨s, 0, none⟩ = some (.pointer (some ⟨a, 0, none⟩)) := by rw [← hx, ← hs]; simp
 have HSR := zaa (search_any x a s k n bo bn bc so sn sc cs (h.on hbx) hchk hn (by omega) (by omega) qo qn qc q (hq.on Lr hbx) hc (by rw [← hx, ← hs]; simp))
 obtain ⟨c0, c1, c2, c3⟩ := (h.on hbx).cells
 have HBX := zaa hbx
 clear h hq h1 h2 hz hbx
 go_enter Tryz.func258, Tryz.ntmps258
 go_wp2_with (go_at_call 265; refine HSR.out.mono ?_; rintro e w2 ⟨r, is, rfl, HB2, HQ⟩)
 go_ret2
 exact ⟨r, is, rfl, zaa (zab HBX.out Lr HB2.out), HQ⟩
theorem used_row (w : World) (a : Nat) (k : Int) (n : Nat) (bo : Option Addr) (bn bc : Nat) (so : Option Addr) (sn sc : Nat) (h : PR w a k n (.slice bo bn bc) (.slice so sn sc)) (h1 : bn ≤ 65536) (h2 : sn ≤ 65536) :
  Calls Tryz.prog 263 #[.pointer (some ⟨a, 0, none⟩)] w fun e w' => e = .returned (.int .i64 ((8 + 2 * sn + bn : Nat) : Int)) ∧ ∃ q, w' = w.drewN q := by
 obtain ⟨c0, c1, c2, c3⟩ := h.cells
 have b1 : (bn : Int) ≤ 65536 := by omega
 have b2 : (sn : Int) ≤ 65536 := by omega
 have w1 : IntKind.i64.wrap (2 * (sn : Int)) = 2 * (sn : Int) := by rw [IntKind.wrap_i64]; omega
 have w2 : IntKind.i64.wrap (4 + 2 * (sn : Int)) = 4 + 2 * (sn : Int) := by rw [IntKind.wrap_i64]; omega
 have w3 : IntKind.i64.wrap (4 + 2 * (sn : Int) + (bn : Int)) = 4 + 2 * (sn : Int) + (bn : Int) := by rw [IntKind.wrap_i64]; omega
 have w4 : IntKind.i64.wrap (4 + 2 * (sn : Int) + (bn : Int) + 4) = 4 + 2 * (sn : Int) + (bn : Int) + 4 := by rw [IntKind.wrap_i64]; omega
 clear h
 go_enter Tryz.func263, Tryz.ntmps263
 go_wp2_with fail
 go_quiet (fail)
 go_wp2
 go_ret
 exact ⟨zcc (by omega), _, rfl⟩
theorem zcv (w : World) (a : Nat) (k : Int) (n : Nat) (vb : Value) (so : Option Addr) (sn sc : Nat) (h : PR w a k n vb (.slice so sn sc)) :
  Calls Tryz.prog 147 #[.pointer (some ⟨a, 0, none⟩)] w fun e w' => e = .returned (.int .i64 (sn : Int)) ∧ w' = w := by
 obtain ⟨c0, c1, c2, c3⟩ := h.cells
 clear h
 go_enter Tryz.func147, Tryz.ntmps147
 go_wp2
 go_ret
 exact ⟨rfl, rfl⟩
end Go.Proofs.YtofafbmpbkjhnaaGreatDoor
