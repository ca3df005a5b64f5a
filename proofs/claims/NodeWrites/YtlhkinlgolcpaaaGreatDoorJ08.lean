import Derived.Test.YtlhkinlgolcpaaaGreatDoorJ07
import Derived.Deep.MidRow
import Derived.Deep.Upon
import Derived.Laws.IdiomCopy
namespace Go.Proofs.YtlhkinlgolcpaaaGreatDoor
set_option maxRecDepth 100000
open Go.RowKit
structure Rq (w u : World) (a : Nat) (k0 : Int) (n b off cap : Nat) (l : List Int) : Prop where
 row : PR u a k0 n (.slice none 0 0) (.slice none 0 0)
 sl : Sl u (some ⟨b, off, none⟩) n cap l
 be : Below w.heap.size w u
theorem Rq.on {w u v : World} {a : Nat} {k0 : Int} {n b off cap : Nat} {l : List Int} (h : Rq w u a k0 n b off cap l) (hb : Below u.heap.size u v) : Rq w v a k0 n b off cap l := ⟨box_on h.row hb, h.sl.on (Nat.le_refl _) hb, bl_go h.be (Nat.le_refl _) hb⟩
end Go.Proofs.YtlhkinlgolcpaaaGreatDoor

namespace Go.Proofs.YtlhkinlgolcpaaaGreatDoor
set_option maxRecDepth 100000
open Go.RowKit
theorem equal6 (ao bo : Option Addr) (n m c d : Nat) (la lb : List Int) (w : World) (ha : Sl w ao n c la) (hb : Sl w bo m d lb) :
  Calls Tryz.prog 89 #[.slice ao n c, .slice bo m d] w fun e w' => e = .returned (.bool (decide (la = lb))) ∧ w' = w := by
 have h1 := conv_sl ha
 have h2 := conv_sl hb
 have h3 := str_beq ha.wf hb.wf
 clear ha hb
 go_enter Tryz.func89, Tryz.ntmps89
 go_wp2
 go_ret
 exact ⟨rfl, rfl⟩
def NewTo (k n : Int) (w : World) (e : Ending) (w' : World) : Prop :=
 ∃ po c, e = .returned (.tuple #[.pointer po, .int .i64 c]) ∧ Hid (Below w.heap.size w w') ∧ Hid ((po = none ∧ c = 1 ∧ ¬ (isKd k ∧ pw n)) ∨ (po = some ⟨w.heap.size, 0, none⟩ ∧ c = 0 ∧ isKd k ∧ pw n ∧ w'.heap[w.heap.size]? = some (.cells #[.int .i64 k, .int .i64 n, .slice none 0 0, .slice none 0 0] 95 (0, 0))))
theorem new_any (k n : Int) (w : World) : Calls Tryz.prog 50 #[.int .i64 k, .int .i64 n] w fun e w' => NewTo k n w e w' := by
 cases h1 : decide (isKd k) with
 | false =>
  have hk : ¬ isKd k := by simpa using h1
  go_enter Tryz.func50, Tryz.ntmps50
  go_wp2_with (first | (go_at_call 25; refine same_call (isKind_any _ _) ?_; rw [h1]))
  go_ret2
  exact ⟨none, 1, rfl, Below.refl _ _, .inl ⟨rfl, rfl, fun h => hk h.1⟩⟩
 | true =>
  have hk : isKd k := by simpa using h1
  cases h2 : decide (pw n) with
  | false =>
   have hn : ¬ pw n := by simpa using h2
   have HN := hidden hn
   have HK := hidden hk
   clear hn hk
   go_enter Tryz.func50, Tryz.ntmps50
   go_wp2_with (first | (go_at_call 25; refine same_call (isKind_any _ _) ?_; rw [h1]) | (go_at_call 24; refine same_call (isSize_any _ _) ?_; rw [h2]))
   go_ret2
   exact ⟨none, 1, rfl, Below.refl _ _, .inl ⟨rfl, rfl, fun h => HN.out h.2⟩⟩
  | true =>
   have hn : pw n := by simpa using h2
   have HN := hidden hn
   have HK := hidden hk
   clear hn hk
   go_enter Tryz.func50, Tryz.ntmps50
   go_wp2_with (first | (go_at_call 25; refine same_call (isKind_any _ _) ?_; rw [h1]) | (go_at_call 24; refine same_call (isSize_any _ _) ?_; rw [h2]))
   go_ret2
   exact ⟨_, 0, rfl, (Below.refl _ _).alloc (Nat.le_refl _) _, .inr ⟨rfl, rfl, HK.out, HN.out, heap_alloc_last w _⟩⟩
end Go.Proofs.YtlhkinlgolcpaaaGreatDoor

namespace Go.Proofs.YtlhkinlgolcpaaaGreatDoor
set_option maxRecDepth 100000
open Go.RowKit
theorem bdy_drop (cs : List Cl) (i : Nat) : (bdy cs).drop (bdy (cs.take i)).length = bdy (cs.drop i) := by
 conv => lhs; rw [← List.take_append_drop i cs]
 rw [bdy_append, List.take_append_drop, List.drop_left]
theorem bdy_take_le (cs : List Cl) (i : Nat) : (bdy (cs.take i)).length ≤ (bdy cs).length := by
 conv => rhs; rw [← List.take_append_drop i cs]
 rw [bdy_append, List.length_append]
 omega
end Go.Proofs.YtlhkinlgolcpaaaGreatDoor

namespace Go.Proofs.YtlhkinlgolcpaaaGreatDoor
set_option maxRecDepth 100000
open Go.RowKit
theorem Bk.apart5 {w : World} {g h : Nat} {l : List Int} {x0 x1 x2 x3 x4 : Value} (hb : Bk w g l) (hc : C5 w h x0 x1 x2 x3 x4) : ¬ g = h := by
 rintro rfl
 unfold Bk at hb
 unfold C5 at hc
 rw [hb] at hc
 simp at hc
end Go.Proofs.YtlhkinlgolcpaaaGreatDoor

namespace Go.Proofs.YtlhkinlgolcpaaaGreatDoor
set_option maxRecDepth 100000
open Go.RowKit
def CAt (w : World) (b off : Nat) (c : Cl) : Prop :=
 ∃ ka kc va vc, w.cell? ⟨b, off, none⟩ = some (.slice ka c.key.length kc) ∧ w.cell? ⟨b, off + 1, none⟩ = some (.int .i64 c.kd) ∧ w.cell? ⟨b, off + 2, none⟩ = some (.slice va c.val.length vc) ∧ w.cell? ⟨b, off + 3, none⟩ = some (.int .i64 c.pg) ∧ w.cell? ⟨b, off + 4, none⟩ = some (.int .i64 c.ct) ∧ Sl w ka c.key.length kc c.key ∧ Sl w va c.val.length vc c.val
structure SlC (w : World) (ao : Option Addr) (n cap : Nat) (cs : List Cl) : Prop where
 hlen : cs.length = n
 hcap : n ≤ cap
 hroom : n ≤ 140737488355328
 hnil : ao = none → cap = 0
 hat : n = 0 ∨ ∃ b off, ao = some ⟨b, off, none⟩ ∧ b < w.heap.size ∧ ∀ i c, cs[i]? = some c → CAt w b (off + i * 5) c
theorem CAt.on {w w' : World} {b off : Nat} {c : Cl} (h : CAt w b off c) (hb : b < w.heap.size) (hB : Below w.heap.size w w') : CAt w' b off c := by
 obtain ⟨ka, kc, va, vc, h0, h1, h2, h3, h4, h5, h6⟩ := h
 exact ⟨ka, kc, va, vc, (hB.cell (p := ⟨b, off, none⟩) hb).trans h0, (hB.cell (p := ⟨b, off + 1, none⟩) hb).trans h1, (hB.cell (p := ⟨b, off + 2, none⟩) hb).trans h2, (hB.cell (p := ⟨b, off + 3, none⟩) hb).trans h3, (hB.cell (p := ⟨b, off + 4, none⟩) hb).trans h4, h5.on (Nat.le_refl _) hB, h6.on (Nat.le_refl _) hB⟩
theorem SlC.on {w w' : World} {ao : Option Addr} {n cap : Nat} {cs : List Cl} (h : SlC w ao n cap cs) (hB : Below w.heap.size w w') : SlC w' ao n cap cs := by
 refine ⟨h.hlen, h.hcap, h.hroom, h.hnil, ?_⟩
 rcases h.hat with h0 | ⟨b, off, e, hb, hc⟩
 ·exact .inl h0
 ·exact .inr ⟨b, off, e, Nat.lt_of_lt_of_le hb hB.size, fun i c hi => (hc i c hi).on hb hB⟩
theorem SlC.wf {w : World} {ao : Option Addr} {n cap : Nat} {cs : List Cl} (h : SlC w ao n cap cs) : ∀ c ∈ cs, c.Wf := by
 intro c hc
 obtain ⟨i, hi, e⟩ := List.getElem_of_mem hc
 rcases h.hat with h0 | ⟨b, off, _, _, hcs⟩
 ·have := h.hlen; omega
 ·obtain ⟨_, _, _, _, _, _, _, _, _, h5, h6⟩ := hcs i c (by rw [List.getElem?_eq_getElem hi, e])
  exact ⟨h5.wf, h6.wf⟩
def RowC (w : World) (b N : Nat) : Prop := ∃ cur : Array Value, w.heap[b]? = some (.cells cur 41 (0, 0)) ∧ cur.size = 5 * N
theorem RowC.cell {w : World} {b N : Nat} (h : RowC w b N) (j : Nat) (hj : j < 5 * N) : (w.cell? ⟨b, j, none⟩).isSome = true := by
 obtain ⟨cur, h1, h2⟩ := h
 simp [World.cell?, h1, h2, hj]
theorem RowC.free {w : World} {b N : Nat} (h : RowC w b N) (j : Nat) : w.frozen? ⟨b, j, none⟩ = false := by
 obtain ⟨cur, h1, h2⟩ := h
 simp [World.frozen?, h1]
theorem RowC.lt {w : World} {b N : Nat} (h : RowC w b N) : b < w.heap.size := by
 obtain ⟨cur, h1, _⟩ := h
 exact lt_some h1
theorem RowC.on {w w' : World} {b N : Nat} (h : RowC w b N) (hb : Below w.heap.size w w') : RowC w' b N := by
 obtain ⟨cur, h1, h2⟩ := h
 exact ⟨cur, box_on h1 hb, h2⟩
theorem RowC.set {w : World} {b N : Nat} (h : RowC w b N) (j : Nat) (v : Value) : RowC (w.setCell ⟨b, j, none⟩ v) b N := by
 obtain ⟨cur, h1, h2⟩ := h
 exact ⟨_, heap_setCell_same w b j cur _ v h1, by simp [h2]⟩
theorem RowC.sets {b N : Nat} : ∀ (vs : List Value) (j : Nat) (w : World), RowC w b N → RowC (w.setCells b j vs) b N
 | [], _, _, h => h
 | v :: r, j, _, h => RowC.sets r (j + 1) _ (h.set j v)
theorem RowC.there {w : World} {b N : Nat} (h : RowC w b N) {j : Nat} (hj : j + 5 ≤ 5 * N) : w.there b j 5 := fun i hi => ⟨h.cell (j + i) (by omega), h.free _⟩
theorem oneCell5 (ka va : Option Addr) (kn kc vn vc : Nat) (kd pg ct : Int) : (#[.slice ka kn kc, .int .i64 kd, .slice va vn vc, .int .i64 pg, .int .i64 ct] : Array Value).all (·.oneCell') = true :=
 all_oneCell_toArray (cs := [.slice ka kn kc, .int .i64 kd, .slice va vn vc, .int .i64 pg, .int .i64 ct]) (by simp [Value.oneCell'])
theorem put_cell {ops : Array Oper} {rest : List Oper} {o : Oper} {a : Act} {w : World} {Q : Exit → Act → World → Prop} (hgd : o.guard = none) (p v : Operand)
  (ho : o.op = .store 41 p v) (b j N : Nat) (ka va : Option Addr) (kn kc vn vc : Nat) (kd pg ct : Int) (hr : RowC w b N) (hp : a.eval p = .pointer (some ⟨b, j, none⟩)) (hv : a.eval v = .agg #[.slice ka kn kc, .int .i64 kd, .slice va vn vc, .int .i64 pg, .int .i64 ct]) (hj : j + 5 ≤ 5 * N)
  (h : ∀ u, Hid (u = w.setCells b j [.slice ka kn kc, .int .i64 kd, .slice va vn vc, .int .i64 pg, .int .i64 ct]) → wpList Tryz.prog ops Q rest (a.put o.dst undef) u) : wpList Tryz.prog ops Q (o :: rest) a w :=
 wpList_store_mid hgd _ p v ho b j #[.slice ka kn kc, .int .i64 kd, .slice va vn vc, .int .i64 pg, .int .i64 ct] hp hv (hr.there hj) sizeCell (oneCell5 ..) (h _ (hidden rfl))
theorem infoC : (Tryz.prog.info? 41).map (fun i => (i.zero, i.size, i.bytes)) = some (some (.agg #[.slice none 0 0, .int .i64 0, .slice none 0 0, .int .i64 0, .int .i64 0]), 5, 72) := by kernel_rfl
end Go.Proofs.YtlhkinlgolcpaaaGreatDoor

namespace Go.Proofs.YtlhkinlgolcpaaaGreatDoor
set_option maxRecDepth 100000
open Go.RowKit
theorem ctk_int (c : Cl) : (if c.kd = 1 then 7 + (c.key.length : Int) + (c.val.length : Int) else 13 + (c.key.length : Int)) = (ctk c : Int) := by
 unfold ctk
 split <;> simp
theorem szN_take (cs : List Cl) (i : Nat) (c : Cl) (h : cs[i]? = some c) : szN (cs.take (i + 1)) = szN (cs.take i) + ctk c := by
 have hi := (List.getElem?_eq_some_iff.1 h).1
 have e := (List.getElem?_eq_some_iff.1 h).2
 unfold szN
 rw [List.take_add_one, h]
 simp
 omega
theorem szN_take_le (cs : List Cl) (i : Nat) : szN (cs.take i) ≤ szN cs := by
 unfold szN
 conv => rhs; rw [← List.take_append_drop i cs]
 rw [List.map_append, List.sum_append]
 omega
theorem SlC.item {w : World} {ao : Option Addr} {n cap : Nat} {cs : List Cl} (h : SlC w ao n cap cs) (i : Nat) (hi : i < n) : ∃ b off c ka kc va vc, ao = some ⟨b, off, none⟩ ∧ b < w.heap.size ∧ cs[i]? = some c ∧
  w.cell? ⟨b, off + i * 5, none⟩ = some (.slice ka c.key.length kc) ∧ w.cell? ⟨b, off + i * 5 + 1, none⟩ = some (.int .i64 c.kd) ∧ w.cell? ⟨b, off + i * 5 + 2, none⟩ = some (.slice va c.val.length vc) ∧ w.cell? ⟨b, off + i * 5 + 3, none⟩ = some (.int .i64 c.pg) ∧ w.cell? ⟨b, off + i * 5 + 4, none⟩ = some (.int .i64 c.ct) ∧ Sl w ka c.key.length kc c.key ∧ Sl w va c.val.length vc c.val := by
 have hl := h.hlen
 rcases h.hat with h0 | ⟨b, off, e, hb, hc⟩
 ·omega
 ·obtain ⟨c, hci⟩ : ∃ c, cs[i]? = some c := ⟨_, List.getElem?_eq_getElem (by omega)⟩
  obtain ⟨ka, kc, va, vc, h0⟩ := hc i c hci
  exact ⟨b, off, c, ka, kc, va, vc, e, hb, hci, h0⟩
set_option maxHeartbeats 1000000 in
theorem size_any (k : Int) (ao : Option Addr) (n cap : Nat) (cs : List Cl) (w : World) (hs : SlC w ao n cap cs) (hz : szN cs ≤ 1099511627776) :
  Calls Tryz.prog 45 #[.int .i64 k, .slice ao n cap] w fun e w' => e = .returned (.int .i64 (szN cs : Int)) ∧ Below w.heap.size w w' := by
 have HS := hidden hs
 have hn := hs.hroom
 have HLEN := hidden hs.hlen
 have HZ := hidden hz
 clear hs hz
 go_enter Tryz.func45, Tryz.ntmps45
 go_wp2_with fail
 go_loopw [5, 10] (fun v i wr => ∃ j : Nat, j ≤ n ∧ i = .int .i64 j ∧ v = .int .i64 (szN (cs.take j) : Int) ∧ Hid (Below w.heap.size w wr)) (fun _ i _ => n - (intOf i).toNat)
 case atStart => exact ⟨0, by omega, rfl, by simp [szN], hidden (Below.refl _ _)⟩
 case round =>
  obtain ⟨j, hj, rfl, rfl, HB⟩ := hrel
  have bj : (j : Int) ≤ 140737488355328 := by omega
  by_cases hlt : j < n
  ·have hltI : (j : Int) < (n : Int) := by omega
   obtain ⟨b, off, c, ka, kc, va, vc, rfl, hb, hci, c0, c1, c2, c3, c4, hk, hv⟩ := (HS.out.on HB.out).item j hlt
   have hkr := hk.hroom
   have hvr := hv.hroom
   have HST := hidden (szN_take cs j c hci)
   have hle := szN_take_le cs (j + 1)
   rw [HST.out] at hle
   have hz := HZ.out
   obtain ⟨S, hS⟩ : ∃ S, szN (cs.take j) = S := ⟨_, rfl⟩
   obtain ⟨T, hT⟩ : ∃ T, ctk c = T := ⟨_, rfl⟩
   have HTI := hidden (ctk_int c)
   rw [hS, hT] at hle
   rw [hS, hT] at HST
   rw [hT] at HTI
   rw [hS]
   have b1 : (S : Int) ≤ 1099511627776 := by omega
   have b2 : (T : Int) ≤ 1099511627776 := by omega
   have HPT := hidden (fun u => ptaken_any ka c.key.length kc c.kd va c.val.length vc c.pg c.ct u hkr hvr)
   rw [HTI.out] at HPT
   clear hk hv hci hS hT hle hz HTI
   go_wp2_with (first | (go_at_call 80; refine (HPT.out _).mono ?_; rintro e w2 ⟨rfl, hb2⟩; have HB2 := hidden (bl_go (bl_al HB.out (Nat.le_refl _) _) (Nat.le_refl _) hb2); clear hb2))
   go_roundw
   case rel => exact ⟨j + 1, by omega, by go_num, by rw [HST.out]; simp, HB2⟩
   case measure => simp [intOf]; omega
  ·obtain rfl : j = n := by omega
   have hlI : ¬ (j : Int) < (j : Int) := by omega
   have HT : Hid (cs.take j = cs) := hidden (List.take_of_length_le (by rw [HLEN.out]; exact Nat.le_refl _))
   go_wp2
   go_ret
   rw [HT.out]
   exact ⟨rfl, HB.out⟩
end Go.Proofs.YtlhkinlgolcpaaaGreatDoor

namespace Go.Proofs.YtlhkinlgolcpaaaGreatDoor
set_option maxRecDepth 100000
open Go.RowKit
theorem insB_nil (vo : Option Addr) (vn vc : Nat) (l : List Int) (w : World) (hs : Sl w vo vn vc l) :
  Calls Tryz.prog 141 #[.slice none 0 0, .int .i64 0, .slice vo vn vc] w fun e w' => ∃ v', e = .returned v' ∧ Hid (OwnB w' w.heap.size v' l) ∧ Hid (Below w.heap.size w w') := by
 have hlen := hs.hlen
 have hroom := hs.hroom
 by_cases h0 : vn = 0
 ·subst h0
  obtain rfl : l = [] := List.eq_nil_of_length_eq_zero hlen
  clear hs
  go_enter Tryz.func141, Tryz.ntmps141
  go_wp2
  go_ret
  exact ⟨_, rfl, hidden (OwnB.nil _ _), hidden (Below.refl _ _)⟩
 ·have h1 : ¬ (vn : Int) = 0 := by omega
  have HS := hidden hs
  clear hs
  go_enter Tryz.func141, Tryz.ntmps141
  go_wp2_with (at_builtin; refine app_sl _ rfl _ _ rfl w.heap.size [] l _ vo vn vc rfl rfl (OwnB.nil _ _) HS.out (by simp; omega) (Nat.le_refl _) ?_; refine Hid.out ?_)
  apply hidden
  intro v1 w1 ho1 g1
  have HO := hidden ho1
  have HB : Hid (Below w.heap.size w w1) := hidden (g1.below (OwnB.nil w w.heap.size) (Nat.le_refl _))
  clear ho1 g1
  go_wp2
  go_ret
  exact ⟨v1, rfl, by simpa using HO, HB⟩
theorem repB_nil (vo : Option Addr) (vn vc : Nat) (l : List Int) (w : World) (hs : Sl w vo vn vc l) :
  Calls Tryz.prog 116 #[.slice none 0 0, .int .i64 0, .int .i64 0, .slice vo vn vc] w fun e w' => ∃ v', e = .returned v' ∧ Hid (OwnB w' w.heap.size v' l) ∧ Hid (Below w.heap.size w w') := by
 have HI := hidden (insB_nil vo vn vc l w hs)
 clear hs
 go_enter Tryz.func116, Tryz.ntmps116
 go_wp2_with (first | (go_at_call 141; refine HI.out.mono ?_; rintro e w1 ⟨v1, rfl, HO, HB⟩))
 go_ret
 exact ⟨v1, rfl, HO, HB⟩
theorem OwnN.nil (w : World) (B : Nat) : OwnN w B (.slice none 0 0) [] := World.ownsRow_nil w B 3 1
theorem app_slN {ops : Array Oper} {rest : List Oper} {o : Oper} {a : Act} {Q : Exit → Act → World → Prop} (w : World) (hgd : o.guard = none) (s x : Operand)
  (ho : o.op = .call { callee := .builtin .append, args := #[s, x], argTypes := #[93, 93] }) (B : Nat) (l news : List Nat) (v : Value) (b off n c : Nat) (hs : a.eval s = v) (hx : a.eval x = .slice (some ⟨b, off, none⟩) n c)
  (hown : OwnN w B v l) (hln : news.length = n) (hcs : ∀ i, i < n → w.cell? ⟨b, off + i, none⟩ = some (.int .i64 ((news.getD i 0 : Nat) : Int))) (hb : l.length + n ≤ 1000000) (hbase : B ≤ w.heap.size)
  (h : ∀ v' w', OwnN w' B v' (l ++ news) → Gr w v w' v' → wpList Tryz.prog ops Q rest (a.put o.dst v') w') : wpList Tryz.prog ops Q (o :: rest) a w := by
 obtain ⟨i0, hi, hz0, hz1, hz2⟩ := info_parts infoI
 refine wpList_append_own_at w hgd s x 93 ho B 3 i0 (.int .i64 0) 1 8 Tryz.underlying93 hi hz0 hz1 hz2 rfl (by decide) v l.length (NI l) hs hown ⟨b, off, none⟩ n c (NI news) hx (by simp [NI, hln])
  (fun j u hu => by
   have hj : j < news.length := by have := (List.getElem?_eq_some_iff.1 hu).1; simpa [NI] using this
   have e : u = .int .i64 ((news.getD j 0 : Nat) : Int) := by
    simp [NI, List.getElem?_eq_getElem hj] at hu
    simp [List.getD, List.getElem?_eq_getElem hj, ← hu]
   rw [Addr.add_lit, e]
   exact hcs j (by omega)) (NI_one news) (by unfold maxLen; omega) (by omega) hbase ?_
 intro v' w' h1 h2 _ h4
 refine h v' w' ?_ ⟨h2, h4.imp id fun e => ⟨_, e, Nat.le_refl _⟩⟩
 unfold OwnN
 rw [show NI (l ++ news) = NI l ++ NI news from by simp [NI], List.length_append, hln]
 exact h1
theorem insN_nil (vo : Option Addr) (vn vc : Nat) (l : List Nat) (w : World) (hs : SlN w vo vn vc l) (hb : vn ≤ 1000000) :
  Calls Tryz.prog 145 #[.slice none 0 0, .int .i64 0, .slice vo vn vc] w fun e w' => ∃ v', e = .returned v' ∧ Hid (OwnN w' w.heap.size v' l) ∧ Hid (Below w.heap.size w w') := by
 have hlen := hs.hlen
 by_cases h0 : vn = 0
 ·subst h0
  obtain rfl : l = [] := List.eq_nil_of_length_eq_zero hlen
  clear hs
  go_enter Tryz.func145, Tryz.ntmps145
  go_wp2
  go_ret
  exact ⟨_, rfl, hidden (OwnN.nil _ _), hidden (Below.refl _ _)⟩
 ·have h1 : ¬ (vn : Int) = 0 := by omega
  obtain ⟨b, off, rfl, _, hcs⟩ : ∃ b off, vo = some ⟨b, off, none⟩ ∧ b < w.heap.size ∧ ∀ i, i < vn → w.cell? ⟨b, off + i, none⟩ = some (.int .i64 ((l.getD i 0 : Nat) : Int)) := by
   rcases hs.hat with h | h
   ·omega
   ·exact h
  have HCS := hidden hcs
  have HLN := hidden hlen
  clear hs hcs hlen
  go_enter Tryz.func145, Tryz.ntmps145
  go_wp2_with (at_builtin; refine app_slN _ rfl _ _ rfl w.heap.size [] l _ b off vn vc rfl rfl (OwnN.nil _ _) HLN.out HCS.out (by simp; omega) (Nat.le_refl _) ?_; refine Hid.out ?_)
  apply hidden
  intro v1 w1 ho1 g1
  have HO := hidden ho1
  have HB : Hid (Below w.heap.size w w1) := hidden ⟨g1.grow.os, g1.grow.tape, g1.grow.output, g1.grow.size, fun k hk => g1.grow.block k hk (by simp [Value.ownBlock])⟩
  clear ho1 g1
  go_wp2
  go_ret
  exact ⟨v1, rfl, by simpa using HO, HB⟩
theorem repN_nil (vo : Option Addr) (vn vc : Nat) (l : List Nat) (w : World) (hs : SlN w vo vn vc l) (hb : vn ≤ 1000000) :
  Calls Tryz.prog 117 #[.slice none 0 0, .int .i64 0, .int .i64 0, .slice vo vn vc] w fun e w' => ∃ v', e = .returned v' ∧ Hid (OwnN w' w.heap.size v' l) ∧ Hid (Below w.heap.size w w') := by
 have HI := hidden (insN_nil vo vn vc l w hs hb)
 clear hs
 go_enter Tryz.func117, Tryz.ntmps117
 go_wp2_with (first | (go_at_call 145; refine HI.out.mono ?_; rintro e w1 ⟨v1, rfl, HO, HB⟩))
 go_ret
 exact ⟨v1, rfl, HO, HB⟩
theorem start_nil (w : World) (a : Nat) (k : Int) (n : Nat) (h : PR w a k n (.slice none 0 0) (.slice none 0 0)) :
  Calls Tryz.prog 114 #[.pointer (some ⟨a, 0, none⟩), .int .i64 0] w fun e w' => e = .returned (.int .i64 0) ∧ w' = w := by
 obtain ⟨c0, c1, c2, c3⟩ := h.cells
 clear h
 go_enter Tryz.func114, Tryz.ntmps114
 go_wp2
 go_ret
 exact ⟨rfl, rfl⟩
end Go.Proofs.YtlhkinlgolcpaaaGreatDoor
