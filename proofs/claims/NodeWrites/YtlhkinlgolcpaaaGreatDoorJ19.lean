import Derived.Test.YtlhkinlgolcpaaaGreatDoorJ18
import Derived.Test.YtlhkinlgolcpaaaGreatDoorJ05
import Derived.Test.YtlhkinlgolcpaaaGreatDoorJ06
import Derived.Deep.RegionLaw
namespace Go.Proofs.YtlhkinlgolcpaaaGreatDoor
set_option maxRecDepth 100000
open Go.RowKit
theorem qtk_tl (m : Nat) (c : Cl) : qtk m c = 3 + tL (c.key.length - m) + tlN c.kd c.val.length c.pg c.ct := by unfold qtk tlN; rfl
theorem qsm_take (m : Nat) : ∀ (cs : List Cl) (f : Bool) (j : Nat) (c : Cl), cs[j]? = some c → qsm m f (cs.take (j + 1)) = qsm m f (cs.take j) + qtk (if f = true ∧ j = 0 then 0 else m) c
 | [], f, j, c, h => by simp at h
 | d :: r, f, 0, c, h => by
  simp at h
  subst h
  simp [qsm]
 | d :: r, f, j + 1, c, h => by
  have ih := qsm_take m r false j c (by simpa using h)
  simp only [List.take_succ_cons, qsm]
  rw [ih]
  simp
  omega
theorem qsm_take_le (m : Nat) : ∀ (cs : List Cl) (f : Bool) (j : Nat), qsm m f (cs.take j) ≤ qsm m f cs
 | [], f, j => by simp
 | d :: r, f, 0 => by simp [qsm]
 | d :: r, f, j + 1 => by
  have ih := qsm_take_le m r false j
  simp only [List.take_succ_cons, qsm]
  omega
theorem mem_ktl {k : Int} {cs : List Cl} {j : Nat} {c : Cl} (h : cs[j]? = some c) (hw : ¬ (k = 3 ∧ j = 0)) : c ∈ ktl k cs := by
 unfold ktl
 by_cases hk : k = 3
 ·rw [if_pos hk]
  obtain ⟨i, rfl⟩ : ∃ i, j = i + 1 := ⟨j - 1, by omega⟩
  match cs, h with
  | d :: r, h => exact List.mem_of_getElem? (by simpa using h)
 ·rw [if_neg hk]
  exact List.mem_of_getElem? h
set_option maxHeartbeats 2000000 in
theorem psize_any (k : Int) (ao : Option Addr) (n cap : Nat) (cs : List Cl) (w : World) (hs : SlC w ao n cap cs) (hz : szQ k (shP k cs).length cs ≤ 1099511627776) :
  Calls Tryz.prog 53 #[.int .i64 k, .slice ao n cap] w fun e w' => e = .returned (.int .i64 (szQ k (shP k cs).length cs : Int)) ∧ Hid (Below w.heap.size w w') := by
 have HS := hidden hs
 have hn := hs.hroom
 have HLEN := hidden hs.hlen
 have HA := hidden (palike_any k ao n cap cs w hs)
 have HBEG := hidden (shP_beg k cs)
 have hzq := hz
 unfold szQ at hzq ⊢
 have HZ := hidden hzq
 have HBL := hidden (fun c hc => beg_len (HBEG.out c hc))
 obtain ⟨m, hm⟩ : ∃ m, (shP k cs).length = m := ⟨_, rfl⟩
 rw [hm] at HA HZ HBL hzq ⊢
 have hmb : (m : Int) ≤ 1099511627776 := by omega
 obtain ⟨f, hf⟩ : ∃ f, whl k = f := ⟨_, rfl⟩
 rw [hf] at HZ ⊢
 have HF : Hid (∀ i : Nat, (decide (k = 3 ∧ (i : Int) = 0)) = decide (f = true ∧ i = 0)) := hidden (by
  intro i
  rw [← hf]
  unfold whl
  simp)
 have HKT : Hid (∀ (j : Nat) (c : Cl), cs[j]? = some c → decide (f = true ∧ j = 0) = false → m ≤ c.key.length) := hidden (by
  intro j c hc hd
  have : ¬ (k = 3 ∧ j = 0) := by
   rw [← hf] at hd
   unfold whl at hd
   simpa using hd
  exact HBL.out c (mem_ktl hc this))
 clear hs hz hm hzq hf
 go_enter Tryz.func53, Tryz.ntmps53
 go_wp2_with (first | (go_at_call 90; refine HA.out.mono ?_; rintro e w1 ⟨rfl, HB1⟩; refine Hid.out ?_))
 apply hidden
 clear HA
 go_wp2_with fail
 go_loopw [6, 18] (fun v i wr => ∃ j q : Nat, j ≤ n ∧ q ≤ 1099511627776 ∧ i = .int .i64 j ∧ v = .int .i64 (q : Int) ∧ Hid (q = 10 + m + qsm m f (cs.take j)) ∧ Hid (Below w.heap.size w wr)) (fun _ i _ => n - (intOf i).toNat)
 case atStart => exact ⟨0, 10 + m, by omega, by have := HZ.out; omega, rfl, by go_num, hidden (by simp [qsm]), HB1⟩
 case round =>
  obtain ⟨j, q, hj, hq, rfl, rfl, HQ, HB⟩ := hrel
  have bj : (j : Int) ≤ 140737488355328 := by omega
  have bq : (q : Int) ≤ 1099511627776 := by omega
  by_cases hlt : j < n
  ·have hltI : (j : Int) < (n : Int) := by omega
   obtain ⟨b, off, c, ka, kc, va, vc, rfl, hb, hci, c0, c1, c2, c3, c4, hk, hv⟩ := (HS.out.on HB.out).item j hlt
   have hkr := hk.hroom
   have hvr := hv.hroom
   have HST := hidden (qsm_take m cs f j c hci)
   have hle := qsm_take_le m cs f (j + 1)
   rw [HST.out] at hle
   have hz := HZ.out
   have HMK := hidden (HKT.out j c hci)
   obtain ⟨x, hx⟩ : ∃ x, wr.alloc (.cells #[.slice ka c.key.length kc, .int .i64 c.kd, .slice va c.val.length vc, .int .i64 c.pg, .int .i64 c.ct] 41) = x := ⟨_, rfl⟩
   have hal : Below wr.heap.size wr x := by rw [← hx]; exact bl_al (Below.refl _ _) (Nat.le_refl _) _
   have hc5 : C5 x wr.heap.size (.slice ka c.key.length kc) (.int .i64 c.kd) (.slice va c.val.length vc) (.int .i64 c.pg) (.int .i64 c.ct) := by rw [← hx]; exact C5.box wr _ _ _ _ _
   obtain ⟨y0, y1, y2, y3, y4⟩ := hc5.cells
   have HTL := hidden (fun u => tailLen_any ka c.key.length kc c.kd va c.val.length vc c.pg c.ct u hvr)
   have HSW : Hid (∀ u, Calls Tryz.prog 91 #[.int .i64 k, .int .i64 (j : Int)] u fun e w' => e = .returned (.bool (decide (f = true ∧ j = 0))) ∧ w' = u) := hidden (fun u => by have := standsWhole_any k (j : Int) u; rwa [HF.out j] at this)
   have HQT := hidden (qtk_tl (if f = true ∧ j = 0 then 0 else m) c)
   obtain ⟨K, hK⟩ : ∃ K, c.key.length = K := ⟨_, rfl⟩
   rw [hK] at hkr HTL HMK HQT c0 y0
   obtain ⟨tl, htl⟩ : ∃ tl, tlN c.kd c.val.length c.pg c.ct = tl := ⟨_, rfl⟩
   rw [htl] at HTL HQT
   have hcase : decide (f = true ∧ j = 0) = true ∨ decide (f = true ∧ j = 0) = false := by cases decide (f = true ∧ j = 0) <;> simp
   obtain ⟨R, hR, hRl, hRK⟩ : ∃ R : Nat, (decide (f = true ∧ j = 0) = true ∧ K = R ∨ decide (f = true ∧ j = 0) = false ∧ (K : Int) - (m : Int) = (R : Int)) ∧ qtk (if f = true ∧ j = 0 then 0 else m) c = 3 + tL R + tl ∧ R ≤ K := by
    rcases hcase with e | e
    ·have e' : f = true ∧ j = 0 := by simpa using e
     refine ⟨K, .inl ⟨e, rfl⟩, ?_, Nat.le_refl _⟩
     rw [HQT.out, if_pos e', Nat.sub_zero]
    ·have e' : ¬ (f = true ∧ j = 0) := by simpa using e
     have hmk := HMK.out e
     refine ⟨K - m, .inr ⟨e, by omega⟩, ?_, by omega⟩
     rw [HQT.out, if_neg e']
   rw [hRl] at HST hle
   have HTX := hidden (fun u => textLen_any R u (by omega))
   obtain ⟨tx, htx⟩ : ∃ tx, tL R = tx := ⟨_, rfl⟩
   rw [htx] at HTX HST hle
   have hqe := HQ.out
   have bK : (K : Int) ≤ 140737488355328 := by omega
   have bR : (R : Int) ≤ 140737488355328 := by omega
   have bt : (tx : Int) ≤ 1099511627776 := by omega
   have bl : (tl : Int) ≤ 1099511627776 := by omega
   have bsum : q + (3 + tx + tl) ≤ 1099511627776 := by omega
   have bw1 : IntKind.i64.wrap (3 + (tx : Int)) = 3 + (tx : Int) := by rw [IntKind.wrap_i64]; omega
   have bw2 : IntKind.i64.wrap (3 + (tx : Int) + (tl : Int)) = 3 + (tx : Int) + (tl : Int) := by rw [IntKind.wrap_i64]; omega
   have bw3 : IntKind.i64.wrap ((q : Int) + (3 + (tx : Int) + (tl : Int))) = ((q + (3 + tx + tl) : Nat) : Int) := by rw [IntKind.wrap_i64]; omega
   have HNX : Hid (q + (3 + tx + tl) = 10 + m + qsm m f (cs.take (j + 1))) := hidden (by rw [HST.out]; omega)
   clear hk hv hci hc5 hle hz HMK HQT hK htl hRl htx hqe HST hcase
   rcases hR with ⟨hd, rfl⟩ | ⟨hd, hRe⟩
   ·rw [hd] at HSW
    clear hd
    go_wp2_with (first | (go_at_call 91; refine same_call (HSW.out _) ?_))
    go_region_with (first | (go_at_call 92; refine same_call (HTX.out _) ?_) | (go_at_call 93; refine (HTL.out _).mono ?_; rintro e w2 ⟨rfl, hb2⟩; have hbw := bl_go (show Below wr.heap.size wr _ from by first | exact hal | exact hal.drew | exact bl_dr hal _ | exact (bl_dr hal _).drew | go_grown) (Nat.le_refl _) hb2))
    all_goals
     go_wp2
     go_roundw
     case rel => exact ⟨j + 1, q + (3 + tx + tl), by omega, by omega, by go_num, by simp, HNX, hidden (by first | exact bl_go HB.out (Nat.le_refl _) hbw | exact bl_dr (bl_go HB.out (Nat.le_refl _) hbw) _ | exact (bl_go HB.out (Nat.le_refl _) hbw).drew)⟩
     case measure => simp [intOf]; omega
   ·rw [hd] at HSW
    clear hd
    go_wp2_with (first | (go_at_call 91; refine same_call (HSW.out _) ?_))
    go_region_with (first | (go_at_call 92; refine same_call (HTX.out _) ?_) | (go_at_call 93; refine (HTL.out _).mono ?_; rintro e w2 ⟨rfl, hb2⟩; have hbw := bl_go (show Below wr.heap.size wr _ from by first | exact hal | exact hal.drew | exact bl_dr hal _ | exact (bl_dr hal _).drew | go_grown) (Nat.le_refl _) hb2))
    all_goals
     go_wp2
     go_roundw
     case rel => exact ⟨j + 1, q + (3 + tx + tl), by omega, by omega, by go_num, by simp, HNX, hidden (by first | exact bl_go HB.out (Nat.le_refl _) hbw | exact bl_dr (bl_go HB.out (Nat.le_refl _) hbw) _ | exact (bl_go HB.out (Nat.le_refl _) hbw).drew)⟩
     case measure => simp [intOf]; omega
  ·obtain rfl : j = n := by omega
   have hlI : ¬ (j : Int) < (j : Int) := by omega
   have HT : Hid (q = 10 + m + qsm m f cs) := hidden (by rw [HQ.out, List.take_of_length_le (by rw [HLEN.out]; exact Nat.le_refl _)])
   go_wp2
   go_ret
   rw [show (10 + (m : Int) + (qsm m f cs : Int)) = (q : Int) by have := HT.out; omega]
   exact ⟨rfl, HB⟩
end Go.Proofs.YtlhkinlgolcpaaaGreatDoor

namespace Go.Proofs.YtlhkinlgolcpaaaGreatDoor
set_option maxRecDepth 100000
open Go.RowKit
structure PgQ (w : World) (a : Nat) (k : Int) (n : Nat) (po : Option Addr) (pn pc : Nat) (bo : Option Addr) (bn bc : Nat) (so : Option Addr) (sn sc : Nat) (ws : Int) (P body : List Int) (st : List Nat) : Prop where
 row : w.heap[a]? = some (.cells #[.int .i64 k, .int .i64 (n : Int), .slice po pn pc, .slice bo bn bc, .slice so sn sc, .int .i64 ws] 105 (0, 0))
 pre : Sl w po pn pc P
 body : Sl w bo bn bc body
 starts : SlN w so sn sc st
theorem PgQ.on {w w' : World} {a : Nat} {k : Int} {n : Nat} {po : Option Addr} {pn pc : Nat} {bo : Option Addr} {bn bc : Nat} {so : Option Addr} {sn sc : Nat} {ws : Int} {P body : List Int} {st : List Nat} (h : PgQ w a k n po pn pc bo bn bc so sn sc ws P body st) (hb : Below w.heap.size w w') : PgQ w' a k n po pn pc bo bn bc so sn sc ws P body st :=
 ⟨box_on h.row hb, h.pre.on (Nat.le_refl _) hb, h.body.on (Nat.le_refl _) hb, h.starts.on hb⟩
theorem PgQ.cells {w : World} {a : Nat} {k : Int} {n : Nat} {po : Option Addr} {pn pc : Nat} {bo : Option Addr} {bn bc : Nat} {so : Option Addr} {sn sc : Nat} {ws : Int} {P body : List Int} {st : List Nat} (h : PgQ w a k n po pn pc bo bn bc so sn sc ws P body st) :
  w.cell? ⟨a, 0, none⟩ = some (.int .i64 k) ∧ w.cell? ⟨a, 1, none⟩ = some (.int .i64 (n : Int)) ∧ w.cell? ⟨a, 2, none⟩ = some (.slice po pn pc) ∧ w.cell? ⟨a, 3, none⟩ = some (.slice bo bn bc) ∧ w.cell? ⟨a, 4, none⟩ = some (.slice so sn sc) ∧ w.cell? ⟨a, 5, none⟩ = some (.int .i64 ws) := by
 refine ⟨?_, ?_, ?_, ?_, ?_, ?_⟩
 ·rw [cell_of_row _ _ 0 _ _ _ h.row]; rfl
 ·rw [cell_of_row _ _ 1 _ _ _ h.row]; rfl
 ·rw [cell_of_row _ _ 2 _ _ _ h.row]; rfl
 ·rw [cell_of_row _ _ 3 _ _ _ h.row]; rfl
 ·rw [cell_of_row _ _ 4 _ _ _ h.row]; rfl
 ·rw [cell_of_row _ _ 5 _ _ _ h.row]; rfl
theorem sizeEnt : (Tryz.prog.info? 100).map (·.size) = some 6 := by kernel_rfl
theorem E6.cf {w w' : World} {g : Nat} {x0 x1 x2 x3 x4 x5 : Value} {F : Nat → Prop} (h : E6 w g x0 x1 x2 x3 x4 x5) (hc : Cf F w w') (hg : ¬ F g) : E6 w' g x0 x1 x2 x3 x4 x5 := (hc.block g (lt_some h) hg).trans h
def Lo (G : Nat) (ao : Option Addr) (n : Nat) : Prop := n = 0 ∨ ∀ q, ao = some q → q.block < G
theorem Sl.lo {w : World} {ao : Option Addr} {n cap : Nat} {l : List Int} (h : Sl w ao n cap l) : Lo w.heap.size ao n := by
 rcases h.hat with h0 | ⟨b, off, e, hlt, _⟩
 ·exact .inl h0
 ·exact .inr fun q hq => by rw [e] at hq; injection hq with hq; subst hq; exact hlt
end Go.Proofs.YtlhkinlgolcpaaaGreatDoor

namespace Go.Proofs.YtlhkinlgolcpaaaGreatDoor
set_option maxRecDepth 100000
open Go.RowKit
def EAt (w : World) (G b off : Nat) (c : Cl) : Prop :=
 ∃ ho hn hc ko kn kc vo vn vc h key, w.cell? ⟨b, off, none⟩ = some (.slice ho hn hc) ∧ w.cell? ⟨b, off + 1, none⟩ = some (.slice ko kn kc) ∧ w.cell? ⟨b, off + 2, none⟩ = some (.int .i64 c.kd) ∧ w.cell? ⟨b, off + 3, none⟩ = some (.slice vo vn vc) ∧ w.cell? ⟨b, off + 4, none⟩ = some (.int .i64 c.pg) ∧ w.cell? ⟨b, off + 5, none⟩ = some (.int .i64 c.ct) ∧
  Sl w ho hn hc h ∧ Sl w ko kn kc key ∧ Sl w vo vn vc c.val ∧ h ++ key = c.key ∧ Lo G ho hn ∧ Lo G ko kn ∧ Lo G vo vn
structure SlE (w : World) (G : Nat) (ao : Option Addr) (n cap : Nat) (cs : List Cl) : Prop where
 hlen : cs.length = n
 hcap : n ≤ cap
 hroom : n ≤ 140737488355328
 hnil : ao = none → cap = 0
 hat : n = 0 ∨ ∃ b off, ao = some ⟨b, off, none⟩ ∧ b < w.heap.size ∧ ∀ i c, cs[i]? = some c → EAt w G b (off + i * 6) c
theorem EAt.on {w w' : World} {G b off : Nat} {c : Cl} (h : EAt w G b off c) (hb : b < w.heap.size) (hB : Below w.heap.size w w') : EAt w' G b off c := by
 obtain ⟨ho, hn, hc, ko, kn, kc, vo, vn, vc, h', key, h0, h1, h2, h3, h4, h5, s1, s2, s3, r⟩ := h
 exact ⟨ho, hn, hc, ko, kn, kc, vo, vn, vc, h', key, (hB.cell (p := ⟨b, off, none⟩) hb).trans h0, (hB.cell (p := ⟨b, off + 1, none⟩) hb).trans h1, (hB.cell (p := ⟨b, off + 2, none⟩) hb).trans h2, (hB.cell (p := ⟨b, off + 3, none⟩) hb).trans h3, (hB.cell (p := ⟨b, off + 4, none⟩) hb).trans h4, (hB.cell (p := ⟨b, off + 5, none⟩) hb).trans h5, s1.on (Nat.le_refl _) hB, s2.on (Nat.le_refl _) hB, s3.on (Nat.le_refl _) hB, r⟩
def RowEq (w : World) (b N : Nat) : Prop := ∃ cur : Array Value, w.heap[b]? = some (.cells cur 100 (0, 0)) ∧ cur.size = 6 * N
theorem RowEq.cell {w : World} {b N : Nat} (h : RowEq w b N) (j : Nat) (hj : j < 6 * N) : (w.cell? ⟨b, j, none⟩).isSome = true := by
 obtain ⟨cur, h1, h2⟩ := h
 simp [World.cell?, h1, h2, hj]
theorem RowEq.free {w : World} {b N : Nat} (h : RowEq w b N) (j : Nat) : w.frozen? ⟨b, j, none⟩ = false := by
 obtain ⟨cur, h1, h2⟩ := h
 simp [World.frozen?, h1]
theorem RowEq.lt {w : World} {b N : Nat} (h : RowEq w b N) : b < w.heap.size := by
 obtain ⟨cur, h1, _⟩ := h
 exact lt_some h1
theorem RowEq.on {w w' : World} {b N : Nat} (h : RowEq w b N) (hb : Below w.heap.size w w') : RowEq w' b N := by
 obtain ⟨cur, h1, h2⟩ := h
 exact ⟨cur, box_on h1 hb, h2⟩
theorem RowEq.set {w : World} {b N : Nat} (h : RowEq w b N) (j : Nat) (v : Value) : RowEq (w.setCell ⟨b, j, none⟩ v) b N := by
 obtain ⟨cur, h1, h2⟩ := h
 exact ⟨_, heap_setCell_same w b j cur _ v h1, by simp [h2]⟩
theorem RowEq.sets {b N : Nat} : ∀ (vs : List Value) (j : Nat) (w : World), RowEq w b N → RowEq (w.setCells b j vs) b N
 | [], _, _, h => h
 | v :: r, j, _, h => RowEq.sets r (j + 1) _ (h.set j v)
theorem RowEq.there {w : World} {b N : Nat} (h : RowEq w b N) {j : Nat} (hj : j + 6 ≤ 6 * N) : w.there b j 6 := fun i hi => ⟨h.cell (j + i) (by omega), h.free _⟩
theorem oneCell6 (ho ko vo : Option Addr) (hn hc kn kc vn vc : Nat) (kd pg ct : Int) : (#[.slice ho hn hc, .slice ko kn kc, .int .i64 kd, .slice vo vn vc, .int .i64 pg, .int .i64 ct] : Array Value).all (·.oneCell') = true :=
 all_oneCell_toArray (cs := [.slice ho hn hc, .slice ko kn kc, .int .i64 kd, .slice vo vn vc, .int .i64 pg, .int .i64 ct]) (by simp [Value.oneCell'])
theorem put_entry {ops : Array Oper} {rest : List Oper} {o : Oper} {a : Act} {w : World} {Q : Exit → Act → World → Prop} (hgd : o.guard = none) (p v : Operand)
  (hop : o.op = .store 100 p v) (b j N : Nat) (ho ko vo : Option Addr) (hn hc kn kc vn vc : Nat) (kd pg ct : Int) (hr : RowEq w b N) (hp : a.eval p = .pointer (some ⟨b, j, none⟩)) (hv : a.eval v = .agg #[.slice ho hn hc, .slice ko kn kc, .int .i64 kd, .slice vo vn vc, .int .i64 pg, .int .i64 ct]) (hj : j + 6 ≤ 6 * N)
  (h : ∀ u, Hid (u = w.setCells b j [.slice ho hn hc, .slice ko kn kc, .int .i64 kd, .slice vo vn vc, .int .i64 pg, .int .i64 ct]) → wpList Tryz.prog ops Q rest (a.put o.dst undef) u) : wpList Tryz.prog ops Q (o :: rest) a w :=
 wpList_store_mid hgd _ p v hop b j #[.slice ho hn hc, .slice ko kn kc, .int .i64 kd, .slice vo vn vc, .int .i64 pg, .int .i64 ct] hp hv (hr.there hj) sizeEnt (oneCell6 ..) (h _ (hidden rfl))
theorem Sl.sets {w : World} {ao : Option Addr} {n cap G b j : Nat} {l : List Int} {vs : List Value} (h : Sl w ao n cap l) (hlo : Lo G ao n) (hG : G ≤ b) : Sl (w.setCells b j vs) ao n cap l := by
 refine ⟨h.hlen, h.hcap, h.hroom, h.wf, h.hnil, ?_⟩
 rcases h.hat with h0 | ⟨q, off, e, hlt, hc⟩
 ·exact .inl h0
 ·rcases hlo with h0 | hlo
  ·exact .inl h0
  ·have hq := hlo _ e
   simp only at hq
   have hblk : (w.setCells b j vs).heap[q]? = w.heap[q]? := World.heap_setCells_other _ _ _ _ hlt (by omega)
   refine .inr ⟨q, off, e, lt_some (hblk.trans (Array.getElem?_eq_getElem hlt)), fun i hi => ?_⟩
   rw [← hc i hi]
   exact World.cell?_of_block hblk
theorem EAt.put {w : World} {G b i j : Nat} {c : Cl} {vs : List Value} (h : EAt w G b (i * 6) c) (hG : G ≤ b) (hij : i < j) : EAt (w.setCells b (j * 6) vs) G b (i * 6) c := by
 obtain ⟨ho, hn, hc, ko, kn, kc, vo, vn, vc, h', key, h0, h1, h2, h3, h4, h5, s1, s2, s3, e, l1, l2, l3⟩ := h
 have hout : ∀ d, d < 6 → (w.setCells b (j * 6) vs).cell? ⟨b, i * 6 + d, none⟩ = w.cell? ⟨b, i * 6 + d, none⟩ := fun d hd => World.cell?_setCells_out b _ _ w _ (fun _ _ => .inl (by simp only; omega))
 exact ⟨ho, hn, hc, ko, kn, kc, vo, vn, vc, h', key, (hout 0 (by omega)).trans h0, (hout 1 (by omega)).trans h1, (hout 2 (by omega)).trans h2, (hout 3 (by omega)).trans h3, (hout 4 (by omega)).trans h4, (hout 5 (by omega)).trans h5, s1.sets l1 hG, s2.sets l2 hG, s3.sets l3 hG, e, l1, l2, l3⟩
theorem EAt.new {w : World} {G b N j : Nat} {c : Cl} {ho ko vo : Option Addr} {hn hc kn kc vn vc : Nat} {h key : List Int} (hr : RowEq w b N) (hj : j * 6 + 6 ≤ 6 * N) (hG : G ≤ b) (s1 : Sl w ho hn hc h) (s2 : Sl w ko kn kc key) (s3 : Sl w vo vn vc c.val) (e : h ++ key = c.key) (l1 : Lo G ho hn) (l2 : Lo G ko kn) (l3 : Lo G vo vn) :
  EAt (w.setCells b (j * 6) [.slice ho hn hc, .slice ko kn kc, .int .i64 c.kd, .slice vo vn vc, .int .i64 c.pg, .int .i64 c.ct]) G b (j * 6) c := by
 have h' := World.rangeAt_setCells_same w b (j * 6) [.slice ho hn hc, .slice ko kn kc, .int .i64 c.kd, .slice vo vn vc, .int .i64 c.pg, .int .i64 c.ct] (hr.there hj)
 exact ⟨ho, hn, hc, ko, kn, kc, vo, vn, vc, h, key, h' 0 _ rfl, h' 1 _ rfl, h' 2 _ rfl, h' 3 _ rfl, h' 4 _ rfl, h' 5 _ rfl, s1.sets l1 hG, s2.sets l2 hG, s3.sets l3 hG, e, l1, l2, l3⟩
theorem Lo.mono {G H : Nat} {ao : Option Addr} {n : Nat} (h : Lo G ao n) (hG : G ≤ H) : Lo H ao n := by
 rcases h with h0 | h
 ·exact .inl h0
 ·exact .inr fun q hq => Nat.lt_of_lt_of_le (h q hq) hG
theorem infoE : (Tryz.prog.info? 100).map (fun i => (i.zero, i.size, i.bytes)) = some (some (.agg #[.slice none 0 0, .slice none 0 0, .int .i64 0, .slice none 0 0, .int .i64 0, .int .i64 0]), 6, 96) := by kernel_rfl
theorem qlen_any (w : World) (a : Nat) (k : Int) (n : Nat) (po : Option Addr) (pn pc : Nat) (bo : Option Addr) (bn bc : Nat) (so : Option Addr) (sn sc : Nat) (ws : Int) (P body : List Int) (st : List Nat) (h : PgQ w a k n po pn pc bo bn bc so sn sc ws P body st) :
  Calls Tryz.prog 97 #[.pointer (some ⟨a, 0, none⟩)] w fun e w' => e = .returned (.int .i64 (sn : Int)) ∧ w' = w := by
 obtain ⟨c0, c1, c2, c3, c4, c5⟩ := h.cells
 clear h
 go_enter Tryz.func97, Tryz.ntmps97
 go_wp2
 go_ret
 exact ⟨rfl, rfl⟩
end Go.Proofs.YtlhkinlgolcpaaaGreatDoor

namespace Go.Proofs.YtlhkinlgolcpaaaGreatDoor
set_option maxRecDepth 100000
open Go.RowKit
def NewQ (k n : Int) (w : World) (e : Ending) (w' : World) : Prop :=
 ∃ po c, e = .returned (.tuple #[.pointer po, .int .i64 c]) ∧ Hid (Below w.heap.size w w') ∧ Hid ((po = none ∧ c = 1 ∧ ¬ (isKd k ∧ pw n)) ∨ (po = some ⟨w.heap.size, 0, none⟩ ∧ c = 0 ∧ isKd k ∧ pw n ∧ w'.heap[w.heap.size]? = some (.cells #[.int .i64 k, .int .i64 n, .slice none 0 0, .slice none 0 0, .slice none 0 0, .int .i64 0] 105 (0, 0))))
theorem short_fB (n : Nat) : [((n : Int) / 256) % 256, (n : Int) % 256] = fB 2 (n : Int) := by
 simp [fB]
end Go.Proofs.YtlhkinlgolcpaaaGreatDoor

namespace Go.Proofs.YtlhkinlgolcpaaaGreatDoor
set_option maxRecDepth 100000
open Go.RowKit
def OwnZ (w : World) (g N : Nat) (l : List Int) : Prop := Bk w g (l ++ zs (N - l.length)) ∧ l.length ≤ N
theorem OwnZ.on {w w' : World} {g N : Nat} {l : List Int} (h : OwnZ w g N l) (hb : Below w.heap.size w w') : OwnZ w' g N l := ⟨h.1.on hb, h.2⟩
theorem OwnZ.owns {w : World} {g N : Nat} {l : List Int} (h : OwnZ w g N l) (hN : N ≤ 140737488355328) : OwnB w 0 (.slice (some ⟨g, 0, none⟩) l.length N) l := by
 obtain ⟨h1, h2⟩ := h
 refine ⟨by simp [By], .inr ⟨g, N, _, rfl, Nat.zero_le _, h1, h2, by unfold maxLen; omega, ?_, ?_⟩⟩
 ·simp [By, zs_length]
  omega
 ·simp [By]
theorem app_z {ops : Array Oper} {rest : List Oper} {o : Oper} {a : Act} {Q : Exit → Act → World → Prop} (w : World) (hgd : o.guard = none) (s x : Operand)
  (ho : o.op = .call { callee := .builtin .append, args := #[s, x], argTypes := #[25, 25] }) (g N : Nat) (l news : List Int) (L : Nat) (ao : Option Addr) (n c : Nat) (hL : l.length = L) (hs : a.eval s = .slice (some ⟨g, 0, none⟩) L N) (hx : a.eval x = .slice ao n c)
  (hz : OwnZ w g N l) (hsl : Sl w ao n c news) (hroom : L + n ≤ N) (hN : N ≤ 140737488355328)
  (h : ∀ w', Hid (OwnZ w' g N (l ++ news)) → Hid (Cf (· = g) w w') → wpList Tryz.prog ops Q rest (a.put o.dst (.slice (some ⟨g, 0, none⟩) (L + n) N)) w') : wpList Tryz.prog ops Q (o :: rest) a w := by
 obtain ⟨i0, hi, hz0, hz1, hz2⟩ := info_parts info5
 have hlen := hsl.hlen
 subst hL
 cases ao with
 | none =>
  have : n = 0 := by have := hsl.hnil rfl; have := hsl.hcap; omega
  subst this
  have hc0 := hsl.hnil rfl
  subst hc0
  obtain rfl : news = [] := List.eq_nil_of_length_eq_zero hlen
  exact wpList_append_own_none hgd s x 25 ho 0 5 i0 1 Tryz.underlying25 hi _ l.length (By l) hs (hz.owns hN) hx (h w (hidden (by simpa using hz)) (hidden (Cf.refl _ _)))
 | some ad =>
  refine wpList_plain hgd fun K hK => ?_
  have hr := run_append_room (P := Tryz.prog) w 25 o.type 5 i0 Tryz.underlying25 hi g l.length N _ hz.1 ad n c (By news) (by rw [hz1]; simp [By, hlen])
   (fun j u hu => by
    obtain ⟨h1, h2⟩ := getElem?_By news j u hu
    rw [h2]
    rcases hsl.hat with h0 | ⟨b, off, e, _, hc⟩
    ·omega
    ·injection e with e
     subst e
     rw [Addr.add_lit]
     exact hc j (by omega)) (By_one news) hroom (by rw [hz1]; simp only [By, List.length_map, List.size_toArray, List.length_append, zs_length, Nat.mul_one]; omega)
  have hfin : ∀ w', w' = w.setRow g ((By (l ++ zs (N - l.length))).toArray.toList.take (l.length * i0.size) ++ By news ++ (By (l ++ zs (N - l.length))).toArray.toList.drop (l.length * i0.size + (By news).length)).toArray → Hid (OwnZ w' g N (l ++ news)) ∧ Hid (Cf (· = g) w w') := by
   rintro w' rfl
   refine ⟨hidden ⟨?_, by rw [List.length_append]; omega⟩, hidden ⟨rfl, rfl, rfl, by simp, fun k _ hk => setRow_other w g k _ hk⟩⟩
   unfold Bk
   rw [setRow_heap w g _ _ 5 _ hz.1]
   congr 3
   rw [hz1, Nat.mul_one]
   have e1 : (By (l ++ zs (N - l.length))).take l.length = By l := by simp [By]
   have e2 : (By (l ++ zs (N - l.length))).drop (l.length + news.length) = By (zs (N - (l ++ news).length)) := by
    simp only [By, List.map_append, List.length_append]
    rw [← List.drop_drop, List.drop_left' (by simp)]
    simp only [zs, List.map_replicate, List.drop_replicate]
    congr 1
    omega
   simp only [By_length]
   rw [e1, e2]
   simp [By]
  unfold Oper.wp execOp
  simp only [ho, resolve, invoke, builtin, Sem.run_bind, Sem.run_pure, Result.andThen_ok, List.map_toArray, List.map_cons, List.map_nil, hs, hx, hr]
  exact hK _ _ (h _ (hfin _ rfl).1 (hfin _ rfl).2)
theorem fB2_sl (w : World) (n : Nat) (hn : n < 65536) : Sl (w.alloc (.cells #[.int .u8 ((n : Int) / 256), .int .u8 ((n : Int) % 256)] 5)) (some ⟨w.heap.size, 0, none⟩) 2 2 (fB 2 (n : Int)) := by
 rw [← short_fB n, show (n : Int) / 256 % 256 = (n : Int) / 256 by omega]
 refine ⟨rfl, Nat.le_refl _, by omega, Wf.cons (by omega) (Wf.cons (by omega) Wf.nil), (by intro h; cases h), .inr ⟨w.heap.size, 0, rfl, by simp, fun i hi => ?_⟩⟩
 have hi' : i = 0 ∨ i = 1 := by omega
 rcases hi' with rfl | rfl <;> simp
set_option maxHeartbeats 1000000 in
theorem withShort_z (g N : Nat) (l : List Int) (L n : Nat) (w : World) (hL : l.length = L) (hz : OwnZ w g N l) (hn : n < 65536) (hroom : L + 2 ≤ N) (hN : N ≤ 65536) :
  Calls Tryz.prog 130 #[.slice (some ⟨g, 0, none⟩) L N, .int .i64 (n : Int)] w fun e w' => e = .returned (.slice (some ⟨g, 0, none⟩) (L + 2) N) ∧ Hid (OwnZ w' g N (l ++ fB 2 (n : Int))) ∧ Hid (Cf (· = g) w w') := by
 obtain ⟨x, hx⟩ : ∃ x, w.alloc (.cells #[.int .u8 ((n : Int) / 256), .int .u8 ((n : Int) % 256)] 5) = x := ⟨_, rfl⟩
 have hbx : Below w.heap.size w x := by rw [← hx]; exact bl_al (Below.refl _ _) (Nat.le_refl _) _
 have HS : Hid (Sl x (some ⟨w.heap.size, 0, none⟩) 2 2 (fB 2 (n : Int))) := hidden (by rw [← hx]; exact fB2_sl w n hn)
 have HZ := hidden (hz.on hbx)
 have HC : Hid (Cf (· = g) w x) := hidden (Cf.of_below hbx)
 have w1 : IntKind.u8.wrap ((n : Int) / 256) = (n : Int) / 256 := by rw [IntKind.wrap_u8]; omega
 have w2 : IntKind.u8.wrap (n : Int) = (n : Int) % 256 := by rw [IntKind.wrap_u8]
 clear hz hbx
 go_enter Tryz.func130, Tryz.ntmps130
 go_wp2_with (at_builtin; refine app_z _ rfl _ _ rfl g N l (fB 2 (n : Int)) L (some ⟨w.heap.size, 0, none⟩) 2 2 hL rfl rfl HZ.out HS.out hroom (by omega) ?_; refine Hid.out ?_)
 apply hidden
 intro w3 HO3 HC3
 go_wp2
 go_ret
 exact ⟨rfl, HO3, hidden (HC.out.go HC3.out)⟩
end Go.Proofs.YtlhkinlgolcpaaaGreatDoor
