import Derived.Test.YtjpmfgoodcldcaaGreatDoorJ11
namespace Go.Proofs.YtjpmfgoodcldcaaGreatDoor
set_option maxRecDepth 100000
open Go.RowKit
structure SlN (w : World) (ao : Option Addr) (n cap : Nat) (l : List Nat) : Prop where
 hlen : l.length = n
 hcap : n ≤ cap
 hroom : n ≤ 140737488355328
 hnil : ao = none → cap = 0
 hat : n = 0 ∨ ∃ b off, ao = some ⟨b, off, none⟩ ∧ b < w.heap.size ∧ ∀ i, i < n → w.cell? ⟨b, off + i, none⟩ = some (.int .i64 ((l.getD i 0 : Nat) : Int))
theorem SlN.on {w w' : World} {ao : Option Addr} {n cap : Nat} {l : List Nat} (h : SlN w ao n cap l) (hb : Below w.heap.size w w') : SlN w' ao n cap l := by
 refine ⟨h.hlen, h.hcap, h.hroom, h.hnil, ?_⟩
 rcases h.hat with h0 | ⟨b, off, e, hlt, hc⟩
 ·exact .inl h0
 ·exact .inr ⟨b, off, e, Nat.lt_of_lt_of_le hlt hb.size, fun i hi => (hb.cell (p := ⟨b, off + i, none⟩) hlt).trans (hc i hi)⟩
structure PgAt (w : World) (a : Nat) (k : Int) (n : Nat) (bo : Option Addr) (bn bc : Nat) (so : Option Addr) (sn sc : Nat) (cs : List Cl) : Prop where
 row : w.heap[a]? = some (.cells #[.int .i64 k, .int .i64 (n : Int), .slice bo bn bc, .slice so sn sc] 116 (0, 0))
 body : Sl w bo bn bc (bdy cs)
 starts : SlN w so sn sc (sts 0 cs)
theorem PgAt.on {w w' : World} {a : Nat} {k : Int} {n : Nat} {bo : Option Addr} {bn bc : Nat} {so : Option Addr} {sn sc : Nat} {cs : List Cl} (h : PgAt w a k n bo bn bc so sn sc cs) (hb : Below w.heap.size w w') : PgAt w' a k n bo bn bc so sn sc cs :=
 ⟨box_on h.row hb, h.body.on (Nat.le_refl _) hb, h.starts.on hb⟩
theorem PgAt.cells {w : World} {a : Nat} {k : Int} {n : Nat} {bo : Option Addr} {bn bc : Nat} {so : Option Addr} {sn sc : Nat} {cs : List Cl} (h : PgAt w a k n bo bn bc so sn sc cs) :
  w.cell? ⟨a, 0, none⟩ = some (.int .i64 k) ∧ w.cell? ⟨a, 1, none⟩ = some (.int .i64 (n : Int)) ∧ w.cell? ⟨a, 2, none⟩ = some (.slice bo bn bc) ∧ w.cell? ⟨a, 3, none⟩ = some (.slice so sn sc) := by
 refine ⟨?_, ?_, ?_, ?_⟩
 ·rw [cell_of_row _ _ 0 _ _ _ h.row]; rfl
 ·rw [cell_of_row _ _ 1 _ _ _ h.row]; rfl
 ·rw [cell_of_row _ _ 2 _ _ _ h.row]; rfl
 ·rw [cell_of_row _ _ 3 _ _ _ h.row]; rfl
theorem PgAt.sn_eq {w : World} {a : Nat} {k : Int} {n : Nat} {bo : Option Addr} {bn bc : Nat} {so : Option Addr} {sn sc : Nat} {cs : List Cl} (h : PgAt w a k n bo bn bc so sn sc cs) : sn = cs.length ∧ bn = (bdy cs).length :=
 ⟨by rw [← h.starts.hlen, sts_length], h.body.hlen.symm⟩
theorem PgAt.lt {w : World} {a : Nat} {k : Int} {n : Nat} {bo : Option Addr} {bn bc : Nat} {so : Option Addr} {sn sc : Nat} {cs : List Cl} (h : PgAt w a k n bo bn bc so sn sc cs) : a < w.heap.size := lt_some h.row
theorem fB2 (x : Int) : fB 2 x = [x / 256 % 256, x % 256] := by simp [fB]
theorem putShort_any (w : World) (g n p : Nat) (L : List Int) (x : Int) (hb : Bk w g L) (hL : L.length = n) (hp : p + 2 ≤ n) (hn : n ≤ 65536) :
  Calls Tryz.prog 106 #[.slice (some ⟨g, 0, none⟩) n n, .int .i64 (p : Int), .int .i64 x] w fun e w' => e = .returned (.tuple #[]) ∧ w' = (w.setCell ⟨g, p, none⟩ (.int .u8 (x / 256 % 256))).setCell ⟨g, p + 1, none⟩ (.int .u8 (x % 256)) := by
 have c0 := hb.cell p (by omega)
 have c1 := hb.cell (p + 1) (by omega)
 have f0 := hb.free p
 have f1 := hb.free (p + 1)
 have p0 : (p : Int) < (n : Int) := by omega
 have p1 : (p : Int) + 1 < (n : Int) := by omega
 have p2 : p < n := by omega
 have p3 : p + 1 < n := by omega
 clear hb
 generalize L.getD p 0 = y0 at *
 generalize L.getD (p + 1) 0 = y1 at *
 go_enter Tryz.func106, Tryz.ntmps106
 go_wp2
 go_returns
 exact ⟨rfl, rfl⟩
theorem Bk.short {w : World} {g p : Nat} {L : List Int} (h : Bk w g L) (x y : Int) : Bk ((w.setCell ⟨g, p, none⟩ (.int .u8 x)).setCell ⟨g, p + 1, none⟩ (.int .u8 y)) g ((L.set p x).set (p + 1) y) := by
 unfold Bk at *
 have h1 := set_row (i := p) (u := .int .u8 x) h
 have h2 := set_row (i := p + 1) (u := .int .u8 y) h1
 rw [h2]
 simp [By, List.map_set]
theorem or_short (a b : Int) (ha : 0 ≤ a ∧ a ≤ 255) (hb : 0 ≤ b ∧ b ≤ 255) : bits .or .i64 (a * 256) b = a * 256 + b := by
 obtain ⟨x, rfl⟩ := Int.eq_ofNat_of_zero_le ha.1
 obtain ⟨y, rfl⟩ := Int.eq_ofNat_of_zero_le hb.1
 show IntKind.i64.wrap ((BitVec.ofInt 64 ((x : Int) * 256) ||| BitVec.ofInt 64 (y : Int)).toNat : Nat) = _
 have h1 : (BitVec.ofInt 64 ((x : Int) * 256)).toNat = 2 ^ 8 * x := by rw [BitVec.toNat_ofInt]; omega
 have h2 : (BitVec.ofInt 64 (y : Int)).toNat = y := by rw [BitVec.toNat_ofInt]; omega
 rw [BitVec.toNat_or, h1, h2, ← Nat.two_pow_add_eq_or_of_lt (show y < 2 ^ 8 by omega), IntKind.wrap_i64]
 omega
theorem rdN2 (l : List Int) (p : Nat) (h : p + 2 ≤ l.length) : rdN l p 2 = l.getD p 0 * 256 + l.getD (p + 1) 0 := by
 unfold rdN
 rw [drop_cons l p (by omega), drop_cons l (p + 1) (by omega)]
 simp [rdB]
theorem shortAt_any (w : World) (ao : Option Addr) (n cap p : Nat) (l : List Int) (hs : Sl w ao n cap l) (hp : p + 2 ≤ n) :
  Calls Tryz.prog 112 #[.slice ao n cap, .int .i64 (p : Int)] w fun e w' => e = .returned (.int .i64 (rdN l p 2)) ∧ ∃ q, w' = w.drewN q := by
 have hlen := hs.hlen
 have hr := hs.hroom
 rw [rdN2 l p (by omega)]
 rcases hs.hat with h | ⟨b, off, rfl, hb, hc⟩
 ·omega
 obtain ⟨p', hp'⟩ : ∃ p', p + 1 = p' := ⟨_, rfl⟩
 have hpI : (p : Int) + 1 = (p' : Int) := by omega
 have c0 := hc p (by omega)
 have c1 := hc p' (by omega)
 have y0 := hs.wf.getD p
 have y1 := hs.wf.getD p'
 have p0 : (p : Int) < (n : Int) := by omega
 have p1 : (p' : Int) < (n : Int) := by omega
 have p2 : p < n := by omega
 have p3 : p' < n := by omega
 clear hc hs
 rw [hp']
 clear hp'
 generalize l.getD p 0 = a at *
 generalize l.getD p' 0 = c at *
 have ho := or_short a c y0 y1
 have hw0 : IntKind.i64.wrap a = a := by rw [IntKind.wrap_i64]; omega
 have hw1 : IntKind.i64.wrap c = c := by rw [IntKind.wrap_i64]; omega
 have hw : IntKind.i64.wrap (a * 256) = a * 256 := by rw [IntKind.wrap_i64]; omega
 go_enter Tryz.func112, Tryz.ntmps112
 go_wp2_with fail
 go_quiet (fail)
 go_wp2
 go_ret
 exact ⟨rfl, _, rfl⟩
end Go.Proofs.YtjpmfgoodcldcaaGreatDoor
