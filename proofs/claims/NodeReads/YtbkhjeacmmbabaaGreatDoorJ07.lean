import Derived.Test.YtbkhjeacmmbabaaGreatDoorJ04
import Derived.Deep.RegionLaw
namespace Go.Proofs.YtbkhjeacmmbabaaGreatDoor
set_option maxRecDepth 100000
open Go.RowKit
structure SlN (w : World) (ao : Option Addr) (n cap : Nat) (l : List Nat) : Prop where
 hlen : l.length = n
 hcap : n ≤ cap
 hroom : n ≤ 140737488355328
 hnil : ao = none → cap = 0
 hat : n = 0 ∨ ∃ b off, ao = some ⟨b, off, none⟩ ∧ b < w.heap.size ∧ ∀ i, i < n → w.cell? ⟨b, off + i, none⟩ = some (.int .i64 ((l.getD i 0 : Nat) : Int))
theorem SlN.on {w w' : World} {ao : Option Addr} {n cap : Nat} {l : List Nat} (h : SlN w ao n cap l) (hb : Below w.heap.size w w') : SlN w' ao n cap l := by
 refine ⟨h.hlen, h.hcap, h.hroom, h.hnil, ?_⟩
 rcases h.hat with h0 | ⟨b, off, e, A, hc⟩
 ·exact .inl h0
 ·exact .inr ⟨b, off, e, zO A hb.size, fun i hi => (hb.cell (p := ⟨b, off + i, none⟩) A).trans (hc i hi)⟩
structure PgAt (w : World) (a : Nat) (k : Int) (n : Nat) (bo : Option Addr) (bn bc : Nat) (so : Option Addr) (sn sc : Nat) (cs : List Cl) : Prop where
 row : w.heap[a]? = some (.cells #[.int .i64 k, .int .i64 (n : Int), .slice bo bn bc, .slice so sn sc] 118 (0, 0))
 body : Sl w bo bn bc (bdy cs)
 starts : SlN w so sn sc (sts 0 cs)
theorem PgAt.on {w w' : World} {a : Nat} {k : Int} {n : Nat} {bo : Option Addr} {bn bc : Nat} {so : Option Addr} {sn sc : Nat} {cs : List Cl} (h : PgAt w a k n bo bn bc so sn sc cs) (hb : Below w.heap.size w w') : PgAt w' a k n bo bn bc so sn sc cs :=
 ⟨zag h.row hb, h.body.on Lr hb, h.starts.on hb⟩
theorem PgAt.cells {w : World} {a : Nat} {k : Int} {n : Nat} {bo : Option Addr} {bn bc : Nat} {so : Option Addr} {sn sc : Nat} {cs : List Cl} (h : PgAt w a k n bo bn bc so sn sc cs) :
  w.cell? ⟨a, 0, none⟩ = some (.int .i64 k) ∧ w.cell? ⟨a, 1, none⟩ = some (.int .i64 (n : Int)) ∧ w.cell? ⟨a, 2, none⟩ = some (.slice bo bn bc) ∧ w.cell? ⟨a, 3, none⟩ = some (.slice so sn sc) := by
 refine ⟨?_, ?_, ?_, ?_⟩
 ·rw [cell_of_row _ _ 0 _ _ _ h.row]; rfl
 ·rw [cell_of_row _ _ 1 _ _ _ h.row]; rfl
 ·rw [cell_of_row _ _ 2 _ _ _ h.row]; rfl
 ·rw [cell_of_row _ _ 3 _ _ _ h.row]; rfl
theorem PgAt.sn_eq {w : World} {a : Nat} {k : Int} {n : Nat} {bo : Option Addr} {bn bc : Nat} {so : Option Addr} {sn sc : Nat} {cs : List Cl} (h : PgAt w a k n bo bn bc so sn sc cs) : sn = cs.length ∧ bn = (bdy cs).length :=
 ⟨by rw [← h.starts.hlen, zak], h.body.hlen.symm⟩
theorem PgAt.lt {w : World} {a : Nat} {k : Int} {n : Nat} {bo : Option Addr} {bn bc : Nat} {so : Option Addr} {sn sc : Nat} {cs : List Cl} (h : PgAt w a k n bo bn bc so sn sc cs) : a < w.heap.size := zaf h.row
theorem fB2 (x : Int) : fB 2 x = [x / 256 % 256, x % 256] := by simp [fB]
theorem putShort_any (w : World) (g n p : Nat) (L : List Int) (x : Int) (hb : Bk w g L) (hL : L.length = n) (hp : p + 2 ≤ n) (hn : n ≤ 65536) :
  Calls Tryz.prog 116 #[.slice (some ⟨g, 0, none⟩) n n, .int .i64 (p : Int), .int .i64 x] w fun e w' => e = .returned (.tuple #[]) ∧ w' = (w.setCell ⟨g, p, none⟩ (.int .u8 (x / 256 % 256))).setCell ⟨g, p + 1, none⟩ (.int .u8 (x % 256)) := by
 have c0 := hb.cell p zq
 have c1 := hb.cell (p + 1) zq
 have f0 := hb.free p
 have f1 := hb.free (p + 1)
 have p0 : (p : Int) < (n : Int) := zq
 have p1 : (p : Int) + 1 < (n : Int) := zq
 have p2 : p < n := zq
 have p3 : p + 1 < n := zq
 clear hb
 generalize L.getD p 0 = y0 at *
 generalize L.getD (p + 1) 0 = y1 at *
 go_enter Tryz.func116, Tryz.ntmps116
 go_wp2
 go_returns
 exact ⟨rfl, rfl⟩
theorem Bk.short {w : World} {g p : Nat} {L : List Int} (h : Bk w g L) (x y : Int) : Bk ((w.setCell ⟨g, p, none⟩ (.int .u8 x)).setCell ⟨g, p + 1, none⟩ (.int .u8 y)) g ((L.set p x).set (p + 1) y) := by
 unfold Bk at *
 have h1 := zau (i := p) (u := .int .u8 x) h
 have h2 := zau (i := p + 1) (u := .int .u8 y) h1
 rw [h2]
 simp [By, List.map_set]
theorem or_short (a b : Int) (ha : 0 ≤ a ∧ a ≤ 255) (hb : 0 ≤ b ∧ b ≤ 255) : bits .or .i64 (a * 256) b = a * 256 + b := by
 obtain ⟨x, rfl⟩ := Int.eq_ofNat_of_zero_le ha.1
 obtain ⟨y, rfl⟩ := Int.eq_ofNat_of_zero_le hb.1
 show IntKind.i64.wrap ((BitVec.ofInt 64 ((x : Int) * 256) ||| BitVec.ofInt 64 (y : Int)).toNat : Nat) = _
 have h1 : (BitVec.ofInt 64 ((x : Int) * 256)).toNat = 2 ^ 8 * x := by rw [BitVec.toNat_ofInt]; omega
 have h2 : (BitVec.ofInt 64 (y : Int)).toNat = y := by rw [BitVec.toNat_ofInt]; omega
 rw [BitVec.toNat_or, h1, h2, ← Nat.two_pow_add_eq_or_of_lt (show y < 2 ^ 8 by omega), IntKind.wrap_i64]
 omega
theorem rdN2 (l : List Int) (p : Nat) (h : p + 2 ≤ l.length) : rdN l p 2 = l.getD p 0 * 256 + l.getD (p + 1) 0 := by
 unfold rdN
 rw [zbu l p zq, zbu l (p + 1) zq]
 simp [rdB]
theorem shortAt_any (w : World) (ao : Option Addr) (n cap p : Nat) (l : List Int) (hs : Sl w ao n cap l) (hp : p + 2 ≤ n) :
  Calls Tryz.prog 121 #[.slice ao n cap, .int .i64 (p : Int)] w fun e w' => e = .returned (.int .i64 (rdN l p 2)) ∧ ∃ q, w' = w.drewN q := by
 have A := hs.hlen
 have hr := hs.hroom
 rw [rdN2 l p zq]
 rcases hs.hat with h | ⟨b, off, rfl, hb, hc⟩
 ·omega
 obtain ⟨p', hp'⟩ : ∃ p', p + 1 = p' := ⟨_, rfl⟩
 have B : (p : Int) + 1 = (p' : Int) := zq
 have c0 := hc p zq
 have c1 := hc p' zq
 have y0 := hs.wf.getD p
 have y1 := hs.wf.getD p'
 have p0 : (p : Int) < (n : Int) := zq
 have p1 : (p' : Int) < (n : Int) := zq
 have p2 : p < n := zq
 have p3 : p' < n := zq
 clear hc hs
 rw [hp']
 clear hp'
 generalize l.getD p 0 = a at *
 generalize l.getD p' 0 = c at *
 have ho := or_short a c y0 y1
 have C : IntKind.i64.wrap a = a := by rw [IntKind.wrap_i64]; omega
 have D : IntKind.i64.wrap c = c := by rw [IntKind.wrap_i64]; omega
 have hw : IntKind.i64.wrap (a * 256) = a * 256 := by rw [IntKind.wrap_i64]; omega
 go_enter Tryz.func121, Tryz.ntmps121
 go_wp2_with fail
 go_quiet (fail)
 go_wp2
 go_ret
 exact ⟨rfl, _, rfl⟩
theorem lay0 (k : Int) (n : Nat) (cs : List Cl) (hn : 4 ≤ n) (x y : Int) (A : [x, y] = fB 2 cs.length) : ((((zs n).set 0 k).set 1 1).set 2 x).set 3 y = layP k n cs 0 := by
 have e : zs n = [0, 0, 0, 0] ++ zs (n - 4) := by
  conv => lhs; rw [show n = 4 + (n - 4) by omega, zs_add]
  rfl
 unfold layP
 rw [e, ← A]
 simp [sloB]
theorem layP_length (k : Int) (n : Nat) (cs : List Cl) (i : Nat) (hi : i ≤ cs.length) (hf : szN cs ≤ n) : (layP k n cs i).length = n := by
 have := zaw cs
 simp only [layP, zG, List.length_cons, List.length_nil, zah, zbl, zJ, zak, zbc]
 omega
theorem lay_body (k : Int) (n : Nat) (cs : List Cl) (hf : szN cs ≤ n) : splice (layP k n cs cs.length) (n - 4 - (bdy cs).length) (bdy cs) = pgH k n cs ++ zs 4 := by
 have hz := zaw cs
 obtain ⟨F, hF⟩ : ∃ F, n - 4 - (bdy cs).length = F := ⟨_, rfl⟩
 unfold layP pgH
 rw [hF, List.take_of_length_le (by rw [zak]; exact Lr), show n - 4 - 2 * cs.length = (n - szN cs) + ((bdy cs).length + 4) by omega, zs_add, zs_add]
 have := splice_mid ([k, 1] ++ (fB 2 cs.length ++ (sloB (sts F cs) ++ zs (n - szN cs)))) (zs (bdy cs).length) (bdy cs) (zs 4) F (by
  simp only [zG, List.length_cons, List.length_nil, zah, zbl, zak, zbc]
  omega) (zbc _)
 simp only [zM] at this ⊢
 exact this
theorem lay_seal (k : Int) (n : Nat) (cs : List Cl) (hf : szN cs ≤ n) : splice (pgH k n cs ++ zs 4) (n - 4) (fB 4 (sumN [pgH k n cs])) = pgB k n cs := by
 have := splice_mid (pgH k n cs) (zs 4) (fB 4 (sumN [pgH k n cs])) [] (n - 4) (pgH_length k n cs hf) (by rw [zbc, zah])
 simpa [pgB, sealB] using this
def BytesTo (l : List Int) (n : Nat) (w : World) (e : Ending) (w' : World) : Prop := ∃ g, e = .returned (.slice (some ⟨g, 0, none⟩) n n) ∧ w.heap.size ≤ g ∧ Hid (Bk w' g l) ∧ Hid (Below w.heap.size w w')
set_option maxHeartbeats 2000000 in
theorem bytes_any (w : World) (a : Nat) (k : Int) (n : Nat) (bo : Option Addr) (bn bc : Nat) (so : Option Addr) (sn sc : Nat) (cs : List Cl) (h : PgAt w a k n bo bn bc so sn sc cs) (hk : isKd k) (hn : pw n) (hf : szN cs ≤ n) (ht : Tab w) (h0 : 1 < w.heap.size) (B5 : ∀ c ∈ cs, c.Wf) :
  Calls Tryz.prog 74 #[.pointer (some ⟨a, 0, none⟩)] w fun e w' => BytesTo (pgB k n cs) n w e w' := by
 obtain ⟨i0, hi, E0, B6, E1⟩ := info_parts info5
 have hsz : (Tryz.prog.info? 5).map (·.size) = some 1 := by rw [hi]; simp [B6]
 have Y := zas hn
 have F3 := Y.1
 have B7 := Y.2
 obtain ⟨Z, A0⟩ := h.sn_eq
 have hz := zaw cs
 rw [← Z, ← A0] at hz
 have F4 : k % 256 = k := by unfold isKd at hk; omega
 have HP := zaa h
 have HT := zaa ht
 have HK := zaa hk
 have HW := zaa B5
 have HF := zaa hf
 have K := zaa Z
 have B := zaa A0
 obtain ⟨c0, c1, c2, c3⟩ := h.cells
 obtain ⟨E, hE⟩ : ∃ E, n - 4 = E := ⟨_, rfl⟩
 have F5 : (n : Int) - 4 = (E : Int) := zq
 obtain ⟨F, B8⟩ : ∃ F, E - bn = F := ⟨_, rfl⟩
 have F6 : (E : Int) - (bn : Int) = (F : Int) := zq
 have f1 : F + bn = E := zq
 have f2 : 4 + 2 * sn ≤ F := zq
 have N := zaa hE
 have B9 := zaa B8
 clear h ht hk B5 hf hn Y hE B8 Z A0
 go_enter Tryz.func74, Tryz.ntmps74
 go_wp2_with (at_make; refine wpList_make_full _ rfl _ _ 22 rfl w.heap.size 5 i0 (.int .u8 0) 1 Tryz.underlying22 hi E0 B6 .i64 .i64 n n n rfl rfl rfl rfl (by rw [E1]; omega) zml Lr ?_; refine Hid.out ?_)
 apply zaa
 intro w1 W C0
 have A1 : Below w.heap.size w w1 := Br.grown C0 Lr (fun k hk => by cases hk)
 have A : Bk w1 w.heap.size (zs n) := by
  rcases W.2 with ⟨h, _⟩ | ⟨g, c, cur, h, _, hh, _, _, hs, hx⟩
  ·cases h
  ·cases h
   unfold Bk
   rw [hh]
   congr 2
   apply Array.toList_inj.1
   rw [toList_madeCells_one] at hx
   simp only [Nat.mul_one] at hs hx
   rw [List.take_of_length_le (by simp [hs])] at hx
   simpa [By, zs] using hx
 clear W C0
 obtain ⟨g, hg⟩ : ∃ g, w.heap.size = g := ⟨_, rfl⟩
 rw [hg] at A ⊢
 have HG : Hid (w.heap.size ≤ g) := zaa zq
 obtain ⟨d0, d1, d2, d3⟩ := (HP.out.on A1).cells
 have x0 := A.cell 0 (by rw [zbc]; omega)
 have x1 := A.cell 1 (by rw [zbc]; omega)
 have y0 := A.free 0
 have y1 := A.free 1
 have F7 : ¬ a = g := by have := HP.out.lt; omega
 obtain ⟨z0, x0⟩ : ∃ z, w1.cell? ⟨g, 0, none⟩ = some z := ⟨_, x0⟩
 obtain ⟨z1, x1⟩ : ∃ z, w1.cell? ⟨g, 1, none⟩ = some z := ⟨_, x1⟩
 have X : Bk ((w1.setCell ⟨g, 0, none⟩ (.int .u8 k)).setCell ⟨g, 1, none⟩ (.int .u8 1)) g (((zs n).set 0 k).set 1 1) := A.short k 1
 have A2 : Below w.heap.size w ((w1.setCell ⟨g, 0, none⟩ (.int .u8 k)).setCell ⟨g, 1, none⟩ (.int .u8 1)) := (A1.setCell (p := ⟨g, 0, none⟩) HG.out _).setCell (p := ⟨g, 1, none⟩) HG.out _
 obtain ⟨e0, e1, e2, e3⟩ := (HP.out.on A2).cells
 have A3 := zaa X
 have C1 := zaa A2
 have PS := zaa (putShort_any _ g n 2 _ (sn : Int) A3.out (by simp [zbc]) zq B7)
 clear A X A1 A2 hg
 go_wp2_with (go_at_call 116; refine PS.out.mono ?_; rintro e u ⟨rfl, hu⟩; have HU := zaa hu; clear hu; refine Hid.out ?_)
 apply zaa
 have C2 : Bk u g (layP k n cs 0) := by
  rw [HU.out, ← lay0 k n cs zq ((sn : Int) / 256 % 256) ((sn : Int) % 256) (by rw [K.out, fB2])]
  exact A3.out.short _ _
 have A4 : Below w.heap.size w u := by
  rw [HU.out]
  exact (C1.out.setCell (p := ⟨g, 2, none⟩) HG.out _).setCell (p := ⟨g, 3, none⟩) HG.out _
 clear HU PS A3 C1 c0 c1 c2 c3 d0 d1 d2 d3 e0 e1 e2 e3 x0 x1 y0 y1
 obtain ⟨c0, c1, c2, c3⟩ := (HP.out.on A4).cells
 go_wp2_with fail
 clear c0 c1 c2 c3
 go_loopw [44] (fun i wr => ∃ j : Nat, j ≤ sn ∧ i = .int .i64 j ∧ Hid (Bk wr g (layP k n cs j)) ∧ Hid (Below w.heap.size w wr)) (fun i _ => sn - (intOf i).toNat)
 case atStart => exact ⟨0, zq, rfl, C2, A4⟩
 case round =>
  obtain ⟨j, hj, rfl, C, HB⟩ := hrel
  clear C2 A4
  by_cases A5 : j < sn
  ·have F0 : (j : Int) < (sn : Int) := zq
   have C3 := (HP.out.on HB.out).starts
   rcases C3.hat with hx | ⟨b, off, E2, F8, C4⟩
   ·omega
   have cj := C4 j A5
   have B1 : (sts 0 cs).getD j 0 ≤ bn := by
    rw [zcb 0 j cs (by rw [← K.out]; exact A5), B.out]
    have : (bdy cs).length = (bdy (cs.take j)).length + (bdy (cs.drop j)).length := by rw [← zG, ← zbe, List.take_append_drop]
    omega
   obtain ⟨st, Q⟩ : ∃ st, (sts 0 cs).getD j 0 = st := ⟨_, rfl⟩
   rw [Q] at cj B1
   obtain ⟨pp, C6⟩ : ∃ pp, 4 + j * 2 = pp := ⟨_, rfl⟩
   have F1 : 4 + (j : Int) * 2 = (pp : Int) := zq
   obtain ⟨xx, E3⟩ : ∃ xx, F + st = xx := ⟨_, rfl⟩
   have F2 : (F : Int) + (st : Int) = (xx : Int) := zq
   have PS := zaa (putShort_any wr g n pp _ (xx : Int) C.out (layP_length k n cs j (by rw [← K.out]; omega) HF.out) zq B7)
   have C7 : Hid (Bk ((wr.setCell ⟨g, pp, none⟩ (.int .u8 ((xx : Int) / 256 % 256))).setCell ⟨g, pp + 1, none⟩ (.int .u8 ((xx : Int) % 256))) g (layP k n cs (j + 1))) := by
    rw [← layP_set k n cs j (by rw [← K.out]; exact A5) HF.out ((xx : Int) / 256 % 256) ((xx : Int) % 256) (by
     rw [← fB2, Q]
     congr 1
     have := N.out
     have := B9.out
     have := B.out
     omega), C6]
    exact zaa (C.out.short _ _)
   subst E2
   have b1 : (j : Int) ≤ 65536 := zq
   have b2 : (F : Int) ≤ 65536 := zq
   have b3 : (st : Int) ≤ 65536 := zq
   have b4 : (sn : Int) ≤ 65536 := zq
   clear C3 C4 Q C6 E3 B1 hz f1 f2
   go_wp2_with (go_at_call 116; refine PS.out.mono ?_; rintro e u' ⟨rfl, hu⟩; have HU := zaa hu; clear hu; refine Hid.out ?_)
   apply zaa
   have HB' : Hid (Below w.heap.size w u') := by
    rw [HU.out]
    exact zaa ((HB.out.setCell (p := ⟨g, pp, none⟩) HG.out _).setCell (p := ⟨g, pp + 1, none⟩) HG.out _)
   have D9 : Hid (Bk u' g (layP k n cs (j + 1))) := by rw [HU.out]; exact C7
   clear HU PS C7 HB C
   go_wp2
   go_roundw
   case rel => exact ⟨j + 1, zq, by go_num, D9, HB'⟩
   case measure => simp [intOf]; omega
  ·obtain rfl : j = sn := zq
   have F9 : ¬ (j : Int) < (j : Int) := zq
   obtain ⟨c0, c1, c2, c3⟩ := (HP.out.on HB.out).cells
   have G := zaa (HP.out.on HB.out).body
   have g1 : (F : Int) ≤ (n : Int) := zq
   have g2 : F ≤ n := zq
   have g3 : ¬ n = F := zq
   have I := zaa (lay_body k n cs HF.out)
   have O := zaa (lay_seal k n cs HF.out)
   have U : Hid (Wf (pgH k n cs)) := zaa (pgH_wf (by have := HK.out; unfold isKd at this; omega) HW.out)
   have P := zaa (pgH_length k n cs HF.out)
   have A6 := zaa (layP_length k n cs cs.length Lr HF.out)
   rw [show n - 4 - (bdy cs).length = F from by rw [← B.out, N.out, B9.out]] at I
   rw [N.out] at O P
   rw [K.out] at C
   obtain ⟨L, hL⟩ : ∃ L, layP k n cs cs.length = L := ⟨_, rfl⟩
   rw [hL] at C I A6
   obtain ⟨D, hD⟩ : ∃ D, bdy cs = D := ⟨_, rfl⟩
   rw [hD] at I G B
   obtain ⟨H, hH⟩ : ∃ H, pgH k n cs = H := ⟨_, rfl⟩
   rw [hH] at I O U P
   have B2 : Hid (∀ x : World, x.heap = wr.heap → 0 < (By D).length → ∃ ad, bo = some ad ∧ ∀ i v, (By D)[i]? = some v → x.cell? (ad.add i) = some v) := by
    refine zaa fun x hx hq => ?_
    rw [zbd, ← B.out] at hq
    rcases G.out.hat with h0 | ⟨b, off, rfl, _, _⟩
    ·omega
    ·refine ⟨_, rfl, fun i v hv => ?_⟩
     have := sl_src5 G.out i v hv
     rw [← this]
     exact World.cell?_of_block (by rw [hx])
   have C8 : Hid ((By D).length = Nat.min bn (n - F)) := zaa (by rw [zbd, ← B.out]; exact (Nat.min_eq_left zq).symm)
   have C9 : Hid (F + (By D).length ≤ (By L).length) := zaa (by rw [zbd, zbd, A6.out, ← B.out]; omega)
   have b2 : (F : Int) ≤ 65536 := zq
   have b3 : (E : Int) ≤ 65536 := zq
   have D0 : Hid (n - E = 4 ∧ E ≤ n ∧ ¬ n = E ∧ (E : Int) ≤ (n : Int)) := zaa (by have := N.out; omega)
   have A7 : Hid (Wf (H ++ zs 4) ∧ (H ++ zs 4).length = n) := zaa ⟨U.out.append (zs_wf 4), by rw [zG, P.out, zbc]; have := N.out; omega⟩
   clear hL hD hH hz f1 f2 G
   go_wp2_with fail
   go_region_law (first | (refine step_copy_splice rfl _ _ 22 22 rfl 5 Tryz.underlying22 hsz (some ⟨g, F, none⟩) bo (n - F) (n - F) bn bc rfl rfl g F (By L) 5 C.out (By D) C8.out (fun hq => ⟨rfl, B2.out _ rfl hq⟩) C9.out (zbt _) w.heap.size w (by first | exact HB.out | exact HB.out.drew | exact HB.out.drew.drew | exact HB.out.drew.drew.drew | exact zac HB.out _) HG.out ?_; intro u3 HU D3; have V := zaa D3; clear D3))
   all_goals
    have J : Hid (Bk u3 g (H ++ zs 4)) := zaa (by
     unfold Bk
     rw [HU.out, By_splice5, I.out])
    obtain ⟨q4, q2, q3, q1⟩ := D0.out
    clear HU B2 C8 C9 C HB c0 c1 c2 c3 D0 I A6 g1 g2 g3
    have G : Hid (Sl u3 (some ⟨g, 0, none⟩) E n H) := by
     refine zaa ⟨P.out, q2, zq, U.out, (by intro h; cases h), .inr ⟨g, 0, rfl, zaf J.out, fun i hi => ?_⟩⟩
     rw [Nat.zero_add, J.out.cell i (by rw [A7.out.2]; omega)]
     have : i < H.length := by rw [P.out]; exact hi
     simp [List.getD, zL this]
    have B3 := sumN_lt H U.out
    obtain ⟨SN, hS⟩ : ∃ SN, sumN [H] = SN := ⟨_, rfl⟩
    rw [hS] at B3 O
    have E4 := zaa hS
    clear hS
    have G0 : IntKind.u64.wrap ((SN : Nat) : Int) = (SN : Int) := by rw [IntKind.wrap_u64]; omega
    have D4 : Hid (Tab u3) := zaa (HT.out.on V.out h0)
    have E5 : 1 < u3.heap.size := zO h0 V.out.size
    have R : Hid (Calls Tryz.prog 118 #[.slice (some ⟨u3.heap.size, 0, none⟩) 1 1] (u3.alloc (.cells #[.slice (some ⟨g, 0, none⟩) E n] 22)).drew fun e v2 => e = .returned (.int .u32 (SN : Int)) ∧ Hid (Bk v2 g (H ++ zs 4)) ∧ Hid (Below w.heap.size w v2)) := by
     have E7 : SlS (u3.alloc (.cells #[.slice (some ⟨g, 0, none⟩) E n] 22)).drew (some ⟨u3.heap.size, 0, none⟩) 1 1 [H] := (sls_one5 u3 _ _ _ _ G.out _ rfl).drew5
     refine zaa ((sum_any _ _ _ _ _ E7 (D4.out.on (Br.alloc Lr _).drew E5)).mono ?_)
     rintro e v2 ⟨rfl, q, rfl⟩
     rw [E4.out]
     exact ⟨rfl, (Below.heap_alloc _ _ _ (zaf J.out)).trans J.out, zac (zab V.out Lr _).drew q⟩
    have A8 : Hid (∀ v, Hid (Bk v g (H ++ zs 4)) → Hid (Below w.heap.size w v) → Calls Tryz.prog 117 #[.int .u64 (SN : Int), .int .i64 4] v fun e v2 => ∃ b off c, e = .returned (.slice (some ⟨b, off, none⟩) 4 c) ∧ Hid (Sl v2 (some ⟨b, off, none⟩) 4 c (fB 4 (SN : Int))) ∧ Hid (Bk v2 g (H ++ zs 4)) ∧ Hid (Below w.heap.size w v2)) := by
     refine zaa fun v hk hv => (fixed_row (SN : Int) 4 v zq zq zq).mono ?_
     rintro e v2 ⟨b, off, c, rfl, hs, hb⟩
     exact ⟨b, off, c, rfl, hs, hk.out.on hb.out, zae hv.out Lr hb.out⟩
    have B4 : Hid ((By (fB 4 (SN : Int))).length = Nat.min 4 4) := zaa (by rw [zbd, zah]; rfl)
    have T : Hid (E + (By (fB 4 (SN : Int))).length ≤ (By (H ++ zs 4)).length) := zaa (by rw [zbd, zbd, A7.out.2, zah]; omega)
    obtain ⟨M, hM⟩ : ∃ M, H ++ zs 4 = M := ⟨_, rfl⟩
    rw [hM] at O J R A8 T
    clear hM B3 G D4 A7
    go_wp2_with fail
    go_region_law (first
     | (go_simp; go_at_call 118; refine R.out.mono ?_; rintro e v2 ⟨rfl, D5, D7⟩)
     | (go_simp; go_at_call 117; refine (A8.out _ D5 D7).mono ?_; rintro e v3 ⟨b, off, c, rfl, HS, A9, D8⟩)
     | (refine step_copy_rw rfl _ _ 22 22 rfl 5 Tryz.underlying22 hsz g E 4 4 ⟨b, off, none⟩ 4 c rfl rfl (By M) 5 A9.out (By (fB 4 (SN : Int))) B4.out (sl_src5 HS.out) T.out (zbt _) ?_; intro u4 B0))
    all_goals
     have E8 : Hid (Bk u4 g (pgB k n cs)) := zaa (by
      unfold Bk
      rw [B0.out, setRow_heap _ _ _ _ _ _ A9.out, By_splice5, O.out])
     have E9 : Hid (Below w.heap.size w u4) := zaa (by rw [B0.out]; exact below_setRow D8.out HG.out _)
     clear B0 HS A9 D8 A8 B4 T R D5 D7 J V
     go_wp2
     go_ret
     exact ⟨g, rfl, HG.out, E8, E9⟩
theorem infoI : (Tryz.prog.info? 3).map (fun i => (i.zero, i.size, i.bytes)) = some (some (.int .i64 0), 1, 8) := by kernel_rfl
def NI (l : List Nat) : List Value := l.map fun (n : Nat) => Value.int .i64 (n : Int)
theorem NI_one (l : List Nat) : ∀ u ∈ NI l, u.oneCell' = true := by
 intro u hu
 simp only [NI, List.mem_map] at hu
 obtain ⟨n, _, rfl⟩ := hu
 rfl
def OwnN (w : World) (B : Nat) (v : Value) (l : List Nat) : Prop := w.ownsRow B 3 1 v l.length (NI l)
theorem OwnN.sln {w : World} {B : Nat} {v : Value} {l : List Nat} (h' : OwnN w B v l) (hn : l.length ≤ 140737488355328) : ∃ ao cap, v = .slice ao l.length cap ∧ SlN w ao l.length cap l := by
 obtain ⟨n, hl⟩ : ∃ n, l.length = n := ⟨_, rfl⟩
 have h : w.ownsRow B 3 1 v n (NI l) := by rw [← hl]; exact h'
 rw [hl] at hn ⊢
 rcases h.2 with ⟨rfl, rfl⟩ | ⟨g, cap, cur, rfl, hg, hh, A, hm, hs, ht⟩
 ·exact ⟨none, 0, rfl, ⟨hl, Lr, zq, fun _ => rfl, .inl rfl⟩⟩
 ·refine ⟨some ⟨g, 0, none⟩, cap, rfl, ⟨hl, A, hn, (by intro h; cases h), .inr ⟨g, 0, rfl, zaf hh, ?_⟩⟩⟩
  intro i hi
  have := h.cellAt i zq
  simp only [Nat.zero_add]
  rw [this]
  simp [NI, List.getD, zI (show i < l.length by omega)]
theorem OwnN.gr {w w' : World} {B : Nat} {v : Value} {l : List Nat} {u u' : Value} (h : OwnN w B v l) (hg : Gr w u w' u') (A : v.ownBlock = none ∨ v.ownBlock ≠ u.ownBlock) : OwnN w' B v l := World.ownsRow.kept h hg.grow A
theorem OwnN.cf {w w' : World} {B : Nat} {v : Value} {l : List Nat} {r : Nat} (h : OwnN w B v l) (hc : Cf (· = r) w w') (A : v.ownBlock ≠ some r) : OwnN w' B v l :=
 World.ownsRow.kept (row := some r) h ⟨hc.os, hc.tape, hc.output, hc.size, fun k hk C => hc.block k hk (fun e => C (by rw [e]))⟩ (.inr A)
theorem OwnN.below {w w' : World} {B : Nat} {v : Value} {l : List Nat} (h : OwnN w B v l) (hb : Below w.heap.size w w') : OwnN w' B v l := h.gr (Gr.ofBelow (.slice none 0 0) hb) (by
 cases hv : v.ownBlock with
 | none => exact .inl rfl
 | some k => exact .inr zsv)
theorem OwnN.apart {w : World} {B : Nat} {v : Value} {l : List Nat} (h : OwnN w B v l) {g : Nat} {xs : Array Value} {t : TypeId} {fr : Nat × Nat} (hg : w.heap[g]? = some (.cells xs t fr)) (ht : t ≠ 3) : v.ownBlock ≠ some g := by
 intro e
 unfold OwnN at h
 rcases h.2 with ⟨rfl, _⟩ | ⟨q, cap, cur, rfl, _, hh, _⟩
 ·cases e
 ·simp only [Value.ownBlock, Option.some.injEq] at e
  subst e
  rw [hg] at hh
  simp at hh
  exact ht hh.2.1
theorem step_appN {ops : Array Oper} {o : Oper} {a : Act} {w : World} {K : Act → World → Prop} {Q : Exit → Act → World → Prop} {E : Prop} (F : o.guard = none) (s x : Operand)
  (ho : o.op = .call { callee := .builtin .append, args := #[s, x], argTypes := #[116, 116] }) (B : Nat) (l : List Nat) (y : Nat) (v : Value) (g : Nat) (hs : a.eval s = v) (hx : a.eval x = .slice (some ⟨g, 0, none⟩) 1 1)
  (C : OwnN w B v l) (hy : w.cell? ⟨g, 0, none⟩ = some (.int .i64 (y : Int))) (hb : l.length + 1 ≤ 1000000) (A : B ≤ w.heap.size)
  (h : ∀ v' w', OwnN w' B v' (l ++ [y]) → Gr w v w' v' → K (a.put o.dst v') w') :
  if Region.wanted o (yielded ops a.tmps) = true then Oper.wp Tryz.prog o a w K Q else E := by
 have hw : Region.wanted o (yielded ops a.tmps) = true := by simp [Region.wanted, F]
 rw [if_pos hw]
 obtain ⟨i0, hi, G, H, I⟩ := info_parts infoI
 obtain ⟨v', w', hr, h1, h2, _, h4⟩ := run_append_own_at (P := Tryz.prog) w B 116 o.type 3 i0 (.int .i64 0) 1 8 Tryz.underlying116 hi G H I rfl zd v l.length (NI l) C ⟨g, 0, none⟩ 1 1 (NI [y]) (by simp [NI])
  (fun j u hu => by
   have h1 : j < 1 := by have := (zH.1 hu).1; simpa [NI] using this
   obtain rfl : j = 0 := zq
   simp [NI] at hu
   rw [← hu]
   simpa [Addr.add] using hy) (NI_one [y]) zml zq A
 have D := h v' w' (by unfold OwnN; rw [show NI (l ++ [y]) = NI l ++ NI [y] from by simp [NI], zG]; exact h1) ⟨h2, h4.imp id fun e => ⟨_, e, Lr⟩⟩
 unfold Oper.wp
 simp [execOp, ho, resolve, invoke, builtin, hs, hx, hr, Result.andThen]
 exact D
def PR (w : World) (a : Nat) (k : Int) (n : Nat) (vb vs : Value) : Prop := w.heap[a]? = some (.cells #[.int .i64 k, .int .i64 (n : Int), vb, vs] 118 (0, 0))
theorem PR.cells {w : World} {a : Nat} {k : Int} {n : Nat} {vb vs : Value} (h : PR w a k n vb vs) : w.cell? ⟨a, 0, none⟩ = some (.int .i64 k) ∧ w.cell? ⟨a, 1, none⟩ = some (.int .i64 (n : Int)) ∧ w.cell? ⟨a, 2, none⟩ = some vb ∧ w.cell? ⟨a, 3, none⟩ = some vs := by
 unfold PR at h
 refine ⟨?_, ?_, ?_, ?_⟩
 ·rw [cell_of_row _ _ 0 _ _ _ h]; rfl
 ·rw [cell_of_row _ _ 1 _ _ _ h]; rfl
 ·rw [cell_of_row _ _ 2 _ _ _ h]; rfl
 ·rw [cell_of_row _ _ 3 _ _ _ h]; rfl
theorem PR.free {w : World} {a : Nat} {k : Int} {n : Nat} {vb vs : Value} (h : PR w a k n vb vs) (i : Nat) : w.frozen? ⟨a, i, none⟩ = false := by
 unfold PR at h
 simp [World.frozen?, h]
theorem PR.set3 {w : World} {a : Nat} {k : Int} {n : Nat} {vb vs : Value} (h : PR w a k n vb vs) (v : Value) : PR (w.setCell ⟨a, 3, none⟩ v) a k n vb v := by
 unfold PR at *
 simpa using zau (w := w) (a := a) (i := 3) (cs := [.int .i64 k, .int .i64 (n : Int), vb, vs]) (u := v) h
theorem PR.set2 {w : World} {a : Nat} {k : Int} {n : Nat} {vb vs : Value} (h : PR w a k n vb vs) (v : Value) : PR (w.setCell ⟨a, 2, none⟩ v) a k n v vs := by
 unfold PR at *
 simpa using zau (w := w) (a := a) (i := 2) (cs := [.int .i64 k, .int .i64 (n : Int), vb, vs]) (u := v) h
theorem PR.cf {w w' : World} {a : Nat} {k : Int} {n : Nat} {vb vs : Value} {F : Nat → Prop} (h : PR w a k n vb vs) (hc : Cf F w w') (hf : ¬ F a) : PR w' a k n vb vs := (hc.block a (zaf h) hf).trans h
theorem Bk.cf {w w' : World} {g : Nat} {l : List Int} {F : Nat → Prop} (h : Bk w g l) (hc : Cf F w w') (hf : ¬ F g) : Bk w' g l := (hc.block g (zaf h) hf).trans h
theorem Cf.ofGr {w w' : World} {v v' : Value} {F : Nat → Prop} (h : Gr w v w' v') (hf : ∀ g, v.ownBlock = some g → F g) : Cf F w w' := ⟨h.grow.os, h.grow.tape, h.grow.output, h.grow.size, fun k hk A => h.grow.block k hk (fun e => A (hf k e.symm))⟩
structure Pt (w u : World) (a rr : Nat) (k : Int) (n gb bn : Nat) (body : List Int) (vs : Value) (st : List Nat) (p : Nat) : Prop where
 row : PR u a k n (.slice (some ⟨gb, 0, none⟩) bn bn) vs
 bk : Bk u gb body
 rd : Rd u rr (some ⟨gb, 0, none⟩) bn bn p false
 own : OwnN u w.heap.size vs st
 cf : Cf (· = a) w u
 hp : p ≤ bn
 hr : rr = w.heap.size
theorem Pt.types {w u : World} {a rr : Nat} {k : Int} {n gb bn : Nat} {body : List Int} {vs : Value} {st : List Nat} {p : Nat} (h : Pt w u a rr k n gb bn body vs st p) : a ≠ gb ∧ a ≠ rr ∧ gb ≠ rr ∧ vs.ownBlock ≠ some a ∧ vs.ownBlock ≠ some gb ∧ vs.ownBlock ≠ some rr := by
 have h1 := h.row
 have h2 := h.bk
 have h3 := h.rd
 unfold PR at h1
 unfold Bk at h2
 unfold Rd at h3
 refine ⟨?_, ?_, ?_, h.own.apart h1 zd, h.own.apart h2 zd, h.own.apart h3 zd⟩
 ·rintro rfl; rw [h1] at h2; simp at h2
 ·rintro rfl; rw [h1] at h3; simp at h3
 ·rintro rfl; rw [h2] at h3; simp at h3
theorem Pt.put {w u v : World} {a rr : Nat} {k : Int} {n gb bn : Nat} {body : List Int} {vs vs' : Value} {st : List Nat} {p : Nat} (h : Pt w u a rr k n gb bn body vs st p) {x : World} (hx : Below u.heap.size u x) (ho : OwnN v w.heap.size vs' (st ++ [p])) (hg : Gr x vs v vs') :
  Pt w (v.setCell ⟨a, 3, none⟩ vs') a rr k n gb bn body vs' (st ++ [p]) p := by
 obtain ⟨t1, t2, t3, t4, t5, t6⟩ := h.types
 have e1 : PR x a k n (.slice (some ⟨gb, 0, none⟩) bn bn) vs := zag h.row hx
 have e2 : Bk x gb body := h.bk.on hx
 have e3 : Rd x rr (some ⟨gb, 0, none⟩) bn bn p false := zag h.rd hx
 have e4 : OwnN x w.heap.size vs st := h.own.below hx
 have f1 : PR v a k n (.slice (some ⟨gb, 0, none⟩) bn bn) vs := (hg.grow.block a (zaf e1) (fun e => t4 e.symm)).trans e1
 have f2 : Bk v gb body := (hg.grow.block gb (zaf e2) (fun e => t5 e.symm)).trans e2
 have f3 : Rd v rr (some ⟨gb, 0, none⟩) bn bn p false := (hg.grow.block rr (zaf e3) (fun e => t6 e.symm)).trans e3
 have hc := Cf.set v a 3 vs'
 refine ⟨f1.set3 vs', f2.cf hc (fun e => t1 e.symm), f3.cf hc (fun e => t2 e.symm), ho.cf hc ?_, ?_, h.hp, h.hr⟩
 ·unfold PR at f1
  exact ho.apart f1 zd
 ·have g1 : Cf (· = a) w x := h.cf.go (Cf.of_below hx)
  have g2 : Cf (fun i => w.heap.size ≤ i) x v := Cf.ofGr hg fun g e => by
   have := e4
   unfold OwnN at this
   exact (this.lt g e).1
  refine (g1.trans g2 ?_).go hc
  intro i hi e
  omega
theorem Pt.row_gr {w u v : World} {a rr : Nat} {k : Int} {n gb bn : Nat} {body : List Int} {vs vs' : Value} {st : List Nat} {p : Nat} (h : Pt w u a rr k n gb bn body vs st p) {x : World} (hx : Below u.heap.size u x) (hg : Gr x vs v vs') : PR v a k n (.slice (some ⟨gb, 0, none⟩) bn bn) vs := by
 obtain ⟨t1, t2, t3, t4, t5, t6⟩ := h.types
 have e1 : PR x a k n (.slice (some ⟨gb, 0, none⟩) bn bn) vs := zag h.row hx
 exact (hg.grow.block a (zaf e1) (fun e => t4 e.symm)).trans e1
def prv (cs : List Cl) : Option (List Int) := cs.getLast?.map Cl.key
def PartTo (m : Nat) (w : World) (a : Nat) (k : Int) (n gb bn : Nat) (body : List Int) (e : Ending) (w' : World) : Prop :=
 ∃ b, e = .returned (.bool b) ∧ Hid (Cf (· = a) w w') ∧ Hid ((b = true ∧ ∃ cs vs, part k n m none body = some cs ∧ PR w' a k n (.slice (some ⟨gb, 0, none⟩) bn bn) vs ∧ OwnN w' w.heap.size vs (sts 0 cs) ∧ Bk w' gb body) ∨ (b = false ∧ part k n m none body = none))
structure Pw (k : Int) (n m : Nat) (body : List Int) (cs : List Cl) (j p : Nat) : Prop where
 len : cs.length = j
 at_ : p = (bdy cs).length
 eq : part k n m none body = (part k n (m - j) (prv cs) (body.drop p)).map (cs ++ ·)
theorem Pw.start (k : Int) (n m : Nat) (body : List Int) : Pw k n m body [] 0 0 := ⟨rfl, rfl, by simp [prv]⟩
theorem Pw.fail {k : Int} {n m : Nat} {body : List Int} {cs : List Cl} {j p : Nat} (h : Pw k n m body cs j p) (hj : j < m) (hp : zaj (body.drop p) = none) : part k n m none body = none := by
 rw [h.eq, show m - j = (m - j - 1) + 1 by omega, part, hp]
 rfl
theorem Pw.bad {k : Int} {n m : Nat} {body : List Int} {cs : List Cl} {j p q : Nat} {c : Cl} (h : Pw k n m body cs j p) (hj : j < m) (hp : zaj (body.drop p) = some (c, body.drop q)) (hc : ¬ (mayP k n c ∧ zap (prv cs) c.key)) : part k n m none body = none := by
 rw [h.eq, show m - j = (m - j - 1) + 1 by omega, part, hp]
 simp only
 rw [if_neg hc]
 rfl
theorem Pw.next {k : Int} {n m : Nat} {body : List Int} {cs : List Cl} {j p q : Nat} {c : Cl} (h : Pw k n m body cs j p) (hw : Wf body) (hj : j < m) (hq : q ≤ body.length) (A : p ≤ body.length) (hp : zaj (body.drop p) = some (c, body.drop q)) (hc : mayP k n c ∧ zap (prv cs) c.key) : Pw k n m body (cs ++ [c]) (j + 1) q ∧ sts 0 (cs ++ [c]) = sts 0 cs ++ [p] := by
 have hi := (pCell_inv (hw.drop p) hp).1
 have hl := congrArg List.length hi
 rw [zG, zK, zK] at hl
 have ha := h.at_
 refine ⟨⟨by simp [h.len], ?_, ?_⟩, ?_⟩
 ·rw [zbe, zG, ← ha, show bdy [c] = cB c from by simp [bdy]]
  omega
 ·rw [h.eq, show m - j = (m - (j + 1)) + 1 by omega, part, hp]
  simp only
  rw [if_pos hc, show prv (cs ++ [c]) = some c.key from by simp [prv]]
  cases part k (n : Int) (m - (j + 1)) (some c.key) (body.drop q) <;> simp
 ·rw [zdd, Nat.zero_add, ← ha]
  rfl
theorem Pw.done {k : Int} {n m : Nat} {body : List Int} {cs : List Cl} {p : Nat} (h : Pw k n m body cs m p) (A : p ≤ body.length) : (p = body.length → part k n m none body = some cs) ∧ (p ≠ body.length → part k n m none body = none) := by
 have he := h.eq
 rw [Nat.sub_self, part] at he
 constructor
 ·intro e
  rw [he, if_pos (by rw [e]; simp)]
  simp
 ·intro e
  rw [he, if_neg (by intro h; have := congrArg List.length h; rw [zK] at this; simp at this; omega)]
  rfl
end Go.Proofs.YtbkhjeacmmbabaaGreatDoor
