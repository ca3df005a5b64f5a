import Derived.Test.YtbkhjeacmmbabaaGreatDoorJ20
import Derived.Test.YtbkhjeacmmbabaaGreatDoorJ17
import Derived.Deep.OwnRows
import Derived.Laws.CopyOwn
namespace Go.Proofs.YtbkhjeacmmbabaaGreatDoor
set_option maxRecDepth 100000
set_option maxHeartbeats 2000000
open Go.RowKit
theorem OwnN.lowN {w : World} {B C : Nat} {v : Value} {l : List Nat} (h : OwnN w C v l) (hB : B ≤ C) : OwnN w B v l := by
 unfold OwnN at *
 refine ⟨h.1, ?_⟩
 rcases h.2 with h2 | ⟨g, c, cur, e, hg, h4⟩
 ·exact .inl h2
 ·exact .inr ⟨g, c, cur, e, zN hB hg, h4⟩
def ReadPo (l : List Int) (w : World) (e : Ending) (w' : World) : Prop :=
 ∃ po, e = .returned (.pointer po) ∧ Hid (Below w.heap.size w w') ∧ Hid ((po = none ∧ zbg l = none) ∨ ∃ a bo bn bc so sn sc cs, po = some ⟨a, 0, none⟩ ∧ w.heap.size ≤ a ∧ zbg l = some cs ∧ (∃ gb, bo = some ⟨gb, 0, none⟩ ∧ w.heap.size ≤ gb) ∧ (PgAt w' a (l.getD 0 0) l.length bo bn bc so sn sc cs ∧ Po w' w.heap.size a (l.getD 0 0) l.length (.slice bo bn bc) (.slice so sn sc) cs))
theorem ReadPo.no {l : List Int} {w w' : World} (hb : Below w.heap.size w w') (h : zbg l = none) : ReadPo l w (.returned (.pointer none)) w' := ⟨none, rfl, zaa hb, zaa (.inl ⟨rfl, h⟩)⟩
theorem read_tailP (ao : Option Addr) (n cap : Nat) (l : List Int) (w : World) (hs : Sl w ao n cap l) (hn : pw n) (hk : isKd (l.getD 0 0)) :
  Calls Tryz.prog 79 #[.slice ao n cap] w fun e w' => ReadPo l w e w' := by
 have W := zas hn
 have D9 := W.1
 have E0 := W.2
 have B := hs.hlen
 have D7 := hs.hcap
 obtain ⟨b, off, rfl, B8, hc⟩ : ∃ b off, ao = some ⟨b, off, none⟩ ∧ b < w.heap.size ∧ ∀ i, i < n → w.cell? ⟨b, off + i, none⟩ = some (.int .u8 (l.getD i 0)) := by
  rcases hs.hat with h | h
  ·omega
  ·exact h
 have c0 := hc 0 zq
 rw [Nat.add_zero] at c0
 have L := hs.wf.getD 0
 have HE : Hid (zbg l = (if frst l < 4 + rdN l 2 2 * 2 ∨ (n : Int) - 4 < frst l then none else part (l.getD 0 0) n (rdN l 2 2).toNat none ((l.drop (frst l).toNat).take (n - 4 - (frst l).toNat)))) := by
  refine zaa ?_
  unfold zbg
  rw [B, if_pos ⟨hn, hk⟩]
 have hN := zbk l hs.wf 2 2
 have A6 := zbk l hs.wf 4 2
 obtain ⟨N, O⟩ := Int.eq_ofNat_of_zero_le hN.1
 obtain ⟨G, P⟩ := Int.eq_ofNat_of_zero_le A6.1
 obtain ⟨E, A7⟩ : ∃ E, n - 4 = E := ⟨_, rfl⟩
 have Q : (n : Int) - 4 = (E : Int) := zq
 obtain ⟨F, X⟩ : ∃ F : Nat, frst l = (F : Int) := by
  unfold frst
  rw [B]
  split
  ·exact ⟨G, P⟩
  ·exact ⟨E, Q⟩
 have C : Hid (frst l = if 0 < N then (G : Int) else (E : Int)) := by
  refine zaa ?_
  unfold frst
  rw [O, P, B, Q]
  simp
 rw [O, X, Q, Int.toNat_natCast, Int.toNat_natCast] at HE
 rw [X] at C
 have B9 : N < 65536 := zq
 have E1 : G < 65536 := zq
 obtain ⟨k0, I⟩ : ∃ k0, l.getD 0 0 = k0 := ⟨_, rfl⟩
 rw [I] at c0 L hk HE
 obtain ⟨a, ha⟩ : ∃ a, w.heap.size = a := ⟨_, rfl⟩
 have A8 : Hid (∀ u, Rq w u a k0 n b off cap l → Calls Tryz.prog 121 #[.slice (some ⟨b, off, none⟩) n cap, .int .i64 2] u fun e u' => e = .returned (.int .i64 (N : Int)) ∧ Hid (Rq w u' a k0 n b off cap l)) := by
  refine zaa fun u hu => ?_
  have := shortAt_any u (some ⟨b, off, none⟩) n cap 2 l hu.sl zq
  rw [O] at this
  refine (show Calls Tryz.prog 121 #[.slice (some ⟨b, off, none⟩) n cap, .int .i64 2] u _ from this).mono ?_
  rintro e u' ⟨rfl, q, rfl⟩
  exact ⟨rfl, zaa (hu.on (zac Br _))⟩
 have Y : Hid (∀ u, Rq w u a k0 n b off cap l → Calls Tryz.prog 121 #[.slice (some ⟨b, off, none⟩) n cap, .int .i64 4] u fun e u' => e = .returned (.int .i64 (G : Int)) ∧ Hid (Rq w u' a k0 n b off cap l)) := by
  refine zaa fun u hu => ?_
  have := shortAt_any u (some ⟨b, off, none⟩) n cap 4 l hu.sl zq
  rw [P] at this
  refine (show Calls Tryz.prog 121 #[.slice (some ⟨b, off, none⟩) n cap, .int .i64 4] u _ from this).mono ?_
  rintro e u' ⟨rfl, q, rfl⟩
  exact ⟨rfl, zaa (hu.on (zac Br _))⟩
 have A9 : Hid (Rq w (w.alloc (.cells #[.int .i64 k0, .int .i64 (n : Int), .slice none 0 0, .slice none 0 0] 118)) a k0 n b off cap l) := by
  refine zaa ⟨?_, hs.on Lr (zab Br Lr _), zab Br Lr _⟩
  rw [← ha]
  exact heap_alloc_last w _
 have d1 : decide (pw (n : Int)) = true := decide_eq_true hn
 have d2 : decide (isKd k0) = true := decide_eq_true hk
 have E2 : IntKind.i64.wrap k0 = k0 := by rw [IntKind.wrap_i64]; omega
 have E3 := zaa hk
 have C0 := zaa hn
 have B4 := zaa hs.wf
 have C1 := zaa I
 have J := zaa B
 have C2 := zaa A7
 have bN : (N : Int) < 65536 := zq
 have bE : (E : Int) ≤ 65536 := zq
 have k01 := L.1
 have k02 := L.2
 have C3 : (0 : Int) < (n : Int) := zq
 clear hs hc hk hn O P hN A6 X I B A7 L W
 go_enter Tryz.func79, Tryz.ntmps79
 go_wp2_with (first | (go_at_call 31; refine zad (zbp _ _) ?_; rw [d1]) | (go_at_call 78; refine zad (zcc _ _) ?_; rw [d2]) | (go_at_call 121; refine (A8.out _ A9.out).mono ?_; rintro e u1 ⟨rfl, R⟩; refine Hid.out ?_))
 apply zaa
 clear A8 A9 c0 B8
 go_upto_if 36 with fail
 go_cut [5] (fun v u => v = .int .i64 (F : Int) ∧ Hid (Rq w u a k0 n b off cap l))
 case first =>
  by_cases h0 : 0 < N
  ·have C6 : 0 < (N : Int) := zq
   have Z : Hid ((F : Int) = (G : Int)) := zaa (by rw [C.out, if_pos h0])
   have C4 := zaa (Y.out _ R.out)
   clear C6 Y R HE C ha d1 d2 Q bN bE B9 C3
   obtain ⟨M, rfl⟩ : ∃ M, N = M + 1 := ⟨N - 1, zq⟩
   clear h0
   go_wp2_with (go_at_call 121; refine C4.out.mono ?_; rintro e u2 ⟨rfl, A⟩; refine Hid.out ?_)
   apply zaa
   go_wp2
   go_meet
   exact ⟨by rw [Z.out], A⟩
  ·obtain rfl : N = 0 := zq
   have Z : Hid ((F : Int) = (E : Int)) := zaa (by rw [C.out]; simp)
   go_wp2
   go_meet
   exact ⟨by rw [Z.out], R⟩
 obtain ⟨rfl, A⟩ := hcut
 obtain ⟨u2, C7⟩ : ∃ u2, u2 = wc := ⟨_, rfl⟩
 subst C7
 have bF : (F : Int) ≤ 65536 := by
  have := C.out
  split at this <;> omega
 clear R Y C
 by_cases h1 : (F : Int) < 4 + (N : Int) * 2
 ·have A0 : Hid (zbg l = none) := zaa (by rw [HE.out, if_pos (.inl h1)])
  go_wp2
  go_ret
  exact ReadPo.no A.out.be A0.out
 ·by_cases h2 : (E : Int) < (F : Int)
  ·have A0 : Hid (zbg l = none) := zaa (by rw [HE.out, if_pos (.inr h2)])
   go_wp2
   go_ret
   exact ReadPo.no A.out.be A0.out
  ·have A1 : Hid (zbg l = part k0 n N none ((l.drop F).take (E - F))) := zaa (by rw [HE.out, if_neg zq, C2.out])
   clear HE
   have e1 : F ≤ E := zq
   have e2 : (F : Int) ≤ (E : Int) := zq
   have e3 : E ≤ cap := zq
   have e4 : (E : Int) ≤ (cap : Int) := zq
   have e5 : ¬ cap = F := zq
   have T := zaa (zdr (some ⟨b, off + F, none⟩) (E - F) (cap - F) _ u2 (A.out.sl.piece F (E - F) (cap - F) zq zq))
   obtain ⟨bn, B0⟩ : ∃ bn, E - F = bn := ⟨_, rfl⟩
   obtain ⟨BD, U⟩ : ∃ BD, (l.drop F).take (E - F) = BD := ⟨_, rfl⟩
   rw [U] at T A1
   have H : Hid (BD.length = bn) := zaa (by rw [← U, zJ, zK, J.out]; omega)
   have V : Hid (Wf BD) := zaa (by rw [← U]; exact (B4.out.drop _).take _)
   rw [B0] at T
   have B5 : bn ≤ 65536 := zq
   obtain ⟨x0, x1, x2, x3⟩ := A.out.row.cells
   clear U
   go_wp2_with (go_at_call 119; refine T.out.mono ?_; rintro e u3 ⟨rfl, A2, A3⟩; refine Hid.out ?_)
   apply zaa
   clear T x0 x1 x2 x3
   have D : Hid (PR u3 a k0 n (.slice none 0 0) (.slice none 0 0)) := zaa (zag A.out.row A3.out)
   obtain ⟨x0, x1, x2, x3⟩ := D.out.cells
   have x4 := D.out.free 2
   obtain ⟨gb, A4⟩ : ∃ gb, u2.heap.size = gb := ⟨_, rfl⟩
   have B1 : Hid (w.heap.size ≤ gb) := zaa (by rw [← A4]; exact A.out.be.size)
   rw [A4] at A2 ⊢
   have C8 : ¬ gb = a := by
    have := zaf A.out.row
    omega
   have B6 : Hid (PR (u3.setCell ⟨a, 2, none⟩ (.slice (some ⟨gb, 0, none⟩) bn bn)) a k0 n (.slice (some ⟨gb, 0, none⟩) bn bn) (.slice none 0 0)) := zaa (D.out.set2 _)
   have B7 : Hid (Bk (u3.setCell ⟨a, 2, none⟩ (.slice (some ⟨gb, 0, none⟩) bn bn)) gb BD) := zaa (A2.out.cf (Cf.set _ _ _ _) C8)
   have K : Hid (Below w.heap.size w (u3.setCell ⟨a, 2, none⟩ (.slice (some ⟨gb, 0, none⟩) bn bn))) := zaa ((zae A.out.be Lr A3.out).setCell (p := ⟨a, 2, none⟩) (by simp only; omega) _)
   have C9 := zaa (parted_any N _ a k0 n gb bn BD _ B6.out B7.out H.out V.out C0.out B5 zq)
   clear D A2 A3 A A4 B0
   go_wp2_with (go_at_call 122; refine C9.out.mono ?_; rintro e u5 ⟨bb, rfl, D0, B2⟩; refine Hid.out ?_)
   apply zaa
   have A5 : Hid (Below w.heap.size w u5) := zaa (K.out.trans (D0.out.below K.out.size (by intro i hi e; omega)))
   have E4 : w.heap.size ≤ (u3.setCell ⟨a, 2, none⟩ (.slice (some ⟨gb, 0, none⟩) bn bn)).heap.size := K.out.size
   cases bb with
   | true =>
    go_wp2
    go_ret
    rcases B2.out with ⟨_, cs, vs, h3, h4, h5, h6⟩ | ⟨h3, _⟩
    ·have D3 := (part_inv _ _ _ _ V.out h3).1
     have B3 := (part_inv _ _ _ _ V.out h3).2.1
     obtain ⟨so, sc, rfl, D4⟩ := h5.sln (by rw [zak, D3]; omega)
     have D8 := H.out
     have D5 := J.out
     refine ⟨some ⟨a, 0, none⟩, rfl, A5, zaa (.inr ⟨a, some ⟨gb, 0, none⟩, bn, bn, so, (sts 0 cs).length, sc, cs, rfl, zq, A1.out.trans h3, ⟨gb, rfl, B1.out⟩, ?_⟩)⟩
     rw [C1.out, J.out]
     refine ⟨⟨h4, by rw [← B3]; exact h6.sl H.out V.out zq, D4⟩, ⟨h4, ?_, h5.lowN zq⟩⟩
     rw [← B3]
     have h7 := zcn h6 B1.out (by rw [H.out]; unfold maxLen; omega)
     rw [H.out] at h7
     exact h7
    ·cases h3
   | false =>
    go_wp2
    go_ret
    rcases B2.out with ⟨h3, _⟩ | ⟨_, h3⟩
    ·cases h3
    ·exact ReadPo.no A5.out (A1.out.trans h3)
theorem read_po (ao : Option Addr) (n cap : Nat) (l : List Int) (w : World) (hs : Sl w ao n cap l) :
  Calls Tryz.prog 79 #[.slice ao n cap] w fun e w' => ReadPo l w e w' := by
 by_cases hn : pw n
 ·by_cases hk : isKd (l.getD 0 0)
  ·exact read_tailP ao n cap l w hs hn hk
  ·have D := zas hn
   have B := hs.hlen
   obtain ⟨b, off, rfl, E, hc⟩ : ∃ b off, ao = some ⟨b, off, none⟩ ∧ b < w.heap.size ∧ ∀ i, i < n → w.cell? ⟨b, off + i, none⟩ = some (.int .u8 (l.getD i 0)) := by
    rcases hs.hat with h | h
    ·omega
    ·exact h
   have c0 := hc 0 zq
   rw [Nat.add_zero] at c0
   have C := hs.wf.getD 0
   have A : Hid (zbg l = none) := zaa (by unfold zbg; rw [if_neg (fun h => hk h.2)])
   have d1 : decide (pw (n : Int)) = true := decide_eq_true hn
   have d2 : decide (isKd (l.getD 0 0)) = false := decide_eq_false hk
   generalize l.getD 0 0 = k0 at *
   have F : IntKind.i64.wrap k0 = k0 := by rw [IntKind.wrap_i64]; omega
   have G : (0 : Int) < (n : Int) := zq
   have k01 := C.1
   have k02 := C.2
   clear hs hc hk hn
   go_enter Tryz.func79, Tryz.ntmps79
   go_wp2_with (first | (go_at_call 31; refine zad (zbp _ _) ?_; rw [d1]) | (go_at_call 78; refine zad (zcc _ _) ?_; rw [d2]))
   go_ret
   exact ReadPo.no Br A.out
 ·have B := hs.hlen
  have A : Hid (zbg l = none) := zaa (by unfold zbg; rw [B, if_neg (fun h => hn h.1)])
  have d1 : decide (pw (n : Int)) = false := decide_eq_false hn
  clear hs hn
  go_enter Tryz.func79, Tryz.ntmps79
  go_wp2_with (go_at_call 31; refine zad (zbp _ _) ?_; rw [d1])
  go_ret
  exact ReadPo.no Br A.out
def OpenPo (l : List Int) (w : World) (e : Ending) (w' : World) : Prop :=
 ∃ po k, e = .returned (.tuple #[.pointer po, .int .i64 k]) ∧ Hid (Below w.heap.size w w') ∧ Hid ((po = none ∧ k = 60 ∧ ¬ ∃ cs, Is (l.getD 0 0) l.length cs l) ∨ ∃ a bo bn bc so sn sc cs, po = some ⟨a, 0, none⟩ ∧ k = 0 ∧ w.heap.size ≤ a ∧ Is (l.getD 0 0) l.length cs l ∧ (∀ c ∈ cs, c.Wf) ∧ (∃ gb, bo = some ⟨gb, 0, none⟩ ∧ w.heap.size ≤ gb) ∧ (PgAt w' a (l.getD 0 0) l.length bo bn bc so sn sc cs ∧ Po w' w.heap.size a (l.getD 0 0) l.length (.slice bo bn bc) (.slice so sn sc) cs))
theorem open_po (ao : Option Addr) (n cap : Nat) (l : List Int) (w : World) (hs : Sl w ao n cap l) (ht : Tab w) (h0 : 1 < w.heap.size) :
  Calls Tryz.prog 41 #[.slice ao n cap] w fun e w' => OpenPo l w e w' := by
 have HR := zaa (read_po ao n cap l w hs)
 have HS := zaa hs
 have HT := zaa ht
 clear hs ht
 go_enter Tryz.func41, Tryz.ntmps41
 go_wp2_with (go_at_call 79; refine HR.out.mono ?_; rintro e w1 ⟨po, rfl, A, HQ⟩; refine Hid.out ?_)
 apply zaa
 clear HR
 rcases HQ.out with ⟨rfl, N⟩ | ⟨a, bo, bn, bc, so, sn, sc, cs, rfl, O, G, P, H⟩
 ·have I : Hid (¬ ∃ cs, Is (l.getD 0 0) l.length cs l) := zaa (by
   rintro ⟨cs, h⟩
   have := (readM_of h).1
   rw [N] at this
   cases this)
  clear HQ N
  go_wp2
  go_ret2
  exact ⟨none, 60, rfl, A, zaa (.inl ⟨rfl, rfl, I.out⟩)⟩
 ·have Q := zaa G
  have R := zaa H
  have V := zaa P
  have W := zaa O
  obtain ⟨i1, i2, i3, i4, i5, _⟩ := readM_inv HS.out.wf G
  have HI := zaa (And.intro i1 (And.intro i2 (And.intro i3 (And.intro i4 i5))))
  have F := zaa (bytes_any w1 a _ _ bo bn bc so sn sc cs H.1 i1 i2 i4 (HT.out.on A.out h0) (zO h0 A.out.size) i5)
  clear G H O P HQ i1 i2 i3 i4 i5
  have C := HS.out.hlen
  have D := zaa C
  rw [C] at F
  clear C
  have J : Hid ((pgB (l.getD 0 0) n cs).length = n) := zaa (by have := HI.out.2.2.2.1; rw [D.out] at this; exact zdj _ _ _ this)
  have E : Hid (Wf (pgB (l.getD 0 0) n cs)) := zaa (pgB_wf (by have := HI.out.1; unfold isKd at this; omega) HI.out.2.2.2.2)
  have T := HS.out.hroom
  obtain ⟨PB, K⟩ : ∃ PB, pgB (l.getD 0 0) n cs = PB := ⟨_, rfl⟩
  rw [K] at F J E
  have U := zaa K
  clear K
  cases hd : decide (PB = l) with
  | true =>
   have L : PB = l := by simpa using hd
   go_wp2_with (first | (go_at_call 74; refine F.out.mono ?_; rintro e w2 ⟨g, rfl, hg, M, B⟩) | (go_at_call 80; refine zad (equal6 _ _ _ _ _ _ PB l _ (M.out.sl J.out E.out T) (HS.out.on Lr (zae A.out Lr B.out))) ?_; rw [hd]))
   go_ret2
   refine ⟨some ⟨a, 0, none⟩, 0, rfl, zaa (zae A.out Lr B.out), zaa (.inr ⟨a, bo, bn, bc, so, sn, sc, cs, rfl, rfl, W.out, ?_, HI.out.2.2.2.2, V.out, R.out.1.on B.out, R.out.2.on B.out⟩)⟩
   refine (is_iff HS.out.wf cs).2 ⟨Q.out, ?_⟩
   rw [D.out, U.out]
   exact L
  | false =>
   have L : ¬ PB = l := by simpa using hd
   have I : Hid (¬ ∃ cs, Is (l.getD 0 0) l.length cs l) := zaa (by
    rintro ⟨ds, h⟩
    obtain ⟨h1, h2⟩ := (is_iff HS.out.wf ds).1 h
    rw [Q.out] at h1
    injection h1 with h1
    subst h1
    rw [D.out, U.out] at h2
    exact L h2)
   go_wp2_with (first | (go_at_call 74; refine F.out.mono ?_; rintro e w2 ⟨g, rfl, hg, M, B⟩) | (go_at_call 80; refine zad (equal6 _ _ _ _ _ _ PB l _ (M.out.sl J.out E.out T) (HS.out.on Lr (zae A.out Lr B.out))) ?_; rw [hd]))
   go_ret2
   exact ⟨none, 60, rfl, zaa (zae A.out Lr B.out), zaa (.inl ⟨rfl, rfl, I.out⟩)⟩
def DXt (w : World) (lo hi b off : Nat) (c : Cl) : Prop :=
 ∃ g1 g2, w.cell? ⟨b, off, none⟩ = some (.slice (some ⟨g1, 0, none⟩) c.key.length c.key.length) ∧ w.cell? ⟨b, off + 1, none⟩ = some (.int .i64 c.kd) ∧ w.cell? ⟨b, off + 2, none⟩ = some (.slice (some ⟨g2, 0, none⟩) c.val.length c.val.length) ∧ w.cell? ⟨b, off + 3, none⟩ = some (.int .i64 c.pg) ∧ w.cell? ⟨b, off + 4, none⟩ = some (.int .i64 c.ct) ∧ Bk w g1 c.key ∧ Bk w g2 c.val ∧ lo ≤ g1 ∧ lo ≤ g2 ∧ g1 < hi ∧ g2 < hi ∧ g1 ≠ g2
theorem DXt.on {w w' : World} {lo hi b off : Nat} {c : Cl} (h : DXt w lo hi b off c) (hb : b < w.heap.size) (hB : Below w.heap.size w w') : DXt w' lo hi b off c := by
 obtain ⟨g1, g2, h0, h1, h2, h3, h4, h5, h6, h7⟩ := h
 exact ⟨g1, g2, (hB.cell (p := ⟨b, off, none⟩) hb).trans h0, (hB.cell (p := ⟨b, off + 1, none⟩) hb).trans h1, (hB.cell (p := ⟨b, off + 2, none⟩) hb).trans h2, (hB.cell (p := ⟨b, off + 3, none⟩) hb).trans h3, (hB.cell (p := ⟨b, off + 4, none⟩) hb).trans h4, h5.on hB, h6.on hB, h7⟩
theorem DXt.put {w : World} {lo hi b N i j : Nat} {c : Cl} {vs : List Value} (h : DXt w lo hi b (i * 5) c) (hr : RowC w b N) (A : i < j) : DXt (w.setCells b (j * 5) vs) lo hi b (i * 5) c := by
 obtain ⟨g1, g2, h0, h1, h2, h3, h4, h5, h6, h7⟩ := h
 have ho : ∀ d, d < 5 → (w.setCells b (j * 5) vs).cell? ⟨b, i * 5 + d, none⟩ = w.cell? ⟨b, i * 5 + d, none⟩ := fun d hd => World.cell?_setCells_out b _ _ w _ (fun _ _ => .inl (by simp only; omega))
 exact ⟨g1, g2, (ho 0 zq).trans h0, (ho 1 zq).trans h1, (ho 2 zq).trans h2, (ho 3 zq).trans h3, (ho 4 zq).trans h4, h5.sets (hr.ne h5), h6.sets (hr.ne h6), h7⟩
theorem DXt.new {w : World} {lo hi b N j : Nat} {c : Cl} {g1 g2 : Nat} (hr : RowC w b N) (hj : j * 5 + 5 ≤ 5 * N) (h1 : Bk w g1 c.key) (h2 : Bk w g2 c.val) (h3 : lo ≤ g1) (h4 : lo ≤ g2) (hh : w.heap.size ≤ hi) (h5 : g1 ≠ g2) :
  DXt (w.setCells b (j * 5) [.slice (some ⟨g1, 0, none⟩) c.key.length c.key.length, .int .i64 c.kd, .slice (some ⟨g2, 0, none⟩) c.val.length c.val.length, .int .i64 c.pg, .int .i64 c.ct]) lo hi b (j * 5) c := by
 have h := World.rangeAt_setCells_same w b (j * 5) [.slice (some ⟨g1, 0, none⟩) c.key.length c.key.length, .int .i64 c.kd, .slice (some ⟨g2, 0, none⟩) c.val.length c.val.length, .int .i64 c.pg, .int .i64 c.ct] (hr.there hj)
 exact ⟨g1, g2, h 0 _ rfl, h 1 _ rfl, h 2 _ rfl, h 3 _ rfl, h 4 _ rfl, h1.sets (hr.ne h1), h2.sets (hr.ne h2), h3, h4, zO (zaf h1) hh, zO (zaf h2) hh, h5⟩
theorem sets_size : ∀ (vs : List Value) (w : World) (b j : Nat), (w.setCells b j vs).heap.size = w.heap.size
 | [], _, _, _ => rfl
 | v :: r, w, b, j => (sets_size r (w.setCell ⟨b, j, none⟩ v) b (j + 1)).trans zv
structure OwnC (w : World) (B g : Nat) (cs : List Cl) (P : Nat → Nat) : Prop where
 row : RowC w g cs.length
 hg : B ≤ g
 p0 : B ≤ P 0
 up : ∀ i, i < cs.length → P i ≤ P (i + 1)
 top : P cs.length ≤ w.heap.size
 at_ : ∀ i d, cs[i]? = some d → DXt w (P i) (P (i + 1)) g (i * 5) d
def DecOw (l : List Int) (w : World) (e : Ending) (w' : World) : Prop :=
 ∃ k ao n cap c, e = .returned (.tuple #[.int .i64 k, .slice ao n cap, .int .i64 c]) ∧ Hid (Below w.heap.size w w') ∧
  Hid ((c = 60 ∧ k = 0 ∧ ao = none ∧ n = 0 ∧ cap = 0 ∧ ¬ ∃ cs, Is (l.getD 0 0) l.length cs l) ∨
   ∃ cs g P, c = 0 ∧ k = l.getD 0 0 ∧ ao = some ⟨g, 0, none⟩ ∧ n = cs.length ∧ cap = cs.length ∧ Is (l.getD 0 0) l.length cs l ∧ (∀ d ∈ cs, d.Wf) ∧ OwnC w' w.heap.size g cs P)
theorem decode_own (ao : Option Addr) (n cap : Nat) (l : List Int) (w : World) (hs : Sl w ao n cap l) (ht : Tab w) (h0 : 1 < w.heap.size) :
  Calls Tryz.prog 36 #[.slice ao n cap] w fun e w' => DecOw l w e w' := by
 obtain ⟨ic, A7, A8, A9, B0⟩ := info_parts infoC
 have HO := zaa (open_po ao n cap l w hs ht h0)
 have D0 := zaa hs.hlen
 clear hs ht
 go_enter Tryz.func36, Tryz.ntmps36
 go_wp2_with (go_at_call 41; refine HO.out.mono ?_; rintro e w1 ⟨po, ec, rfl, D, HQ⟩; refine Hid.out ?_)
 apply zaa
 clear HO
 rcases HQ.out with ⟨rfl, rfl, R⟩ | ⟨a, bo, bn, bc, so, sn, sc, cs, rfl, rfl, D4, B, T, _, H, _⟩
 ·have B1 := zaa R
  clear HQ R
  go_wp2
  go_ret3
  exact ⟨0, none, 0, 0, 60, rfl, D, zaa (.inl ⟨rfl, rfl, rfl, rfl, rfl, B1.out⟩)⟩
 ·have I := zaa H
  have B2 := zaa B
  have B3 := zaa T
  have A5 : Hid (∀ c ∈ cs, c.fit) := zaa fun c hc => (zcp B.ok c hc).fit (by have := zas B.sz; omega)
  obtain ⟨U, B4⟩ := H.sn_eq
  have hz := zaw cs
  have A6 := B.fit
  have B5 := zas B.sz
  have D5 : sn ≤ 65536 := zq
  have B6 : bn ≤ 65536 := zq
  have A := zaa U
  clear H B T HQ U B4 hz A6 B5
  obtain ⟨c0, c1, c2, c3⟩ := I.out.cells
  have HL := zaa (len_any w1 a _ _ bo bn bc so sn sc cs I.out)
  go_wp2_with (first
   | (go_at_call 75; refine zad HL.out ?_)
   | (at_make; refine wpList_make_full _ rfl _ _ 29 rfl w.heap.size 50 ic _ 5 Tryz.underlying29 A7 A8 A9 .i64 .i64 sn sn sn rfl rfl rfl rfl (by rw [B0]; omega) zml D.out.size ?_; refine Hid.out ?_))
  apply zaa
  intro w2 V W
  have J : Below w1.heap.size w1 w2 := Br.grown W Lr (fun k hk => by cases hk)
  obtain ⟨g, hg⟩ : ∃ g, w1.heap.size = g := ⟨_, rfl⟩
  have X : Hid (RowC w2 g sn) := by
   rcases V.2 with ⟨h, _⟩ | ⟨q, c, cur, h, _, hh, _, _, B7, _⟩
   ·cases h
   ·cases h
    rw [← hg]
    exact zaa ⟨cur, hh, by rw [B7]; omega⟩
  have B8 : Hid (w.heap.size ≤ g) := zaa (by rw [← hg]; exact D.out.size)
  have B9 := zaa J
  have Y : Below g w1 w2 := by rw [← hg]; exact J
  have Z := zaa Y
  have C0 := zaa hg
  rw [hg]
  clear V W J HL c0 c1 c2 c3 Y
  go_wp2_with fail
  go_loopw [22] (fun i wr => ∃ (j : Nat) (P : Nat → Nat), j ≤ sn ∧ i = .int .i64 j ∧ Hid (RowC wr g sn) ∧ Hid (Below g w1 wr) ∧ Hid (∀ i d, i < j → cs[i]? = some d → DXt wr (P i) (P (i + 1)) g (i * 5) d) ∧ Hid (w.heap.size ≤ P 0 ∧ (∀ i, i < j → P i ≤ P (i + 1)) ∧ P j ≤ wr.heap.size)) (fun i _ => sn - (intOf i).toNat)
  case atStart => exact ⟨0, fun _ => w.heap.size, zq, rfl, X, Z, zaa fun i d hi => zq, zaa ⟨Lr, fun i hi => zq, zN D.out.size B9.out.size⟩⟩
  case round =>
   obtain ⟨j, P, hj, rfl, HR, HG, HD, HP⟩ := hrel
   have A0 : Hid (Below w1.heap.size w1 wr) := zaa (by rw [C0.out]; exact HG.out)
   have K := zaa (I.out.on A0.out)
   have bj : (j : Int) ≤ 65536 := zq
   clear X Z
   by_cases C1 : j < sn
   ·have D3 : (j : Int) < (sn : Int) := zq
    have L : j < cs.length := by rw [← A.out]; exact C1
    obtain ⟨d, hd⟩ : ∃ d, cs[j]? = some d := ⟨_, zI L⟩
    have C2 := zaa hd
    have HV := zaa (view_any wr a _ _ bo bn bc so sn sc cs K.out A5.out j L d hd B6)
    clear hd L
    go_wp2_with (go_at_call 77; refine HV.out.mono ?_; rintro e u1 ⟨ko, kn, kc, vo, vn, vc, rfl, HK, M, N⟩; refine Hid.out ?_)
    apply zaa
    have A1 := HK.out.hlen
    have A2 := M.out.hlen
    have C3 := zaa A1
    have C4 := zaa A2
    clear A1 A2 HV
    have HC := zaa (copied_any ko kn kc d.kd vo vn vc d.pg d.ct d.key d.val u1 HK.out M.out)
    go_wp2_with (go_at_call 76; refine HC.out.mono ?_; rintro e u2 ⟨g1, g2, rfl, C, A3⟩; refine Hid.out ?_)
    apply zaa
    have E : Hid (Below wr.heap.size wr u2) := zaa (zae N.out Lr A3.out)
    have F : Hid (RowC u2 g sn) := zaa (HR.out.on E.out)
    have A4 : Hid (Below g w1 u2) := zaa (HG.out.trans (E.out.mono (Nat.le_of_lt HR.out.lt)))
    have D7 : wr.heap.size ≤ u1.heap.size := N.out.size
    have Q : Hid (u2.heap.size ≤ u2.heap.size ∧ wr.heap.size ≤ u2.heap.size) := zaa ⟨Lr, E.out.size⟩
    clear HC HK M
    go_wp2_with (refine put_cell zr _ _ zr g (j * 5) sn (some ⟨g1, 0, none⟩) (some ⟨g2, 0, none⟩) kn kn vn vn d.kd d.pg d.ct F.out zr zr zq ?_; intro u3 G; refine Hid.out ?_)
    apply zaa
    have C6 : Hid (RowC u3 g sn) := zaa (by rw [G.out]; exact RowC.sets _ _ _ F.out)
    have C7 : Hid (Below g w1 u3) := zaa (by
     rw [G.out]
     simp only [World.setCells]
     refine ((((A4.out.setCell ?_ _).setCell ?_ _).setCell ?_ _).setCell ?_ _).setCell ?_ _ <;> simp)
    obtain ⟨P3, O⟩ : ∃ P3 : Nat → Nat, P3 = fun i => if i ≤ j then P i else u2.heap.size := ⟨_, rfl⟩
    have C8 : Hid (w.heap.size ≤ P3 0 ∧ (∀ i, i < j + 1 → P3 i ≤ P3 (i + 1)) ∧ P3 (j + 1) ≤ u3.heap.size) := zaa (by
     obtain ⟨q1, q2, q3⟩ := HP.out
     have q4 := Q.out.2
     rw [O]
     refine ⟨by simpa using q1, fun i hi => ?_, ?_⟩
     ·by_cases e : i = j
      ·simp only [e, Nat.le_refl, if_true, show ¬ j + 1 ≤ j by omega, if_false]
       omega
      ·simp only [show i ≤ j by omega, show i + 1 ≤ j by omega, if_true]
       exact q2 i zq
     ·simp only [show ¬ j + 1 ≤ j by omega, if_false]
      rw [G.out, sets_size]
      exact Lr)
    have C9 : Hid (∀ i d, i < j + 1 → cs[i]? = some d → DXt u3 (P3 i) (P3 (i + 1)) g (i * 5) d) := by
     refine zaa fun i d' hi hd' => ?_
     rw [G.out, O]
     by_cases e : i = j
     ·subst e
      rw [C2.out] at hd'
      injection hd' with hd'
      subst hd'
      simp only [Nat.le_refl, if_true, show ¬ i + 1 ≤ i by omega, if_false]
      have hp := HP.out.2.2
      have := DXt.new (lo := P i) (hi := u2.heap.size) (c := d) (j := i) F.out zq C.out.1 C.out.2.1 (by have := C.out.2.2.1; omega) (by have := C.out.2.2.2.1; omega) Lr C.out.2.2.2.2
      rw [C3.out, C4.out] at this
      exact this
     ·simp only [show i ≤ j by omega, show i + 1 ≤ j by omega, if_true]
      exact ((HD.out i d' zq hd').on HR.out.lt E.out).put F.out zq
    clear O
    clear G F A4 HR HG HD C N A3 E K HP Q
    go_wp2
    go_roundw
    case rel => exact ⟨j + 1, P3, zq, by go_num, C6, C7, C9, C8⟩
    case measure => simp [intOf]; omega
   ·obtain rfl : j = sn := zq
    have D8 : ¬ (j : Int) < (j : Int) := zq
    obtain ⟨c0, c1, c2, c3⟩ := K.out.cells
    go_wp2
    go_ret3
    refine ⟨l.getD 0 0, some ⟨g, 0, none⟩, j, j, 0, rfl, zaa (zae D.out Lr A0.out), zaa (.inr ⟨cs, g, P, rfl, rfl, rfl, A.out, A.out, B2.out, B3.out, ?_, B8.out, HP.out.1, ?_, ?_, ?_⟩)⟩
    ·rw [← A.out]; exact HR.out
    ·rw [← A.out]; exact HP.out.2.1
    ·rw [← A.out]; exact HP.out.2.2
    ·intro i d hd
     refine HD.out i d ?_ hd
     have := (zH.1 hd).1
     rw [A.out]
     exact this
end Go.Proofs.YtbkhjeacmmbabaaGreatDoor
