import Derived.Test.YtbkhjeacmmbabaaGreatDoorJ41
import Derived.Test.YtbkhjeacmmbabaaGreatDoorJ42
import Derived.Deep.MidRow
import Derived.Deep.Upon
import Derived.Laws.IdiomCopy
import Derived.Lib.SlBytesConst
import Derived.Deep.RegionHeld
import Derived.BigQuiet
namespace Go.Proofs.YtbkhjeacmmbabaaGreatDoor
set_option maxRecDepth 100000
set_option maxHeartbeats 8000000
open Go.RowKit
theorem rread_end2 (g off n cap : Nat) (l : List Int) (at_ : Nat) (k : Int) (i : Nat) (po : Option Addr) (pn pc : Nat) (P : List Int) (w : World) (hs : Sl w (some ⟨g, off, none⟩) n cap l) (hn : n ≤ 65536) (hP : Sl w po pn pc P) (_hpn : pn ≤ 65536) (_hi : i ≤ 65536) (ha : n ≤ at_) (G : at_ ≤ 1000000) :
  Calls Tryz.prog 58 #[.slice (some ⟨g, off, none⟩) n cap, .int .i64 (at_ : Int), .int .i64 k, .int .i64 (i : Int), .slice po pn pc] w (RdTo l at_ k i P w) := by
 have HS := zaa hs
 have HP := zaa hP
 have A := hs.hlen
 have F := hs.hcap
 have H : (n : Int) ≤ 65536 := zq
 obtain ⟨kk, B⟩ : ∃ kk, w.heap.size = kk := ⟨_, rfl⟩
 have C := zaa (no_end (l := l) (at_ := at_) zq)
 have I : (n : Int) ≤ (at_ : Int) := zq
 have J : (at_ : Int) ≤ 1000000 := zq
 have h0 : ¬ (at_ : Int) < 0 := zq
 have D : Hid (Below w.heap.size w (w.alloc (.cells #[.slice none 0 0, .int .i64 0, .slice none 0 0, .int .i64 0, .int .i64 0] 50))) := zaa (zab Br Lr _)
 have E : Hid (C5 (w.alloc (.cells #[.slice none 0 0, .int .i64 0, .slice none 0 0, .int .i64 0, .int .i64 0] 50)) kk (.slice none 0 0) (.int .i64 0) (.slice none 0 0) (.int .i64 0) (.int .i64 0)) := zaa (by rw [← B]; exact C5.box w _ _ _ _ _)
 clear hs hP A
 go_enter Tryz.func58, Tryz.ntmps58
 go_wp2
 refine bodyPost_ret (zaz rfl _ _ kk 50 #[.slice none 0 0, .int .i64 0, .slice none 0 0, .int .i64 0, .int .i64 0] (0, 0) _ (.int .i64 0) zr zr E.out Tryz.underlying50 rfl zal) rfl ?_
 exact RdTo.no D.out C.out
theorem rread_any (g off n cap : Nat) (l : List Int) (at_ : Nat) (k : Int) (i : Nat) (po : Option Addr) (pn pc : Nat) (P : List Int) (w : World) (hs : Sl w (some ⟨g, off, none⟩) n cap l) (hn : n ≤ 65536) (hP : Sl w po pn pc P) (A : pn ≤ 65536) (hi : i ≤ 65536) (ha : at_ ≤ 1000000) :
  Calls Tryz.prog 58 #[.slice (some ⟨g, off, none⟩) n cap, .int .i64 (at_ : Int), .int .i64 k, .int .i64 (i : Int), .slice po pn pc] w (RdTo l at_ k i P w) := by
 by_cases h1 : n ≤ at_
 ·exact rread_end2 g off n cap l at_ k i po pn pc P w hs hn hP A hi h1 ha
 ·have hl := hs.hlen
  by_cases he : (rUx l ((at_ + 1 : Nat) : Int)).2.2 = 0
  ·obtain ⟨v, t, B, _⟩ := ru_ok hs.wf zq he
   by_cases hv : n < t + v
   ·exact rread_rest g off n cap l at_ k i po pn pc P w hs hn hP A hi zq he v t B hv
   ·by_cases hk : k = 3 ∧ i = 0
    ·exact rread_whole g off n cap l at_ k i po pn pc P w hs hn hP A hi zq he v t B zq hk
    ·exact rread_pre g off n cap l at_ k i po pn pc P w hs hn hP A hi zq he v t B zq hk
  ·exact rread_key g off n cap l at_ k i po pn pc P w hs hn hP A hi zq he
def Rd7 (k : Int) (n : Nat) (l : List Int) (j at_ : Nat) (ds : List Cl) : Prop := ∀ cs, IsQ k n cs l → ds = cs.take j ∧ at_ = offQ k cs j
theorem Rd7.go {k : Int} {n : Nat} {l : List Int} {j at_ t : Nat} {ds : List Cl} {c : Cl} {P : List Int} (h : Rd7 k n l j at_ ds) (hN : ∀ cs, IsQ k n cs l → j < cs.length) (hP : ∀ cs, IsQ k n cs l → shP k cs = P) (hi : Is7 l at_ t c) : Rd7 k n l (j + 1) t (ds ++ [c.pre (pre7 k j P)]) := fun cs A => by
 obtain ⟨e1, e2⟩ := h cs A
 have hj := hN cs A
 obtain ⟨d, hd⟩ : ∃ d, cs[j]? = some d := ⟨_, zI hj⟩
 obtain ⟨g1, g2, g3, g4⟩ := A.cell hd
 obtain ⟨i1, _, i3, i4, i5⟩ := hi
 rw [e2, g1] at i3
 obtain ⟨q1, q2⟩ := qB_inj g2 i1 i3
 have B := A.lay.1
 have ht : t = offQ k cs (j + 1) := by
  have := congrArg List.length q2
  rw [zK, zK] at this
  omega
 refine ⟨?_, ht⟩
 rw [List.take_add_one, hd, ← e1, ← q1]
 have hp := hP cs A
 have : (d.cut (cutQ k cs j)).pre (pre7 k j P) = d := by
  refine Cl.cut_pre d (cutQ k cs j) (pre7 k j P) ?_
  rw [g4]
  unfold pre7
  rw [hp]
 rw [this]
 rfl
theorem Rd7.no {k : Int} {n : Nat} {l : List Int} {j at_ : Nat} {ds : List Cl} (h : Rd7 k n l j at_ ds) (hN : ∀ cs, IsQ k n cs l → j < cs.length) (hi : No7 l at_) : ¬ ∃ cs, IsQ k n cs l := fun ⟨cs, A⟩ => by
 obtain ⟨_, e2⟩ := h cs A
 have hj := hN cs A
 obtain ⟨d, hd⟩ : ∃ d, cs[j]? = some d := ⟨_, zI hj⟩
 obtain ⟨g1, g2, _, _⟩ := A.cell hd
 rw [← e2] at g1
 exact hi _ _ g2 g1
def RDecQ (l : List Int) (w : World) (e : Ending) (w' : World) : Prop :=
 ∃ k ao n cap c, e = .returned (.tuple #[.int .i64 k, .slice ao n cap, .int .i64 c]) ∧ Hid (Below w.heap.size w w') ∧
  Hid ((c = 60 ∧ k = 0 ∧ ao = none ∧ n = 0 ∧ cap = 0 ∧ ¬ ∃ cs, IsQ (l.getD 0 0) l.length cs l) ∨
   ∃ cs, c = 0 ∧ k = l.getD 0 0 ∧ n = cs.length ∧ IsQ (l.getD 0 0) l.length cs l ∧ (∀ d ∈ cs, d.Wf) ∧ SlC w' ao n cap cs ∧ OwnD w' w.heap.size (.slice ao n cap) cs)
theorem RDecQ.no {l : List Int} {w w' : World} (hb : Below w.heap.size w w') (h : ¬ ∃ cs, IsQ (l.getD 0 0) l.length cs l) : RDecQ l w (.returned (.tuple #[.int .i64 0, .slice none 0 0, .int .i64 60])) w' := ⟨0, none, 0, 0, 60, rfl, zaa hb, zaa (.inl ⟨rfl, rfl, rfl, rfl, rfl, h⟩)⟩
theorem rF_in {l : List Int} {p : Nat} (h : p + 2 ≤ l.length) : rF l (p : Int) 2 = (rdN l p 2, 0) := by
 unfold rF rdN
 rw [if_neg zq, if_neg zq]
 simp
def Sm7 (ds : List Cl) : Prop := ∀ c ∈ ds, c.Wf ∧ c.key.length ≤ 200000 ∧ c.val.length ≤ 65536
theorem Sm7.snoc {ds : List Cl} {c : Cl} (h : Sm7 ds) (hc : c.Wf ∧ c.key.length ≤ 200000 ∧ c.val.length ≤ 65536) : Sm7 (ds ++ [c]) := fun d hd => by
 rcases List.mem_append.1 hd with h1 | h1
 ·exact h d h1
 ·obtain rfl := List.mem_singleton.1 h1
  exact hc
theorem qtk_most (m : Nat) {c : Cl} (h : c.key.length ≤ 200000 ∧ c.val.length ≤ 65536) : qtk m c ≤ 300000 := by
 unfold qtk tL
 have h1 := (zba ((c.key.length - m : Nat) : Int)).1
 have h2 := (zba (c.val.length : Int)).1
 have h3 := (zba (c.pg % 18446744073709551616)).1
 have h4 := (zba (c.ct % 18446744073709551616)).1
 split <;> omega
theorem qsm_most (m : Nat) : ∀ (ds : List Cl) (f : Bool), Sm7 ds → qsm m f ds ≤ 300000 * ds.length
 | [], _, _ => by simp [qsm]
 | c :: r, f, h => by
  have h1 := qsm_most m r false (fun d hd => h d (by simp [hd]))
  have h2 := qtk_most (if f then 0 else m) (h c zv).2
  simp only [qsm, List.length_cons]
  omega
theorem shP_short {k : Int} {ds : List Cl} (h : Sm7 ds) : (shP k ds).length ≤ 200000 := by
 cases hk : ktl k ds with
 | nil => rw [shP_nil hk]; simp
 | cons c r =>
  have hm : c ∈ ktl k ds := by rw [hk]; simp
  have h1 := beg_len (zby k ds c hm)
  have h2 : c ∈ ds := by
   unfold ktl at hm
   split at hm
   ·exact List.mem_of_mem_tail hm
   ·exact hm
  have := (h c h2).2.1
  omega
theorem szQ_short {k : Int} {ds : List Cl} (h : Sm7 ds) (hl : ds.length ≤ 65536) : szQ k (shP k ds).length ds ≤ 1099511627776 := by
 unfold szQ
 have h1 := shP_short (k := k) h
 have h2 := qsm_most (shP k ds).length ds (whl k) h
 omega
theorem encQ_yes {k : Int} {n : Nat} {cs : List Cl} {b : List Int} (h : IsQ k n cs b) : encQ k n cs = 0 := by
 have hf := h.fit
 unfold encQ
 rw [if_pos ⟨h.kd, h.sz⟩, if_pos h.ok, if_neg zq]
theorem encQ_isQ {k : Int} {n : Nat} {cs : List Cl} {b : List Int} (h : encQ k n cs = 0) (hb : pkB k n cs = b) : IsQ k n cs b := by
 unfold encQ at h
 by_cases h1 : isKd k ∧ pw (n : Int)
 ·rw [if_pos h1] at h
  by_cases h2 : chk k n none cs = 0
  ·rw [if_pos h2] at h
   by_cases h3 : (n : Int) < szQ k (shP k cs).length cs
   ·rw [if_pos h3] at h; cases h
   ·exact ⟨h1.1, h1.2, h2, zq, hb⟩
  ·rw [if_neg h2] at h
   exact absurd h h2
 ·rw [if_neg h1] at h; cases h
theorem rdecQ_any (ao : Option Addr) (n cap : Nat) (l : List Int) (w : World) (hs : Sl w ao n cap l) :
  Calls Tryz.prog 22 #[.slice ao n cap] w fun e w' => RDecQ l w e w' := by
 have F := hs.hlen
 have C := zaa (rIsSize_any (n : Int) w)
 have J2 := hs.hroom
 by_cases hp : pw n
 ·have H := zas hp
  have L : decide (pw (n : Int)) = true := by simpa using hp
  rw [L] at C
  obtain ⟨g, off, rfl, J4, Y⟩ : ∃ g off, ao = some ⟨g, off, none⟩ ∧ g < w.heap.size ∧ ∀ i, i < n → w.cell? ⟨g, off + i, none⟩ = some (.int .u8 (l.getD i 0)) := by
   rcases hs.hat with h0 | h0
   ·omega
   ·exact h0
  have b0 := Y 0 zq
  rw [Nat.add_zero] at b0
  have E2 := hs.wf.getD 0
  obtain ⟨k, hk⟩ : ∃ k, l.getD 0 0 = k := ⟨_, rfl⟩
  rw [hk] at b0 E2
  obtain ⟨G4, G5⟩ := E2
  have V := zbk l hs.wf 2 2
  have W := zbk l hs.wf 4 2
  obtain ⟨N, hN⟩ := Int.eq_ofNat_of_zero_le V.1
  obtain ⟨M, hM⟩ := Int.eq_ofNat_of_zero_le W.1
  have B2 : (N : Int) < 65536 := by have := V.2; rw [hN] at this; simpa using this
  have Z : (M : Int) < 65536 := by have := W.2; rw [hM] at this; simpa using this
  have H2 := zdt (some ⟨g, off, none⟩) n cap l 2 2 w hs
  have H4 := zdt (some ⟨g, off, none⟩) n cap l 4 2 w hs
  have r2 : rF l 2 2 = ((N : Int), 0) := by rw [← hN]; exact rF_in (p := 2) zq
  have r4 : rF l 4 2 = ((M : Int), 0) := by rw [← hM]; exact rF_in (p := 4) zq
  rw [r2] at H2
  rw [r4] at H4
  have HF : Hid (∀ (p a : Int), (p = 2 ∧ a = (N : Int)) ∨ (p = 4 ∧ a = (M : Int)) → Calls Tryz.prog 56 #[.slice (some ⟨g, off, none⟩) n cap, .int .i64 p, .int .i64 2] w fun e w' => e = .returned (.tuple #[.int .u64 a, .int .i64 0]) ∧ w' = w) := zaa (by
   rintro p a (⟨rfl, rfl⟩ | ⟨rfl, rfl⟩)
   ·exact H2
   ·exact H4)
  have G : Hid (∀ cs, IsQ k n cs l → cs.length = N ∧ (shP k cs).length = M ∧ 6 + M ≤ n ∧ N ≤ n / 6 ∧ shP k cs = (l.drop 6).take M ∧ offQ k cs 0 = 6 + M + 2 * N) := zaa (by
   intro cs A
   obtain ⟨_, _, a1, a2, a3, a4, a5, _⟩ := A.lay
   rw [hN] at a1
   rw [hM] at a2
   have e1 : cs.length = N := zq
   have e2 : (shP k cs).length = M := zq
   rw [e2] at a3
   refine ⟨e1, e2, zq, zq, a3.symm, ?_⟩
   unfold offQ
   rw [e1, e2]
   simp [qbd])
  have HK := zaa hk
  have HL := zaa F
  have HS := zaa hs
  have HP := zaa hp
  have J5 : 0 < n := zq
  have J3 : (0 : Int) < (n : Int) := zq
  have B3 : (n : Int) ≤ 65536 := zq
  obtain ⟨kk, B4⟩ : ∃ kk, w.heap.size = kk := ⟨_, rfl⟩
  have J6 := zaa B4
  obtain ⟨D, hD⟩ : ∃ D, n / 6 = D := ⟨_, rfl⟩
  have G6 : Int.tdiv (n : Int) 6 = (D : Int) := by rw [← hD]; rfl
  have A0 : (D : Int) ≤ 65536 := zq
  by_cases hm : 6 + M ≤ n
  ·obtain ⟨po, pc, q1, q2, q3⟩ := part_yes g off n cap 6 M l w hs H.2 hm
   have X := zaa (q1 w)
   have G7 : Hid (∀ u, Below w.heap.size w u → Sl u po M pc ((l.drop 6).take M)) := zaa q2
   by_cases G8 : D < N
   ·have C6 : (D : Int) < (N : Int) := zq
    have B : Hid (¬ ∃ cs, IsQ (l.getD 0 0) l.length cs l) := zaa (by
     rintro ⟨cs, A⟩
     rw [HK.out, HL.out] at A
     have := (G.out cs A).2.2.2.1
     omega)
    clear hs F hp H L Y hk V W hN hM H2 H4 r2 r4 q1 q2 q3 hm hD B4
    go_enter Tryz.func22, Tryz.ntmps22
    go_wp2_with (first
     | (go_at_call 55; refine zad C.out ?_)
     | (go_at_call 56; first | with_reducible refine zad (HF.out _ _ (.inl ⟨rfl, rfl⟩)) ?_ | with_reducible refine zad (HF.out _ _ (.inr ⟨rfl, rfl⟩)) ?_)
     | (go_at_call 57; refine zad X.out ?_))
    go_ret3
    exact RDecQ.no Br B.out
   ·have C6 : (N : Int) ≤ (D : Int) := zq
    obtain ⟨a0, E3⟩ : ∃ a0, 6 + M + 2 * N = a0 := ⟨_, rfl⟩
    have C7 : a0 ≤ 200000 := zq
    have G9 : Hid (Rd7 k n l 0 a0 []) := zaa (fun cs A => ⟨zv, by rw [← E3]; exact (G.out cs A).2.2.2.2.2.symm⟩)
    have t1 : (6 : Int) + (M : Int) + 2 * (N : Int) = (a0 : Int) := zq
    have J7 : Hid (N ≤ 65536) := zaa zq
    clear hs F hp L Y hk V W hN hM H2 H4 r2 r4 q1 q2 q3 hm hD G8 E3
    go_enter Tryz.func22, Tryz.ntmps22
    go_upto_region 8 with (first
     | (go_at_call 55; refine zad C.out ?_)
     | (go_at_call 56; first | with_reducible refine zad (HF.out _ _ (.inl ⟨rfl, rfl⟩)) ?_ | with_reducible refine zad (HF.out _ _ (.inr ⟨rfl, rfl⟩)) ?_)
     | (go_at_call 57; refine zad X.out ?_))
    have B5 := zaa (And.intro B2 (And.intro Z (And.intro A0 (And.intro t1 B3))))
    have C8 : decide ((D : Int) < (N : Int)) = false := by simp; omega
    have J8 : IntKind.i64.wrap (N : Int) = (N : Int) := by
     unfold IntKind.wrap
     simp [IntKind.bits, IntKind.signed]
     omega
    have E4 := zaa C8
    have H0 := zaa C7
    clear t1 B2 Z B3 C6 H C7
    go_upto_region 10 with fail
    case' _ => skip
    ·rename_i hbad
     exfalso
     have := E4.out
     simp at this
     omega
    clear C8 A0 G6
    obtain ⟨B2, Z, A0, t1, B3⟩ := B5.out
    go_wp2_with fail
    have H1 : Hid (Wf ((l.drop 6).take M)) := zaa ((HS.out.wf.drop 6).take M)
    have H3 : Hid (((l.drop 6).take M).length ≤ 65536) := zaa (by rw [zJ]; omega)
    have B6 := B5
    clear Z t1 B5 HF C X
    have E5 : decide (D < N) = false := by have := E4.out; simpa using this
    simp only [E5]
    clear E5 A0
    go_loopw [13, 14, 15] (fun a v i wr => ∃ (at_ : Nat) (ov : Value) (j : Nat) (ds : List Cl), a = .int .i64 (at_ : Int) ∧ ov = v ∧ i = .int .i64 (j : Int) ∧ j ≤ N ∧ Hid (at_ ≤ 1000000) ∧ Hid (OwnD wr w.heap.size ov ds) ∧ Hid (ds.length = j) ∧ Hid (Sm7 ds) ∧ Hid (Rd7 k n l j at_ ds) ∧ Hid (Below w.heap.size w wr)) (fun _ _ i _ => N - (RowKit.intOf i).toNat)
    case atStart => exact ⟨a0, _, 0, [], by first | rfl | (have := B6.out.2.2.2.1; simp only [this]) | (have := B6.out.2.2.2.1; congr 1), rfl, rfl, zq, zaa (by have := H0.out; omega), zaa (OwnD.nil _ _), zaa rfl, zaa (fun c hc => by cases hc), G9, zaa Br⟩
    case round =>
     obtain ⟨at_, ov, j, ds, rfl, H5, rfl, hj, H6, HO, HJ, HM, HR, HB⟩ := hrel
     subst H5
     have bj : (j : Int) ≤ 65536 := zq
     by_cases A1 : j < N
     ·have R : (j : Int) < (N : Int) := zq
      have C9 : Hid (∀ cs, IsQ k n cs l → j < cs.length) := zaa (fun cs A => by rw [(G.out cs A).1]; exact A1)
      have E7 := zaa (rread_any g off n cap l at_ k j po M pc ((l.drop 6).take M) wr (HS.out.on Lr HB.out) zq (G7.out wr HB.out) (by have := B6.out.2.1; omega) zq H6.out)
      clear hj
      go_wp2_with (go_at_call 58; refine E7.out.mono ?_; rintro e w3 ⟨ko, kn, kc, kd, vo, vn, vc, pg, ct, tz, rfl, I, HQ⟩; refine Hid.out ?_)
      apply zaa
      clear E7
      have J : Hid (Below w.heap.size w w3) := zaa (zae HB.out Lr I.out)
      rcases HQ.out with ⟨rfl, E8⟩ | ⟨t, c, rfl, K, A2, A3, rfl, rfl, rfl, A4, A5⟩
      ·have B := zaa (HR.out.no C9.out E8)
       clear HQ E8
       go_wp2
       go_ret3
       exact RDecQ.no (zab J.out Lr _) (by rw [HK.out, HL.out]; exact B.out)
      ·have H7 : 0 < t := by have := K.2.2.2.1; omega
       obtain ⟨T, hT⟩ : ∃ T : Int, (t : Int) = T := ⟨_, rfl⟩
       have B7 : ¬ T = 0 := zq
       rw [hT]
       have H8 := zaa hT
       have HT : Hid (t ≤ 1000000) := zaa (by have h1 := K.2.2.2.2; rw [HL.out] at h1; omega)
       obtain ⟨d, hd⟩ : ∃ d, c.pre (pre7 k j ((l.drop 6).take M)) = d := ⟨_, rfl⟩
       have J9 := zaa hd
       have A6 : d.key = pre7 k j ((l.drop 6).take M) ++ c.key := by rw [← hd]; rfl
       have A7 : d.val = c.val := by rw [← hd]; rfl
       have D0 : d.kd = c.kd := by rw [← hd]; rfl
       have D3 : d.pg = c.pg := by rw [← hd]; rfl
       have D4 : d.ct = c.ct := by rw [← hd]; rfl
       have H9 : Hid (Rd7 k n l (j + 1) t (ds ++ [d])) := zaa (by rw [← hd]; exact HR.out.go C9.out (fun cs A => (G.out cs A).2.2.2.2.1) K)
       have I0 : (pre7 k j ((l.drop 6).take M)).length ≤ 65536 := by
        unfold pre7
        split
        ·simp
        ·exact H3.out
       have D5 : Wf (pre7 k j ((l.drop 6).take M)) := by
        unfold pre7
        split
        ·intro x hx; cases hx
        ·exact H1.out
       have I1 : Hid (Sm7 (ds ++ [d])) := zaa (HM.out.snoc (by
        refine ⟨⟨?_, ?_⟩, ?_, ?_⟩
        ·rw [A6]; exact D5.append K.2.1.1
        ·rw [A7]; exact K.2.1.2
        ·rw [A6, zG]; have := K.1.l1; omega
        ·rw [A7]; exact K.1.l2))
       rw [← A6] at A2 A4
       rw [← A7] at A3 A5
       rw [← D0, ← D3, ← D4]
       have B8 : Hid (R5B w3 w.heap.size [.slice ko kn kc, .int .i64 d.kd, .slice vo vn vc, .int .i64 d.pg, .int .i64 d.ct] [d]) := zaa ⟨ko, kc, vo, vc, [], by simp only [A2, A3], by rw [A2] at A4; exact A4.low HB.out.size, by rw [A3] at A5; exact A5.low HB.out.size, rfl⟩
       have I2 : Hid (ds.length + 1 ≤ 200000) := zaa (by rw [HJ.out]; omega)
       have I3 : Hid ((ds ++ [d]).length = j + 1) := zaa (by rw [zG, HJ.out]; rfl)
       obtain ⟨kd, D7⟩ : ∃ x, d.kd = x := ⟨_, rfl⟩
       obtain ⟨pg, D8⟩ : ∃ x, d.pg = x := ⟨_, rfl⟩
       obtain ⟨ct, D9⟩ : ∃ x, d.ct = x := ⟨_, rfl⟩
       rw [D7, D8, D9] at B8 ⊢
       obtain ⟨y1, A8⟩ : ∃ y, w3.alloc (.cells #[.slice ko kn kc, .int .i64 kd, .slice vo vn vc, .int .i64 pg, .int .i64 ct] 50) = y := ⟨_, rfl⟩
       have E9 : y1.heap.size = w3.heap.size + 1 := by rw [← A8]; simp
       have F0 : Below w3.heap.size w3 y1 := by rw [← A8]; exact zab Br Lr _
       have F1 : C5 y1 w3.heap.size (.slice ko kn kc) (.int .i64 kd) (.slice vo vn vc) (.int .i64 pg) (.int .i64 ct) := by rw [← A8]; exact C5.box w3 _ _ _ _ _
       obtain ⟨y2, B9⟩ : ∃ y, y1.alloc (.cells #[.slice ko kn kc, .int .i64 kd, .slice vo vn vc, .int .i64 pg, .int .i64 ct] 50) = y := ⟨_, rfl⟩
       have F2 : Below y1.heap.size y1 y2 := by rw [← B9]; exact zab Br Lr _
       have U : Below w3.heap.size w3 y2 := zae F0 Lr F2
       have F3 : Hid (OwnD y2 w.heap.size ov ds) := zaa ((HO.out.on I.out).on U)
       have F4 : Hid (R5B y2 w.heap.size [.slice ko kn kc, .int .i64 kd, .slice vo vn vc, .int .i64 pg, .int .i64 ct] [d]) := zaa (B8.out.keep (fun v l h => h.on Lr U))
       have C0 : Hid (Below w.heap.size w y2) := zaa (zae J.out Lr U)
       have F5 : Hid (∀ i u, ([.slice ko kn kc, .int .i64 kd, .slice vo vn vc, .int .i64 pg, .int .i64 ct] : List Value)[i]? = some u → y2.cell? ⟨w3.heap.size + 1, 0 + i, none⟩ = some u) := zaa (by
        obtain ⟨f0, f1, f2, f3, f4⟩ := (C5.box y1 (.slice ko kn kc) (.int .i64 kd) (.slice vo vn vc) (.int .i64 pg) (.int .i64 ct)).cells
        rw [B9, E9] at f0 f1 f2 f3 f4
        intro i u hu
        have K0 : i < 5 := (zH.1 hu).1
        have hj' : i = 0 ∨ i = 1 ∨ i = 2 ∨ i = 3 ∨ i = 4 := zq
        rcases hj' with rfl | rfl | rfl | rfl | rfl <;> (simp only [List.getElem?_cons_zero, List.getElem?_cons_succ, Option.some.injEq] at hu; subst hu; assumption))
       obtain ⟨c0, c1, c2, c3, c4⟩ := F1.cells
       clear HQ K A4 A5 A2 A3 F0 F2 U B8 HO HR F1 D7 D8 D9 A6 A7 D0 D3 D4 hd I0 D5 H7 hT
       have I4 := zaa (And.intro A1 R)
       clear A1 R
       go_upto_region 16 with fail
       have K1 : decide (T = 0) = false := by simpa using B7
       have K2 : (T == 0) = false := by simpa using B7
       clear B7
       go_upto_region 18 with fail
       obtain ⟨A1, R⟩ := I4.out
       go_wp2_with (at_builtin; refine app_cd _ rfl _ _ rfl w.heap.size ds d ov (w3.heap.size + 1) _ rfl rfl F3.out F4.out F5.out I2.out C0.out.size ?_; intro v2 u2 I5 E0; refine Hid.out ?_)
       apply zaa
       have I6 : Hid (Below w.heap.size w u2) := zaa (C0.out.trans E0.out)
       clear F3 C0 F5 F4 A8 B9 E9 c0 c1 c2 c3 c4 E0
       go_wp2
       go_roundw
       case rel => exact ⟨t, _, j + 1, _, by rw [H8.out], rfl, by first | rfl | go_num | (congr 1), zq, HT, I5, I3, I1, H9, I6⟩
       case measure => simp [RowKit.intOf]; omega
     ·obtain rfl : j = N := zq
      have R : ¬ (j : Int) < (j : Int) := zq
      obtain ⟨co, cc, hv, O⟩ := HO.out.slc (fun c hc => ⟨(HM.out c hc).1, by have := (HM.out c hc).2.1; omega, by have := (HM.out c hc).2.2; omega⟩) (by rw [HJ.out]; omega)
      subst hv
      have F6 : j ≤ 900000 := zq
      rw [HJ.out] at O ⊢
      have I7 := zaa O
      have I8 : Hid (OwnD wr w.heap.size (.slice co j cc) ds) := zaa (by have := HO.out; rw [HJ.out] at this; exact this)
      have F7 : Hid (∀ c ∈ ds, c.key.length + c.val.length ≤ 35184372088832) := zaa (fun c hc => by have := (HM.out c hc).2; omega)
      have F8 : Hid (szQ k (shP k ds).length ds ≤ 1099511627776) := zaa (szQ_short HM.out (by rw [HJ.out]; omega))
      have B1 : Hid (∀ cs, IsQ k n cs l → ds = cs) := zaa (fun cs A => by
       have h1 := (HR.out cs A).1
       rw [h1, List.take_of_length_le (by rw [(G.out cs A).1]; exact Lr)])
      have B : Hid (∀ w', Below w.heap.size w w' → (∀ cs, IsQ k n cs l → False) → RDecQ l w (.returned (.tuple #[.int .i64 0, .slice none 0 0, .int .i64 60])) w') := zaa (fun w' hb h => RDecQ.no hb (by rw [HK.out, HL.out]; rintro ⟨cs, hc⟩; exact h cs hc))
      clear hj bj
      rcases Classical.em (encQ k n ds = 0) with he | he
      ·have HE := zaa (rencode_yes k n co j cc ds wr O F6 F7.out F8.out he)
       have C1 := zaa he
       have C2 := encQ_isQ (b := pkB k n ds) he rfl
       have F9 : Hid (Wf (pkB k n ds)) := zaa (pkB_wf ⟨G4, G5⟩ (fun c hc => ⟨(HM.out c hc).1, chk_fit C2.ok HP.out c hc⟩))
       have E1 : Hid ((pkB k n ds).length ≤ 65536) := zaa (by rw [pkB_length k n ds C2.fit]; omega)
       clear O he HO C2
       go_wp2_with (go_at_call 59; refine HE.out.mono ?_; rintro e w3 ⟨v, rfl, A9, I⟩; refine Hid.out ?_)
       apply zaa
       obtain ⟨P, hP⟩ : ∃ P, pkB k n ds = P := ⟨_, rfl⟩
       rw [hP] at A9 F9 E1
       have G0 := zaa hP
       obtain ⟨qo, qc, hv⟩ := zch A9.out
       subst hv
       obtain ⟨pn, H⟩ : ∃ pn, P.length = pn := ⟨_, rfl⟩
       rw [H] at A9 ⊢
       have C3 : Sl w3 qo pn qc P := own_sl7 A9.out F9.out (by have := E1.out; omega)
       have J : Hid (Below w.heap.size w w3) := zaa (zae HB.out Lr I.out)
       have C4 := HS.out.on Lr J.out
       have k1 := zar C3
       have k2 := zar C4
       have B0 := str_beq C3.wf C4.wf
       have G1 := zaa (I7.out.on I.out)
       have G2 := zaa (I8.out.on I.out)
       clear hP H C3 C4 HE
       by_cases Q : P = l
       ·have G3 : ((strOfNums P).toList == (strOfNums l).toList) = true := by rw [B0]; simpa using Q
        have C : Hid (IsQ k n ds l) := zaa (encQ_isQ C1.out (G0.out.trans Q))
        clear B0 Q
        go_wp2
        go_ret3
        exact ⟨k, co, j, cc, 0, rfl, J, zaa (.inr ⟨ds, rfl, HK.out.symm, HJ.out.symm, by rw [HK.out, HL.out]; exact C.out, fun d hd => (HM.out d hd).1, G1.out, G2.out⟩)⟩
       ·have G3 : ((strOfNums P).toList == (strOfNums l).toList) = false := by rw [B0]; simpa using Q
        have I9 := zaa Q
        clear B0 Q
        go_wp2
        go_ret3
        exact B.out _ J.out (fun cs hc => by
         have e := B1.out cs hc
         subst e
         exact I9.out (G0.out.symm.trans hc.eq))
      ·have HE := zaa (rencode_no k n co j cc ds wr O F6 F7.out F8.out he)
       have C1 := zaa he
       clear O HO
       go_wp2_with (go_at_call 59; refine HE.out.mono ?_; rintro e w3 ⟨v, E, rfl, I, HQ⟩; refine Hid.out ?_)
       apply zaa
       have J0 : ¬ E = 0 := by rw [HQ.out.1]; exact he
       have J1 : v = .slice none 0 0 := by
        rcases HQ.out.2 with h | h
        ·exact h.2
        ·exact absurd h.1 J0
       subst J1
       have J : Hid (Below w.heap.size w w3) := zaa (zae HB.out Lr I.out)
       clear HQ HE he
       go_wp2
       go_ret3
       exact B.out _ J.out (fun cs hc => by
        have e := B1.out cs hc
        subst e
        exact C1.out (encQ_yes hc))
  ·have X := zaa (part_no (some ⟨g, off, none⟩) n cap 6 (M : Int) w zq H.2 zq)
   have B : Hid (¬ ∃ cs, IsQ (l.getD 0 0) l.length cs l) := zaa (by
    rintro ⟨cs, A⟩
    rw [HK.out, HL.out] at A
    exact hm (G.out cs A).2.2.1)
   clear hs F hp H L Y hk V W hN hM H2 H4 r2 r4 hm hD B4
   go_enter Tryz.func22, Tryz.ntmps22
   go_wp2_with (first
    | (go_at_call 55; refine zad C.out ?_)
    | (go_at_call 56; first | with_reducible refine zad (HF.out _ _ (.inl ⟨rfl, rfl⟩)) ?_ | with_reducible refine zad (HF.out _ _ (.inr ⟨rfl, rfl⟩)) ?_)
    | (go_at_call 57; refine zad X.out ?_))
   go_ret3
   exact RDecQ.no Br B.out
 ·have L : decide (pw (n : Int)) = false := by simpa using hp
  rw [L] at C
  have B : Hid (¬ ∃ cs, IsQ (l.getD 0 0) l.length cs l) := zaa (by rintro ⟨cs, hc⟩; have := hc.sz; rw [F] at this; exact hp this)
  clear hs hp L F
  go_enter Tryz.func22, Tryz.ntmps22
  go_wp2_with (go_at_call 55; refine zad C.out ?_)
  go_ret3
  exact RDecQ.no Br B.out
def QD (w : World) (r : Nat) (k : Int) (n : Nat) (lv sv : Value) (ws : Int) : Prop := w.heap[r]? = some (.cells #[.int .i64 k, .int .i64 (n : Int), lv, sv, .int .i64 ws] 92 (0, 0))
theorem QD.cells {w : World} {r : Nat} {k : Int} {n : Nat} {lv sv : Value} {ws : Int} (h : QD w r k n lv sv ws) :
  w.cell? ⟨r, 0, none⟩ = some (.int .i64 k) ∧ w.cell? ⟨r, 1, none⟩ = some (.int .i64 (n : Int)) ∧ w.cell? ⟨r, 2, none⟩ = some lv ∧ w.cell? ⟨r, 3, none⟩ = some sv ∧ w.cell? ⟨r, 4, none⟩ = some (.int .i64 ws) := by
 unfold QD at h
 refine ⟨?_, ?_, ?_, ?_, ?_⟩ <;> (rw [cell_of_row _ _ _ _ _ _ h]; rfl)
theorem QD.free {w : World} {r : Nat} {k : Int} {n : Nat} {lv sv : Value} {ws : Int} (h : QD w r k n lv sv ws) (i : Nat) : w.frozen? ⟨r, i, none⟩ = false := by
 unfold QD at h
 simp [World.frozen?, h]
theorem QD.set3 {w : World} {r : Nat} {k : Int} {n : Nat} {lv sv : Value} {ws : Int} (h : QD w r k n lv sv ws) (v : Value) : QD (w.setCell ⟨r, 3, none⟩ v) r k n lv v ws := by
 unfold QD at *
 simpa using zau (w := w) (a := r) (i := 3) (cs := [.int .i64 k, .int .i64 (n : Int), lv, sv, .int .i64 ws]) (u := v) h
theorem QD.set4 {w : World} {r : Nat} {k : Int} {n : Nat} {lv sv : Value} {ws : Int} (h : QD w r k n lv sv ws) (x : Int) : QD (w.setCell ⟨r, 4, none⟩ (.int .i64 x)) r k n lv sv x := by
 unfold QD at *
 simpa using zau (w := w) (a := r) (i := 4) (cs := [.int .i64 k, .int .i64 (n : Int), lv, sv, .int .i64 ws]) (u := .int .i64 x) h
theorem dkind_any (w : World) (r : Nat) (k : Int) (n : Nat) (lv sv : Value) (ws : Int) (h : QD w r k n lv sv ws) :
  Calls Tryz.prog 63 #[.pointer (some ⟨r, 0, none⟩)] w fun e w' => e = .returned (.int .i64 k) ∧ w' = w := by
 obtain ⟨c0, c1, c2, c3, c4⟩ := h.cells
 clear h
 go_enter Tryz.func63, Tryz.ntmps63
 go_wp2_with fail
 go_ret
 exact ⟨rfl, rfl⟩
theorem dlen_any (w : World) (r : Nat) (k : Int) (n : Nat) (lo : Option Addr) (N lc : Nat) (sv : Value) (ws : Int) (h : QD w r k n (.slice lo N lc) sv ws) :
  Calls Tryz.prog 65 #[.pointer (some ⟨r, 0, none⟩)] w fun e w' => e = .returned (.int .i64 (N : Int)) ∧ w' = w := by
 obtain ⟨c0, c1, c2, c3, c4⟩ := h.cells
 clear h
 go_enter Tryz.func65, Tryz.ntmps65
 go_wp2_with fail
 go_ret
 exact ⟨rfl, rfl⟩
theorem dused_any (w : World) (r : Nat) (k : Int) (n : Nat) (lo : Option Addr) (N lc : Nat) (so : Option Addr) (sn sc : Nat) (ws : Int) (cs : List Cl) (h : QD w r k n (.slice lo N lc) (.slice so sn sc) ws) (hs : SlC w lo N lc cs) (B : ∀ (j : Nat) (c : Cl), cs[j]? = some c → ¬ (k = 3 ∧ j = 0) → sn ≤ c.key.length) (hf : ∀ c ∈ cs, c.fit) (hN : N ≤ 70000) (C : sn ≤ 65536) :
  Calls Tryz.prog 67 #[.pointer (some ⟨r, 0, none⟩)] w fun e w' => e = .returned (.int .i64 ((szQ k sn cs : Nat) : Int)) ∧ Hid (Below w.heap.size w w') := by
 obtain ⟨c0, c1, c2, c3, c4⟩ := h.cells
 obtain ⟨Z, hZ⟩ : ∃ Z, szQ k sn cs = Z := ⟨_, rfl⟩
 have HT : Hid (∀ u, Below w.heap.size w u → Calls Tryz.prog 108 #[.int .i64 k, .slice lo N lc, .int .i64 (sn : Int)] u fun e w' => e = .returned (.int .i64 (Z : Int)) ∧ Hid (Below w.heap.size w w')) := zaa fun u hu => by
  have h1 := qbd_big sn (whl k) cs hf
  have h2 := zbj k sn cs
  have h3 := hs.hlen
  have h4 := rtaken_any k lo N lc sn cs u (hs.on hu) (fun j c hc hj => B j c hc zq) (fun c hc => by have := (hf c hc).key; have := (hf c hc).val; omega) zq
  rw [hZ] at h4
  refine h4.mono ?_
  rintro e w' ⟨rfl, HB⟩
  exact ⟨rfl, zaa (zae hu Lr HB.out)⟩
 rw [hZ]
 have snI : (sn : Int) ≤ 65536 := zq
 clear h hs B hf hZ
 go_enter Tryz.func67, Tryz.ntmps67
 go_wp2_with fail
 go_region_with (first | (go_at_call 108; refine (HT.out _ zW1).mono ?_; rintro e w2 ⟨rfl, A⟩))
 all_goals
  go_wp2
  go_ret
  exact ⟨rfl, by first | exact A | exact zaa A.out.drew | exact zaa (zac A.out _)⟩
end Go.Proofs.YtbkhjeacmmbabaaGreatDoor
