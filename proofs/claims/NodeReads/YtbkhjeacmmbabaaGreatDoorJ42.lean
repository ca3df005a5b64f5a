import Derived.Test.YtbkhjeacmmbabaaGreatDoorJ41
import Derived.Deep.MidRow
import Derived.Deep.Upon
import Derived.Laws.IdiomCopy
import Derived.Lib.SlBytesConst
import Derived.Deep.RegionHeld
import Derived.BigQuiet
namespace Go.Proofs.YtbkhjeacmmbabaaGreatDoor
set_option maxRecDepth 100000
set_option maxHeartbeats 8000000
open Go.RowKit
theorem rread_end2 (g off n cap : Nat) (l : List Int) (at_ : Nat) (k : Int) (i : Nat) (po : Option Addr) (pn pc : Nat) (P : List Int) (w : World) (hs : Sl w (some ⟨g, off, none⟩) n cap l) (hn : n ≤ 65536) (hP : Sl w po pn pc P) (_hpn : pn ≤ 65536) (_hi : i ≤ 65536) (ha : n ≤ at_) (ha2 : at_ ≤ 1000000) :
  Calls Tryz.prog 58 #[.slice (some ⟨g, off, none⟩) n cap, .int .i64 (at_ : Int), .int .i64 k, .int .i64 (i : Int), .slice po pn pc] w (RdTo l at_ k i P w) := by
 have HS := zaa hs
 have HP := zaa hP
 have hlen := hs.hlen
 have hcap := hs.hcap
 have hnI : (n : Int) ≤ 65536 := by omega
 obtain ⟨kk, hkk⟩ : ∃ kk, w.heap.size = kk := ⟨_, rfl⟩
 have HNO := zaa (no_end (l := l) (at_ := at_) (by omega))
 have haI : (n : Int) ≤ (at_ : Int) := by omega
 have haJ : (at_ : Int) ≤ 1000000 := by omega
 have h0 : ¬ (at_ : Int) < 0 := by omega
 have HB0 : Hid (Below w.heap.size w (w.alloc (.cells #[.slice none 0 0, .int .i64 0, .slice none 0 0, .int .i64 0, .int .i64 0] 50))) := zaa (zad Br Lr _)
 have HC0 : Hid (C5 (w.alloc (.cells #[.slice none 0 0, .int .i64 0, .slice none 0 0, .int .i64 0, .int .i64 0] 50)) kk (.slice none 0 0) (.int .i64 0) (.slice none 0 0) (.int .i64 0) (.int .i64 0)) := zaa (by rw [← hkk]; exact C5.box w _ _ _ _ _)
 clear hs hP hlen
 go_enter Tryz.func58, Tryz.ntmps58
 go_wp2
 refine bodyPost_ret (zbd rfl _ _ kk 50 #[.slice none 0 0, .int .i64 0, .slice none 0 0, .int .i64 0, .int .i64 0] (0, 0) _ (.int .i64 0) (by rfl) (by rfl) HC0.out Tryz.underlying50 rfl zal) rfl ?_
 exact RdTo.no HB0.out HNO.out
theorem rread_any (g off n cap : Nat) (l : List Int) (at_ : Nat) (k : Int) (i : Nat) (po : Option Addr) (pn pc : Nat) (P : List Int) (w : World) (hs : Sl w (some ⟨g, off, none⟩) n cap l) (hn : n ≤ 65536) (hP : Sl w po pn pc P) (hpn : pn ≤ 65536) (hi : i ≤ 65536) (ha : at_ ≤ 1000000) :
  Calls Tryz.prog 58 #[.slice (some ⟨g, off, none⟩) n cap, .int .i64 (at_ : Int), .int .i64 k, .int .i64 (i : Int), .slice po pn pc] w (RdTo l at_ k i P w) := by
 by_cases h1 : n ≤ at_
 ·exact rread_end2 g off n cap l at_ k i po pn pc P w hs hn hP hpn hi h1 ha
 ·have hl := hs.hlen
  by_cases he : (rUx l ((at_ + 1 : Nat) : Int)).2.2 = 0
  ·obtain ⟨v, t, hvt, _⟩ := ru_ok hs.wf (by omega) he
   by_cases hv : n < t + v
   ·exact rread_rest g off n cap l at_ k i po pn pc P w hs hn hP hpn hi (by omega) he v t hvt hv
   ·by_cases hk : k = 3 ∧ i = 0
    ·exact rread_whole g off n cap l at_ k i po pn pc P w hs hn hP hpn hi (by omega) he v t hvt (by omega) hk
    ·exact rread_pre g off n cap l at_ k i po pn pc P w hs hn hP hpn hi (by omega) he v t hvt (by omega) hk
  ·exact rread_key g off n cap l at_ k i po pn pc P w hs hn hP hpn hi (by omega) he
def Rd7 (k : Int) (n : Nat) (l : List Int) (j at_ : Nat) (ds : List Cl) : Prop := ∀ cs, IsQ k n cs l → ds = cs.take j ∧ at_ = offQ k cs j
theorem Rd7.go {k : Int} {n : Nat} {l : List Int} {j at_ t : Nat} {ds : List Cl} {c : Cl} {P : List Int} (h : Rd7 k n l j at_ ds) (hN : ∀ cs, IsQ k n cs l → j < cs.length) (hP : ∀ cs, IsQ k n cs l → shP k cs = P) (hi : Is7 l at_ t c) : Rd7 k n l (j + 1) t (ds ++ [c.pre (pre7 k j P)]) := fun cs hcs => by
 obtain ⟨e1, e2⟩ := h cs hcs
 have hj := hN cs hcs
 obtain ⟨d, hd⟩ : ∃ d, cs[j]? = some d := ⟨_, zI hj⟩
 obtain ⟨g1, g2, g3, g4⟩ := hcs.cell hd
 obtain ⟨i1, _, i3, i4, i5⟩ := hi
 rw [e2, g1] at i3
 obtain ⟨q1, q2⟩ := qB_inj g2 i1 i3
 have hlen := hcs.lay.1
 have ht : t = offQ k cs (j + 1) := by
  have := congrArg List.length q2
  rw [zK, zK] at this
  omega
 refine ⟨?_, ht⟩
 rw [List.take_add_one, hd, ← e1, ← q1]
 have hp := hP cs hcs
 have : (d.cut (cutQ k cs j)).pre (pre7 k j P) = d := by
  refine Cl.cut_pre d (cutQ k cs j) (pre7 k j P) ?_
  rw [g4]
  unfold pre7
  rw [hp]
 rw [this]
 rfl
theorem Rd7.no {k : Int} {n : Nat} {l : List Int} {j at_ : Nat} {ds : List Cl} (h : Rd7 k n l j at_ ds) (hN : ∀ cs, IsQ k n cs l → j < cs.length) (hi : No7 l at_) : ¬ ∃ cs, IsQ k n cs l := fun ⟨cs, hcs⟩ => by
 obtain ⟨_, e2⟩ := h cs hcs
 have hj := hN cs hcs
 obtain ⟨d, hd⟩ : ∃ d, cs[j]? = some d := ⟨_, zI hj⟩
 obtain ⟨g1, g2, _, _⟩ := hcs.cell hd
 rw [← e2] at g1
 exact hi _ _ g2 g1
def RDecQ (l : List Int) (w : World) (e : Ending) (w' : World) : Prop :=
 ∃ k ao n cap c, e = .returned (.tuple #[.int .i64 k, .slice ao n cap, .int .i64 c]) ∧ Hid (Below w.heap.size w w') ∧
  Hid ((c = 60 ∧ k = 0 ∧ ao = none ∧ n = 0 ∧ cap = 0 ∧ ¬ ∃ cs, IsQ (l.getD 0 0) l.length cs l) ∨
   ∃ cs, c = 0 ∧ k = l.getD 0 0 ∧ n = cs.length ∧ IsQ (l.getD 0 0) l.length cs l ∧ (∀ d ∈ cs, d.Wf) ∧ SlC w' ao n cap cs ∧ OwnD w' w.heap.size (.slice ao n cap) cs)
theorem RDecQ.no {l : List Int} {w w' : World} (hb : Below w.heap.size w w') (h : ¬ ∃ cs, IsQ (l.getD 0 0) l.length cs l) : RDecQ l w (.returned (.tuple #[.int .i64 0, .slice none 0 0, .int .i64 60])) w' := ⟨0, none, 0, 0, 60, rfl, zaa hb, zaa (.inl ⟨rfl, rfl, rfl, rfl, rfl, h⟩)⟩
theorem rF_in {l : List Int} {p : Nat} (h : p + 2 ≤ l.length) : rF l (p : Int) 2 = (rdN l p 2, 0) := by
 unfold rF rdN
 rw [if_neg (by omega), if_neg (by omega)]
 simp
def Sm7 (ds : List Cl) : Prop := ∀ c ∈ ds, c.Wf ∧ c.key.length ≤ 200000 ∧ c.val.length ≤ 65536
theorem Sm7.snoc {ds : List Cl} {c : Cl} (h : Sm7 ds) (hc : c.Wf ∧ c.key.length ≤ 200000 ∧ c.val.length ≤ 65536) : Sm7 (ds ++ [c]) := fun d hd => by
 rcases List.mem_append.1 hd with h1 | h1
 ·exact h d h1
 ·obtain rfl := List.mem_singleton.1 h1
  exact hc
theorem qtk_most (m : Nat) {c : Cl} (h : c.key.length ≤ 200000 ∧ c.val.length ≤ 65536) : qtk m c ≤ 300000 := by
 unfold qtk tL
 have h1 := (zbe ((c.key.length - m : Nat) : Int)).1
 have h2 := (zbe (c.val.length : Int)).1
 have h3 := (zbe (c.pg % 18446744073709551616)).1
 have h4 := (zbe (c.ct % 18446744073709551616)).1
 split <;> omega
theorem qsm_most (m : Nat) : ∀ (ds : List Cl) (f : Bool), Sm7 ds → qsm m f ds ≤ 300000 * ds.length
 | [], _, _ => by simp [qsm]
 | c :: r, f, h => by
  have h1 := qsm_most m r false (fun d hd => h d (by simp [hd]))
  have h2 := qtk_most (if f then 0 else m) (h c (by simp)).2
  simp only [qsm, List.length_cons]
  omega
theorem shP_short {k : Int} {ds : List Cl} (h : Sm7 ds) : (shP k ds).length ≤ 200000 := by
 cases hk : ktl k ds with
 | nil => rw [shP_nil hk]; simp
 | cons c r =>
  have hm : c ∈ ktl k ds := by rw [hk]; simp
  have h1 := beg_len (zce k ds c hm)
  have h2 : c ∈ ds := by
   unfold ktl at hm
   split at hm
   ·exact List.mem_of_mem_tail hm
   ·exact hm
  have := (h c h2).2.1
  omega
theorem szQ_short {k : Int} {ds : List Cl} (h : Sm7 ds) (hl : ds.length ≤ 65536) : szQ k (shP k ds).length ds ≤ 1099511627776 := by
 unfold szQ
 have h1 := shP_short (k := k) h
 have h2 := qsm_most (shP k ds).length ds (whl k) h
 omega
theorem encQ_yes {k : Int} {n : Nat} {cs : List Cl} {b : List Int} (h : IsQ k n cs b) : encQ k n cs = 0 := by
 have hf := h.fit
 unfold encQ
 rw [if_pos ⟨h.kd, h.sz⟩, if_pos h.ok, if_neg (by omega)]
theorem encQ_isQ {k : Int} {n : Nat} {cs : List Cl} {b : List Int} (h : encQ k n cs = 0) (hb : pkB k n cs = b) : IsQ k n cs b := by
 unfold encQ at h
 by_cases h1 : isKd k ∧ pw (n : Int)
 ·rw [if_pos h1] at h
  by_cases h2 : chk k n none cs = 0
  ·rw [if_pos h2] at h
   by_cases h3 : (n : Int) < szQ k (shP k cs).length cs
   ·rw [if_pos h3] at h; cases h
   ·exact ⟨h1.1, h1.2, h2, by omega, hb⟩
  ·rw [if_neg h2] at h
   exact absurd h h2
 ·rw [if_neg h1] at h; cases h
theorem rdecQ_any (ao : Option Addr) (n cap : Nat) (l : List Int) (w : World) (hs : Sl w ao n cap l) :
  Calls Tryz.prog 22 #[.slice ao n cap] w fun e w' => RDecQ l w e w' := by
 have hlen := hs.hlen
 have HIS := zaa (rIsSize_any (n : Int) w)
 have hroom := hs.hroom
 by_cases hp : pw n
 ·have hpn := zao hp
  have hpb : decide (pw (n : Int)) = true := by simpa using hp
  rw [hpb] at HIS
  obtain ⟨g, off, rfl, hgl, hcl⟩ : ∃ g off, ao = some ⟨g, off, none⟩ ∧ g < w.heap.size ∧ ∀ i, i < n → w.cell? ⟨g, off + i, none⟩ = some (.int .u8 (l.getD i 0)) := by
   rcases hs.hat with h0 | h0
   ·omega
   ·exact h0
  have b0 := hcl 0 (by omega)
  rw [Nat.add_zero] at b0
  have hby := hs.wf.getD 0
  obtain ⟨k, hk⟩ : ∃ k, l.getD 0 0 = k := ⟨_, rfl⟩
  rw [hk] at b0 hby
  obtain ⟨hk0, hk1⟩ := hby
  have hNb := zbh l hs.wf 2 2
  have hMb := zbh l hs.wf 4 2
  obtain ⟨N, hN⟩ := Int.eq_ofNat_of_zero_le hNb.1
  obtain ⟨M, hM⟩ := Int.eq_ofNat_of_zero_le hMb.1
  have hN6 : (N : Int) < 65536 := by have := hNb.2; rw [hN] at this; simpa using this
  have hM6 : (M : Int) < 65536 := by have := hMb.2; rw [hM] at this; simpa using this
  have H2 := zeh (some ⟨g, off, none⟩) n cap l 2 2 w hs
  have H4 := zeh (some ⟨g, off, none⟩) n cap l 4 2 w hs
  have r2 : rF l 2 2 = ((N : Int), 0) := by rw [← hN]; exact rF_in (p := 2) (by omega)
  have r4 : rF l 4 2 = ((M : Int), 0) := by rw [← hM]; exact rF_in (p := 4) (by omega)
  rw [r2] at H2
  rw [r4] at H4
  have HF : Hid (∀ (p a : Int), (p = 2 ∧ a = (N : Int)) ∨ (p = 4 ∧ a = (M : Int)) → Calls Tryz.prog 56 #[.slice (some ⟨g, off, none⟩) n cap, .int .i64 p, .int .i64 2] w fun e w' => e = .returned (.tuple #[.int .u64 a, .int .i64 0]) ∧ w' = w) := zaa (by
   rintro p a (⟨rfl, rfl⟩ | ⟨rfl, rfl⟩)
   ·exact H2
   ·exact H4)
  have HLAY : Hid (∀ cs, IsQ k n cs l → cs.length = N ∧ (shP k cs).length = M ∧ 6 + M ≤ n ∧ N ≤ n / 6 ∧ shP k cs = (l.drop 6).take M ∧ offQ k cs 0 = 6 + M + 2 * N) := zaa (by
   intro cs hcs
   obtain ⟨_, _, a1, a2, a3, a4, a5, _⟩ := hcs.lay
   rw [hN] at a1
   rw [hM] at a2
   have e1 : cs.length = N := by omega
   have e2 : (shP k cs).length = M := by omega
   rw [e2] at a3
   refine ⟨e1, e2, by omega, by omega, a3.symm, ?_⟩
   unfold offQ
   rw [e1, e2]
   simp [qbd])
  have HK := zaa hk
  have HL := zaa hlen
  have HS := zaa hs
  have HP := zaa hp
  have hn0 : 0 < n := by omega
  have hn0I : (0 : Int) < (n : Int) := by omega
  have hnI : (n : Int) ≤ 65536 := by omega
  obtain ⟨kk, hkk⟩ : ∃ kk, w.heap.size = kk := ⟨_, rfl⟩
  have HKK := zaa hkk
  obtain ⟨D, hD⟩ : ∃ D, n / 6 = D := ⟨_, rfl⟩
  have hDI : Int.tdiv (n : Int) 6 = (D : Int) := by rw [← hD]; rfl
  have hDb : (D : Int) ≤ 65536 := by omega
  by_cases hm : 6 + M ≤ n
  ·obtain ⟨po, pc, q1, q2, q3⟩ := part_yes g off n cap 6 M l w hs hpn.2 hm
   have HPA := zaa (q1 w)
   have HPS : Hid (∀ u, Below w.heap.size w u → Sl u po M pc ((l.drop 6).take M)) := zaa q2
   by_cases hnd : D < N
   ·have hndI : (D : Int) < (N : Int) := by omega
    have HNO : Hid (¬ ∃ cs, IsQ (l.getD 0 0) l.length cs l) := zaa (by
     rintro ⟨cs, hcs⟩
     rw [HK.out, HL.out] at hcs
     have := (HLAY.out cs hcs).2.2.2.1
     omega)
    clear hs hlen hp hpn hpb hcl hk hNb hMb hN hM H2 H4 r2 r4 q1 q2 q3 hm hD hkk
    go_enter Tryz.func22, Tryz.ntmps22
    go_wp2_with (first
     | (go_at_call 55; refine zac HIS.out ?_)
     | (go_at_call 56; first | with_reducible refine zac (HF.out _ _ (.inl ⟨rfl, rfl⟩)) ?_ | with_reducible refine zac (HF.out _ _ (.inr ⟨rfl, rfl⟩)) ?_)
     | (go_at_call 57; refine zac HPA.out ?_))
    go_ret3
    exact RDecQ.no Br HNO.out
   ·have hndI : (N : Int) ≤ (D : Int) := by omega
    obtain ⟨a0, ha0⟩ : ∃ a0, 6 + M + 2 * N = a0 := ⟨_, rfl⟩
    have ha0b : a0 ≤ 200000 := by omega
    have HR0 : Hid (Rd7 k n l 0 a0 []) := zaa (fun cs hcs => ⟨by simp, by rw [← ha0]; exact (HLAY.out cs hcs).2.2.2.2.2.symm⟩)
    have t1 : (6 : Int) + (M : Int) + 2 * (N : Int) = (a0 : Int) := by omega
    have HNI : Hid (N ≤ 65536) := zaa (by omega)
    clear hs hlen hp hpb hcl hk hNb hMb hN hM H2 H4 r2 r4 q1 q2 q3 hm hD hnd ha0
    go_enter Tryz.func22, Tryz.ntmps22
    go_upto_region 8 with (first
     | (go_at_call 55; refine zac HIS.out ?_)
     | (go_at_call 56; first | with_reducible refine zac (HF.out _ _ (.inl ⟨rfl, rfl⟩)) ?_ | with_reducible refine zac (HF.out _ _ (.inr ⟨rfl, rfl⟩)) ?_)
     | (go_at_call 57; refine zac HPA.out ?_))
    have HB9 := zaa (And.intro hN6 (And.intro hM6 (And.intro hDb (And.intro t1 hnI))))
    have hnd2 : decide ((D : Int) < (N : Int)) = false := by simp; omega
    have hwN : IntKind.i64.wrap (N : Int) = (N : Int) := by
     unfold IntKind.wrap
     simp [IntKind.bits, IntKind.signed]
     omega
    have HND := zaa hnd2
    have HA0 := zaa ha0b
    clear t1 hN6 hM6 hnI hndI hpn ha0b
    go_upto_region 10 with fail
    case' _ => skip
    ·rename_i hbad
     exfalso
     have := HND.out
     simp at this
     omega
    clear hnd2 hDb hDI
    obtain ⟨hN6, hM6, hDb, t1, hnI⟩ := HB9.out
    go_wp2_with fail
    have HWP : Hid (Wf ((l.drop 6).take M)) := zaa ((HS.out.wf.drop 6).take M)
    have HPL : Hid (((l.drop 6).take M).length ≤ 65536) := zaa (by rw [zJ]; omega)
    have HB0 := HB9
    clear hM6 t1 HB9 HF HIS HPA
    have hdd : decide (D < N) = false := by have := HND.out; simpa using this
    simp only [hdd]
    clear hdd hDb
    go_loopw [13, 14, 15] (fun a v i wr => ∃ (at_ : Nat) (ov : Value) (j : Nat) (ds : List Cl), a = .int .i64 (at_ : Int) ∧ ov = v ∧ i = .int .i64 (j : Int) ∧ j ≤ N ∧ Hid (at_ ≤ 1000000) ∧ Hid (OwnD wr w.heap.size ov ds) ∧ Hid (ds.length = j) ∧ Hid (Sm7 ds) ∧ Hid (Rd7 k n l j at_ ds) ∧ Hid (Below w.heap.size w wr)) (fun _ _ i _ => N - (RowKit.intOf i).toNat)
    case atStart => exact ⟨a0, _, 0, [], by first | rfl | (have := HB0.out.2.2.2.1; simp only [this]) | (have := HB0.out.2.2.2.1; congr 1), rfl, rfl, by omega, zaa (by have := HA0.out; omega), zaa (OwnD.nil _ _), zaa rfl, zaa (fun c hc => by cases hc), HR0, zaa Br⟩
    case round =>
     obtain ⟨at_, ov, j, ds, rfl, hov, rfl, hj, HAT, HO, HJ, HM, HR, HB⟩ := hrel
     subst hov
     have bj : (j : Int) ≤ 65536 := by omega
     by_cases hlt : j < N
     ·have hltI : (j : Int) < (N : Int) := by omega
      have HLTN : Hid (∀ cs, IsQ k n cs l → j < cs.length) := zaa (fun cs hcs => by rw [(HLAY.out cs hcs).1]; exact hlt)
      have HRD := zaa (rread_any g off n cap l at_ k j po M pc ((l.drop 6).take M) wr (HS.out.on Lr HB.out) (by omega) (HPS.out wr HB.out) (by have := HB0.out.2.1; omega) (by omega) HAT.out)
      clear hj
      go_wp2_with (go_at_call 58; refine HRD.out.mono ?_; rintro e w3 ⟨ko, kn, kc, kd, vo, vn, vc, pg, ct, tz, rfl, HBc, HQ⟩; refine Hid.out ?_)
      apply zaa
      clear HRD
      have HB3 : Hid (Below w.heap.size w w3) := zaa (zae HB.out Lr HBc.out)
      rcases HQ.out with ⟨rfl, hno⟩ | ⟨t, c, rfl, his, hkn, hvn, rfl, rfl, rfl, ho1, ho2⟩
      ·have HNO := zaa (HR.out.no HLTN.out hno)
       clear HQ hno
       go_wp2
       go_ret3
       exact RDecQ.no (zad HB3.out Lr _) (by rw [HK.out, HL.out]; exact HNO.out)
      ·have htp : 0 < t := by have := his.2.2.2.1; omega
       obtain ⟨T, hT⟩ : ∃ T : Int, (t : Int) = T := ⟨_, rfl⟩
       have htI : ¬ T = 0 := by omega
       rw [hT]
       have HTT := zaa hT
       have HT : Hid (t ≤ 1000000) := zaa (by have h1 := his.2.2.2.2; rw [HL.out] at h1; omega)
       obtain ⟨d, hd⟩ : ∃ d, c.pre (pre7 k j ((l.drop 6).take M)) = d := ⟨_, rfl⟩
       have HDD := zaa hd
       have hdk : d.key = pre7 k j ((l.drop 6).take M) ++ c.key := by rw [← hd]; rfl
       have hdv : d.val = c.val := by rw [← hd]; rfl
       have hdkd : d.kd = c.kd := by rw [← hd]; rfl
       have hdpg : d.pg = c.pg := by rw [← hd]; rfl
       have hdct : d.ct = c.ct := by rw [← hd]; rfl
       have HR3 : Hid (Rd7 k n l (j + 1) t (ds ++ [d])) := zaa (by rw [← hd]; exact HR.out.go HLTN.out (fun cs hcs => (HLAY.out cs hcs).2.2.2.2.1) his)
       have hpl : (pre7 k j ((l.drop 6).take M)).length ≤ 65536 := by
        unfold pre7
        split
        ·simp
        ·exact HPL.out
       have hpw7 : Wf (pre7 k j ((l.drop 6).take M)) := by
        unfold pre7
        split
        ·intro x hx; cases hx
        ·exact HWP.out
       have HM3 : Hid (Sm7 (ds ++ [d])) := zaa (HM.out.snoc (by
        refine ⟨⟨?_, ?_⟩, ?_, ?_⟩
        ·rw [hdk]; exact hpw7.append his.2.1.1
        ·rw [hdv]; exact his.2.1.2
        ·rw [hdk, zG]; have := his.1.l1; omega
        ·rw [hdv]; exact his.1.l2))
       rw [← hdk] at hkn ho1
       rw [← hdv] at hvn ho2
       rw [← hdkd, ← hdpg, ← hdct]
       have HRO : Hid (R5B w3 w.heap.size [.slice ko kn kc, .int .i64 d.kd, .slice vo vn vc, .int .i64 d.pg, .int .i64 d.ct] [d]) := zaa ⟨ko, kc, vo, vc, [], by simp only [hkn, hvn], by rw [hkn] at ho1; exact ho1.low HB.out.size, by rw [hvn] at ho2; exact ho2.low HB.out.size, rfl⟩
       have HBN : Hid (ds.length + 1 ≤ 200000) := zaa (by rw [HJ.out]; omega)
       have HJ3 : Hid ((ds ++ [d]).length = j + 1) := zaa (by rw [zG, HJ.out]; rfl)
       obtain ⟨kd, hkd'⟩ : ∃ x, d.kd = x := ⟨_, rfl⟩
       obtain ⟨pg, hpg'⟩ : ∃ x, d.pg = x := ⟨_, rfl⟩
       obtain ⟨ct, hct'⟩ : ∃ x, d.ct = x := ⟨_, rfl⟩
       rw [hkd', hpg', hct'] at HRO ⊢
       obtain ⟨y1, hy1⟩ : ∃ y, w3.alloc (.cells #[.slice ko kn kc, .int .i64 kd, .slice vo vn vc, .int .i64 pg, .int .i64 ct] 50) = y := ⟨_, rfl⟩
       have hz1 : y1.heap.size = w3.heap.size + 1 := by rw [← hy1]; simp
       have hb1 : Below w3.heap.size w3 y1 := by rw [← hy1]; exact zad Br Lr _
       have hc1 : C5 y1 w3.heap.size (.slice ko kn kc) (.int .i64 kd) (.slice vo vn vc) (.int .i64 pg) (.int .i64 ct) := by rw [← hy1]; exact C5.box w3 _ _ _ _ _
       obtain ⟨y2, hy2⟩ : ∃ y, y1.alloc (.cells #[.slice ko kn kc, .int .i64 kd, .slice vo vn vc, .int .i64 pg, .int .i64 ct] 50) = y := ⟨_, rfl⟩
       have hb2 : Below y1.heap.size y1 y2 := by rw [← hy2]; exact zad Br Lr _
       have hb12 : Below w3.heap.size w3 y2 := zae hb1 Lr hb2
       have HOY : Hid (OwnD y2 w.heap.size ov ds) := zaa ((HO.out.on HBc.out).on hb12)
       have HRY : Hid (R5B y2 w.heap.size [.slice ko kn kc, .int .i64 kd, .slice vo vn vc, .int .i64 pg, .int .i64 ct] [d]) := zaa (HRO.out.keep (fun v l h => h.on Lr hb12))
       have HBY : Hid (Below w.heap.size w y2) := zaa (zae HB3.out Lr hb12)
       have HXY : Hid (∀ i u, ([.slice ko kn kc, .int .i64 kd, .slice vo vn vc, .int .i64 pg, .int .i64 ct] : List Value)[i]? = some u → y2.cell? ⟨w3.heap.size + 1, 0 + i, none⟩ = some u) := zaa (by
        obtain ⟨f0, f1, f2, f3, f4⟩ := (C5.box y1 (.slice ko kn kc) (.int .i64 kd) (.slice vo vn vc) (.int .i64 pg) (.int .i64 ct)).cells
        rw [hy2, hz1] at f0 f1 f2 f3 f4
        intro i u hu
        have hj5 : i < 5 := (zH.1 hu).1
        have hj' : i = 0 ∨ i = 1 ∨ i = 2 ∨ i = 3 ∨ i = 4 := by omega
        rcases hj' with rfl | rfl | rfl | rfl | rfl <;> (simp only [List.getElem?_cons_zero, List.getElem?_cons_succ, Option.some.injEq] at hu; subst hu; assumption))
       obtain ⟨c0, c1, c2, c3, c4⟩ := hc1.cells
       clear HQ his ho1 ho2 hkn hvn hb1 hb2 hb12 HRO HO HR hc1 hkd' hpg' hct' hdk hdv hdkd hdpg hdct hd hpl hpw7 htp hT
       have HLT := zaa (And.intro hlt hltI)
       clear hlt hltI
       go_upto_region 16 with fail
       have htd : decide (T = 0) = false := by simpa using htI
       have htq : (T == 0) = false := by simpa using htI
       clear htI
       go_upto_region 18 with fail
       obtain ⟨hlt, hltI⟩ := HLT.out
       go_wp2_with (at_builtin; refine app_cd _ rfl _ _ rfl w.heap.size ds d ov (w3.heap.size + 1) _ rfl rfl HOY.out HRY.out HXY.out HBN.out HBY.out.size ?_; intro v2 u2 HO2 HBU2; refine Hid.out ?_)
       apply zaa
       have HBU : Hid (Below w.heap.size w u2) := zaa (HBY.out.trans HBU2.out)
       clear HOY HBY HXY HRY hy1 hy2 hz1 c0 c1 c2 c3 c4 HBU2
       go_wp2
       go_roundw
       case rel => exact ⟨t, _, j + 1, _, by rw [HTT.out], rfl, by first | rfl | go_num | (congr 1), by omega, HT, HO2, HJ3, HM3, HR3, HBU⟩
       case measure => simp [RowKit.intOf]; omega
     ·obtain rfl : j = N := by omega
      have hltI : ¬ (j : Int) < (j : Int) := by omega
      obtain ⟨co, cc, hv, hsl⟩ := HO.out.slc (fun c hc => ⟨(HM.out c hc).1, by have := (HM.out c hc).2.1; omega, by have := (HM.out c hc).2.2; omega⟩) (by rw [HJ.out]; omega)
      subst hv
      have hd9 : j ≤ 900000 := by omega
      rw [HJ.out] at hsl ⊢
      have HSL := zaa hsl
      have HOD : Hid (OwnD wr w.heap.size (.slice co j cc) ds) := zaa (by have := HO.out; rw [HJ.out] at this; exact this)
      have HKV : Hid (∀ c ∈ ds, c.key.length + c.val.length ≤ 35184372088832) := zaa (fun c hc => by have := (HM.out c hc).2; omega)
      have HFT : Hid (szQ k (shP k ds).length ds ≤ 1099511627776) := zaa (szQ_short HM.out (by rw [HJ.out]; omega))
      have HSAME : Hid (∀ cs, IsQ k n cs l → ds = cs) := zaa (fun cs hcs => by
       have h1 := (HR.out cs hcs).1
       rw [h1, List.take_of_length_le (by rw [(HLAY.out cs hcs).1]; exact Lr)])
      have HNO : Hid (∀ w', Below w.heap.size w w' → (∀ cs, IsQ k n cs l → False) → RDecQ l w (.returned (.tuple #[.int .i64 0, .slice none 0 0, .int .i64 60])) w') := zaa (fun w' hb h => RDecQ.no hb (by rw [HK.out, HL.out]; rintro ⟨cs, hc⟩; exact h cs hc))
      clear hj bj
      rcases Classical.em (encQ k n ds = 0) with he | he
      ·have HE := zaa (rencode_yes k n co j cc ds wr hsl hd9 HKV.out HFT.out he)
       have HHE := zaa he
       have HIQ := encQ_isQ (b := pkB k n ds) he rfl
       have HPW : Hid (Wf (pkB k n ds)) := zaa (pkB_wf ⟨hk0, hk1⟩ (fun c hc => ⟨(HM.out c hc).1, zda HIQ.ok HP.out c hc⟩))
       have HPL2 : Hid ((pkB k n ds).length ≤ 65536) := zaa (by rw [zdw k n ds HIQ.fit]; omega)
       clear hsl he HO HIQ
       go_wp2_with (go_at_call 59; refine HE.out.mono ?_; rintro e w3 ⟨v, rfl, HPB, HBc⟩; refine Hid.out ?_)
       apply zaa
       obtain ⟨P, hP⟩ : ∃ P, pkB k n ds = P := ⟨_, rfl⟩
       rw [hP] at HPB HPW HPL2
       have HPE := zaa hP
       obtain ⟨qo, qc, hv⟩ := zcn HPB.out
       subst hv
       obtain ⟨pn, hpn⟩ : ∃ pn, P.length = pn := ⟨_, rfl⟩
       rw [hpn] at HPB ⊢
       have hsp : Sl w3 qo pn qc P := own_sl7 HPB.out HPW.out (by have := HPL2.out; omega)
       have HB3 : Hid (Below w.heap.size w w3) := zaa (zae HB.out Lr HBc.out)
       have hsb := HS.out.on Lr HB3.out
       have k1 := zaq hsp
       have k2 := zaq hsb
       have hse := str_beq hsp.wf hsb.wf
       have HSL3 := zaa (HSL.out.on HBc.out)
       have HOD3 := zaa (HOD.out.on HBc.out)
       clear hP hpn hsp hsb HE
       by_cases heq : P = l
       ·have hse2 : ((strOfNums P).toList == (strOfNums l).toList) = true := by rw [hse]; simpa using heq
        have HIS : Hid (IsQ k n ds l) := zaa (encQ_isQ HHE.out (HPE.out.trans heq))
        clear hse heq
        go_wp2
        go_ret3
        exact ⟨k, co, j, cc, 0, rfl, HB3, zaa (.inr ⟨ds, rfl, HK.out.symm, HJ.out.symm, by rw [HK.out, HL.out]; exact HIS.out, fun d hd => (HM.out d hd).1, HSL3.out, HOD3.out⟩)⟩
       ·have hse2 : ((strOfNums P).toList == (strOfNums l).toList) = false := by rw [hse]; simpa using heq
        have HNE := zaa heq
        clear hse heq
        go_wp2
        go_ret3
        exact HNO.out _ HB3.out (fun cs hc => by
         have e := HSAME.out cs hc
         subst e
         exact HNE.out (HPE.out.symm.trans hc.eq))
      ·have HE := zaa (rencode_no k n co j cc ds wr hsl hd9 HKV.out HFT.out he)
       have HHE := zaa he
       clear hsl HO
       go_wp2_with (go_at_call 59; refine HE.out.mono ?_; rintro e w3 ⟨v, E, rfl, HBc, HQ⟩; refine Hid.out ?_)
       apply zaa
       have hE0 : ¬ E = 0 := by rw [HQ.out.1]; exact he
       have hvv : v = .slice none 0 0 := by
        rcases HQ.out.2 with h | h
        ·exact h.2
        ·exact absurd h.1 hE0
       subst hvv
       have HB3 : Hid (Below w.heap.size w w3) := zaa (zae HB.out Lr HBc.out)
       clear HQ HE he
       go_wp2
       go_ret3
       exact HNO.out _ HB3.out (fun cs hc => by
        have e := HSAME.out cs hc
        subst e
        exact HHE.out (encQ_yes hc))
  ·have HPA := zaa (part_no (some ⟨g, off, none⟩) n cap 6 (M : Int) w (by omega) hpn.2 (by omega))
   have HNO : Hid (¬ ∃ cs, IsQ (l.getD 0 0) l.length cs l) := zaa (by
    rintro ⟨cs, hcs⟩
    rw [HK.out, HL.out] at hcs
    exact hm (HLAY.out cs hcs).2.2.1)
   clear hs hlen hp hpn hpb hcl hk hNb hMb hN hM H2 H4 r2 r4 hm hD hkk
   go_enter Tryz.func22, Tryz.ntmps22
   go_wp2_with (first
    | (go_at_call 55; refine zac HIS.out ?_)
    | (go_at_call 56; first | with_reducible refine zac (HF.out _ _ (.inl ⟨rfl, rfl⟩)) ?_ | with_reducible refine zac (HF.out _ _ (.inr ⟨rfl, rfl⟩)) ?_)
    | (go_at_call 57; refine zac HPA.out ?_))
   go_ret3
   exact RDecQ.no Br HNO.out
 ·have hpb : decide (pw (n : Int)) = false := by simpa using hp
  rw [hpb] at HIS
  have HNO : Hid (¬ ∃ cs, IsQ (l.getD 0 0) l.length cs l) := zaa (by rintro ⟨cs, hc⟩; have := hc.sz; rw [hlen] at this; exact hp this)
  clear hs hp hpb hlen
  go_enter Tryz.func22, Tryz.ntmps22
  go_wp2_with (go_at_call 55; refine zac HIS.out ?_)
  go_ret3
  exact RDecQ.no Br HNO.out
def QD (w : World) (r : Nat) (k : Int) (n : Nat) (lv sv : Value) (ws : Int) : Prop := w.heap[r]? = some (.cells #[.int .i64 k, .int .i64 (n : Int), lv, sv, .int .i64 ws] 92 (0, 0))
theorem QD.cells {w : World} {r : Nat} {k : Int} {n : Nat} {lv sv : Value} {ws : Int} (h : QD w r k n lv sv ws) :
  w.cell? ⟨r, 0, none⟩ = some (.int .i64 k) ∧ w.cell? ⟨r, 1, none⟩ = some (.int .i64 (n : Int)) ∧ w.cell? ⟨r, 2, none⟩ = some lv ∧ w.cell? ⟨r, 3, none⟩ = some sv ∧ w.cell? ⟨r, 4, none⟩ = some (.int .i64 ws) := by
 unfold QD at h
 refine ⟨?_, ?_, ?_, ?_, ?_⟩ <;> (rw [cell_of_row _ _ _ _ _ _ h]; rfl)
theorem QD.free {w : World} {r : Nat} {k : Int} {n : Nat} {lv sv : Value} {ws : Int} (h : QD w r k n lv sv ws) (i : Nat) : w.frozen? ⟨r, i, none⟩ = false := by
 unfold QD at h
 simp [World.frozen?, h]
theorem QD.set3 {w : World} {r : Nat} {k : Int} {n : Nat} {lv sv : Value} {ws : Int} (h : QD w r k n lv sv ws) (v : Value) : QD (w.setCell ⟨r, 3, none⟩ v) r k n lv v ws := by
 unfold QD at *
 simpa using zaw (w := w) (a := r) (i := 3) (cs := [.int .i64 k, .int .i64 (n : Int), lv, sv, .int .i64 ws]) (u := v) h
theorem QD.set4 {w : World} {r : Nat} {k : Int} {n : Nat} {lv sv : Value} {ws : Int} (h : QD w r k n lv sv ws) (x : Int) : QD (w.setCell ⟨r, 4, none⟩ (.int .i64 x)) r k n lv sv x := by
 unfold QD at *
 simpa using zaw (w := w) (a := r) (i := 4) (cs := [.int .i64 k, .int .i64 (n : Int), lv, sv, .int .i64 ws]) (u := .int .i64 x) h
theorem dkind_any (w : World) (r : Nat) (k : Int) (n : Nat) (lv sv : Value) (ws : Int) (h : QD w r k n lv sv ws) :
  Calls Tryz.prog 63 #[.pointer (some ⟨r, 0, none⟩)] w fun e w' => e = .returned (.int .i64 k) ∧ w' = w := by
 obtain ⟨c0, c1, c2, c3, c4⟩ := h.cells
 clear h
 go_enter Tryz.func63, Tryz.ntmps63
 go_wp2_with fail
 go_ret
 exact ⟨rfl, rfl⟩
theorem dlen_any (w : World) (r : Nat) (k : Int) (n : Nat) (lo : Option Addr) (N lc : Nat) (sv : Value) (ws : Int) (h : QD w r k n (.slice lo N lc) sv ws) :
  Calls Tryz.prog 65 #[.pointer (some ⟨r, 0, none⟩)] w fun e w' => e = .returned (.int .i64 (N : Int)) ∧ w' = w := by
 obtain ⟨c0, c1, c2, c3, c4⟩ := h.cells
 clear h
 go_enter Tryz.func65, Tryz.ntmps65
 go_wp2_with fail
 go_ret
 exact ⟨rfl, rfl⟩
theorem dused_any (w : World) (r : Nat) (k : Int) (n : Nat) (lo : Option Addr) (N lc : Nat) (so : Option Addr) (sn sc : Nat) (ws : Int) (cs : List Cl) (h : QD w r k n (.slice lo N lc) (.slice so sn sc) ws) (hs : SlC w lo N lc cs) (hbeg : ∀ (j : Nat) (c : Cl), cs[j]? = some c → ¬ (k = 3 ∧ j = 0) → sn ≤ c.key.length) (hf : ∀ c ∈ cs, c.fit) (hN : N ≤ 70000) (hsn : sn ≤ 65536) :
  Calls Tryz.prog 67 #[.pointer (some ⟨r, 0, none⟩)] w fun e w' => e = .returned (.int .i64 ((szQ k sn cs : Nat) : Int)) ∧ Hid (Below w.heap.size w w') := by
 obtain ⟨c0, c1, c2, c3, c4⟩ := h.cells
 obtain ⟨Z, hZ⟩ : ∃ Z, szQ k sn cs = Z := ⟨_, rfl⟩
 have HT : Hid (∀ u, Below w.heap.size w u → Calls Tryz.prog 108 #[.int .i64 k, .slice lo N lc, .int .i64 (sn : Int)] u fun e w' => e = .returned (.int .i64 (Z : Int)) ∧ Hid (Below w.heap.size w w')) := zaa fun u hu => by
  have h1 := qbd_big sn (whl k) cs hf
  have h2 := zbn k sn cs
  have h3 := hs.hlen
  have h4 := rtaken_any k lo N lc sn cs u (hs.on hu) (fun j c hc hj => hbeg j c hc (by omega)) (fun c hc => by have := (hf c hc).key; have := (hf c hc).val; omega) (by omega)
  rw [hZ] at h4
  refine h4.mono ?_
  rintro e w' ⟨rfl, HB⟩
  exact ⟨rfl, zaa (zae hu Lr HB.out)⟩
 rw [hZ]
 have snI : (sn : Int) ≤ 65536 := by omega
 clear h hs hbeg hf hZ
 go_enter Tryz.func67, Tryz.ntmps67
 go_wp2_with fail
 go_region_with (first | (go_at_call 108; refine (HT.out _ (by first | exact Br | exact Br.drew | exact zab Br _)).mono ?_; rintro e w2 ⟨rfl, HB2⟩))
 all_goals
  go_wp2
  go_ret
  exact ⟨rfl, by first | exact HB2 | exact zaa HB2.out.drew | exact zaa (zab HB2.out _)⟩
end Go.Proofs.YtbkhjeacmmbabaaGreatDoor
