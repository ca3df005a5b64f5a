import Derived.Test.YtlhkinlgolcpaaaGreatDoorJ29
import Derived.Laws.Cover1
import Derived.Test.YtlhkinlgolcpaaaGreatDoorJ16
import Derived.Test.YtlhkinlgolcpaaaGreatDoorJ28
namespace Go.Proofs.YtlhkinlgolcpaaaGreatDoor
set_option maxRecDepth 100000
open Go.RowKit
def pgs6 (x : Int) : Bool := decide (x = 512 ∨ x = 1024 ∨ x = 2048 ∨ x = 4096 ∨ x = 8192 ∨ x = 16384 ∨ x = 32768 ∨ x = 65536)
theorem IsPage6_any (x : Int) (w : World) : Calls Tryz.prog 66 #[.int .i64 x] w fun e w' => e = .returned (.bool (pgs6 x)) ∧ w' = w := by
 go_enter Tryz.func66, Tryz.ntmps66
 go_wp2
 go_loop [3] (fun t => ∃ n : Int, t = .int .i64 n ∧ 512 ≤ n ∧ n ≤ 131072 ∧ (pgs6 n = true ∨ n = 131072) ∧ (pgs6 x = true → n ≤ x)) (fun t => (131072 - RowKit.intOf t).toNat)
 case atStart => exact ⟨512, rfl, by omega, by omega, .inl (by decide), fun h => by simp only [pgs6, decide_eq_true_eq] at h; omega⟩
 case round =>
  obtain ⟨n, rfl, h1, h2, h3, h4⟩ := hrel
  have H3 := hidden h3
  have H4 := hidden h4
  clear h3 h4
  by_cases hle : n ≤ 65536
  ·by_cases he : n = x
   ·have hp : pgs6 x = true := by
     rcases H3.out with h | h
     ·rw [← he]; exact h
     ·omega
    subst he
    have HP := hidden hp
    clear hp
    go_wp2
    go_ret
    exact ⟨by rw [HP.out]; rfl, rfl⟩
   ·have hne : (n == x) = false := by simpa using he
    go_wp2
    go_round
    case rel =>
     refine ⟨2 * n, rfl, by omega, by omega, ?_, ?_⟩
     ·have := H3.out
      simp only [pgs6, decide_eq_true_eq] at this ⊢
      omega
     ·intro h
      have h5 := H4.out h
      have h6 := H3.out
      simp only [pgs6, decide_eq_true_eq] at h h6
      omega
    case measure => simp [RowKit.intOf]; omega
  ·have hp : pgs6 x = false := by
    cases hx : pgs6 x
    ·rfl
    ·have h5 := H4.out hx
     have h6 := H3.out
     simp only [pgs6, decide_eq_true_eq] at hx h6
     omega
   have HP := hidden hp
   clear hp
   go_wp2
   go_ret
   exact ⟨by rw [HP.out]; rfl, rfl⟩
theorem rIsPage6_any (x : Int) (w : World) : Calls Tryz.prog 66 #[.int .i64 x] w fun e w' => e = .returned (.bool (decide (pw x))) ∧ w' = w := by
 have e : pgs6 x = decide (pw x) := by
  unfold pgs6 pw
  rfl
 rw [← e]
 exact IsPage6_any x w
theorem rIsKind6_any (k : Int) (w : World) : Calls Tryz.prog 67 #[.int .i64 k] w fun e w' => e = .returned (.bool (decide (isKd k))) ∧ w' = w := by
 by_cases h : k = 2
 ·subst h
  have e : decide (isKd 2) = true := by decide
  rw [e]
  go_enter Tryz.func67, Tryz.ntmps67
  go_wp2_with fail
  go_ret
  exact ⟨rfl, rfl⟩
 ·have hb : (k == 2) = false := by rw [beq_eq_false_iff_ne]; exact h
  have e : decide (isKd k) = (k == 3) := by
   rw [Bool.eq_iff_iff, decide_eq_true_iff, beq_iff_eq]
   unfold isKd
   omega
  rw [e]
  clear e
  go_enter Tryz.func67, Tryz.ntmps67
  go_wp2_with fail
  go_ret
  exact ⟨rfl, rfl⟩
def Apt (u v : Value) : Prop := u.ownBlock = none ∨ u.ownBlock ≠ v.ownBlock
theorem Apt.symm {u v : Value} (h : Apt u v) : Apt v u := by
 unfold Apt at *
 cases hv : v.ownBlock with
 | none => exact .inl rfl
 | some b =>
  right
  rcases h with h | h
  ·rw [h]; simp
  ·intro e; exact h (by rw [hv, e])
theorem Apt.gr {w w' : World} {B : Nat} {u v v' : Value} {l : List Int} (h : Apt u v) (hu : OwnB w B u l) (hg : Gr w v w' v') : Apt u v' := by
 unfold Apt at *
 rcases h with h | h
 ·exact .inl h
 ·cases hub : u.ownBlock with
  | none => exact .inl rfl
  | some b =>
   right
   have hlt : b < w.heap.size := (World.ownsRow.lt hu b hub).2
   rcases hg.own with e | ⟨k, e, hk⟩
   ·rw [e, ← hub]; exact h
   ·rw [e]; intro e2; injection e2 with e2; omega
theorem own_keep {w w' : World} {B : Nat} {u v v' : Value} {l : List Int} (h : OwnB w B u l) (hg : Gr w v w' v') (ha : Apt u v) : OwnB w' B u l := World.ownsRow.kept h hg.grow ha
theorem own_sl6 {w : World} {B : Nat} {ao : Option Addr} {n c : Nat} {l : List Int} (h : OwnB w B (.slice ao n c) l) (hw : Wf l) (hl : l.length ≤ 140737488355328) : Sl w ao n c l := by
 obtain ⟨ao', c', e, hs, _⟩ := h.sl hw hl
 injection e with e1 e2 e3
 subst e1 e3
 rw [← e2] at hs
 exact hs
theorem apt_far {ao : Option Addr} {n c : Nat} {v : Value} (h : Apt (.slice ao n c) v) : Far ao n v := by
 right
 rintro p rfl e
 rcases h with h | h
 ·cases h
 ·exact h (by rw [e]; rfl)
theorem apt_new {w w' : World} {B C : Nat} {u v : Value} {l m : List Int} (h : OwnB w B u l) (k : OwnB w' C v m) (hC : w.heap.size ≤ C) : Apt u v := by
 cases hu : u.ownBlock with
 | none => exact .inl hu
 | some b =>
  right
  intro e
  have h1 := (World.ownsRow.lt h b hu).2
  have h2 := (World.ownsRow.lt k b (by rw [← e]; exact hu)).1
  omega
theorem sts_snoc6 : ∀ (cs : List Cl) (b j : Nat) (c : Cl), cs[j]? = some c → sts b (cs.take (j + 1)) = sts b (cs.take j) ++ [b + (bdy (cs.take j)).length]
 | [], _, j, _, h => by simp at h
 | d :: r, b, 0, c, h => by simp [sts, bdy]
 | d :: r, b, j + 1, c, h => by
  have ih := sts_snoc6 r (b + (cB d).length) j c (by simpa using h)
  simp only [List.take_succ_cons, sts, bdy_cons, List.length_append]
  rw [ih]
  simp [Nat.add_assoc]
theorem bdy_snoc6 (cs : List Cl) (j : Nat) (c : Cl) (h : cs[j]? = some c) : bdy (cs.take (j + 1)) = bdy (cs.take j) ++ cB c := by
 rw [List.take_add_one, h, bdy_append]
 simp [bdy]
theorem bdy_le6 (cs : List Cl) (j : Nat) : (bdy (cs.take j)).length ≤ (bdy cs).length := by
 have e : bdy cs = bdy (cs.take j) ++ bdy (cs.drop j) := by rw [← bdy_append, List.take_append_drop]
 rw [e, List.length_append]
 omega
theorem bdy_wf6 : ∀ cs : List Cl, (∀ c ∈ cs, c.Wf) → Wf (bdy cs)
 | [], _ => by intro x hx; cases hx
 | c :: r, h => by rw [bdy_cons]; exact (cB_wf (h c (by simp))).append (bdy_wf6 r (fun d hd => h d (by simp [hd])))
theorem sloB_snoc6 (l : List Nat) (s : Nat) : sloB (l ++ [s]) = sloB l ++ fB 2 (s : Int) := by simp [sloB]
theorem chk_all6 (k p : Int) : ∀ (pr : Option (List Int)) (cs : List Cl), chk k p pr cs = 0 → ∀ c ∈ cs, mayP k p c
 | _, [], _, c, hc => by cases hc
 | pr, d :: r, h, c, hc => by
  unfold chk at h
  by_cases h1 : mayP k p d
  ·rw [if_pos h1] at h
   by_cases h2 : ahead pr d.key
   ·rw [if_pos h2] at h
    rcases List.mem_cons.1 hc with rfl | hc
    ·exact h1
    ·exact chk_all6 k p _ r h c hc
   ·rw [if_neg h2] at h; cases h
  ·rw [if_neg h1] at h; cases h
theorem may_nums6 {k p : Int} {c : Cl} (h : mayP k p c) (hp : p ≤ 65536) : (¬ c.kd = 1 → (0 ≤ c.pg ∧ c.pg < 9223372036854775808) ∧ (0 ≤ c.ct ∧ c.ct < 9223372036854775808)) ∧ c.key.length + c.val.length ≤ 35184372088832 := by
 unfold mayP leadsP nowhere at h
 have hv : c.val = [] → c.val.length = 0 := fun e => by rw [e]; rfl
 refine ⟨fun hk => ?_, ?_⟩
 ·rcases h.2 with ⟨_, _, _, h3⟩ | ⟨_, _, ⟨h4, _⟩ | ⟨_, _, h5⟩ | ⟨_, _, h6⟩⟩
  ·omega
  ·exact absurd h4 hk
  ·omega
  ·omega
 ·rcases h.2 with ⟨_, _, h2, _⟩ | ⟨_, _, ⟨_, h4, _⟩ | ⟨_, h5, _⟩ | ⟨_, h6, _⟩⟩
  ·have := hv h2; omega
  ·omega
  ·have := hv h5; omega
  ·have := hv h6; omega
def lnOf6 : Value → Nat
 | .slice _ n _ => n
 | _ => 0
theorem one_sl6 (w : World) (x : Int) (hx : 0 ≤ x ∧ x ≤ 255) : Sl (w.alloc (.cells #[.int .u8 x] 5)) (some ⟨w.heap.size, 0, none⟩) 1 1 [x] := by
 refine ⟨rfl, Nat.le_refl _, by omega, Wf.cons hx Wf.nil, (by intro h; cases h), .inr ⟨w.heap.size, 0, rfl, by simp, ?_⟩⟩
 intro i hi
 obtain rfl : i = 0 := by omega
 simp
def RNo6 (k n : Int) (cs : List Cl) (w : World) (e : Ending) (w' : World) : Prop := e = .returned (.tuple #[.slice none 0 0, .int .i64 (encE k n cs)]) ∧ Hid (Below w.heap.size w w')
theorem RNo6.mk6 {k n c : Int} {cs : List Cl} {w w' : World} (hb : Below w.heap.size w w') (hc : c = encE k n cs) : RNo6 k n cs w (.returned (.tuple #[.slice none 0 0, .int .i64 c])) w' := ⟨by rw [hc], hidden hb⟩
set_option maxHeartbeats 8000000 in
theorem rencode6_no (k n : Int) (co : Option Addr) (cn cc : Nat) (cs : List Cl) (w : World) (hs : SlC w co cn cc cs) (hcn : cn ≤ 900000) (hz : szN cs ≤ 1099511627776) (hne : encE k n cs ≠ 0) :
  Calls Tryz.prog 35 #[.int .i64 k, .slice co cn cc, .int .i64 n] w fun e w' => RNo6 k n cs w e w' := by
 have HS := hidden hs
 have HZ := hidden hz
 have HLEN := hidden hs.hlen
 have HSZ := hidden (rIsPage6_any n w)
 have HIK := hidden (rIsKind6_any k w)
 have HNE := hidden hne
 clear hs hz hne
 cases h2 : decide (pw n) with
 | false =>
  have HE : Hid ((1 : Int) = encE k n cs) := hidden (by unfold encE; rw [if_neg (fun h => by simp [h.2] at h2)])
  rw [h2] at HSZ
  clear h2
  go_enter Tryz.func35, Tryz.ntmps35
  go_wp2_with (first | (go_at_call 66; refine same_call HSZ.out ?_))
  go_ret2
  exact RNo6.mk6 (Below.refl _ _) HE.out
 | true =>
  have hn : pw n := by simpa using h2
  have hpn := pw_le hn
  rw [h2] at HSZ
  cases h3 : decide (isKd k) with
  | false =>
   have HE : Hid ((1 : Int) = encE k n cs) := hidden (by unfold encE; rw [if_neg (fun h => by simp [h.1] at h3)])
   rw [h3] at HIK
   clear h2 h3 hn
   go_enter Tryz.func35, Tryz.ntmps35
   go_wp2_with (first
    | (go_at_call 66; refine same_call HSZ.out ?_)
    | (go_at_call 67; refine same_call HIK.out ?_))
   go_ret2
   exact RNo6.mk6 (Below.refl _ _) HE.out
  | true =>
   have hkd : isKd k := by simpa using h3
   rw [h3] at HIK
   have HE0 : Hid (encE k n cs = if chk k n none cs = 0 then (if n < szN cs then 61 else 0) else chk k n none cs) := hidden (by unfold encE; rw [if_pos ⟨hkd, hn⟩])
   have hN1 : n ≤ 65536 := hpn.2
   have hN3 : 512 ≤ n := by omega
   clear hn hpn h2 h3 hkd
   go_enter Tryz.func35, Tryz.ntmps35
   go_wp2_with (first
    | (go_at_call 66; refine same_call HSZ.out ?_)
    | (go_at_call 67; refine same_call HIK.out ?_))
   clear HSZ HIK
   go_loopw [9] (fun i wr => ∃ j : Nat, j ≤ cn ∧ i = .int .i64 j ∧ Hid (chk k n none cs = chk k n (prv (cs.take j)) (cs.drop j)) ∧ Hid (Below w.heap.size w wr)) (fun i _ => cn - (RowKit.intOf i).toNat)
   case atStart => exact ⟨0, by omega, rfl, hidden (by simp [prv]), hidden (Below.refl _ _)⟩
   case round =>
    obtain ⟨j, hj, rfl, HC, HBW⟩ := hrel
    have bj : (j : Int) ≤ 900000 := by omega
    by_cases hlt : j < cn
    ·have hltI : (j : Int) < (cn : Int) := by omega
     obtain ⟨b, off, c, ka, kc, va, vc, rfl, hb, hci, c0, c1, c2, c3, c4, hkS, hvS⟩ := (HS.out.on HBW.out).item j hlt
     have HCS := hidden (chk_step k n cs j c hci)
     have HCI := hidden hci
     have HKS := hidden hkS
     have HMB := hidden (rmay6_any k n c ka va kc vc wr hN3 hN1 hkS.hroom hvS.hroom)
     clear hci hkS hvS
     cases hm : decide (mayP k n c) with
     | false =>
      have HE : Hid ((62 : Int) = encE k n cs) := by
       have : ¬ mayP k n c := by simpa using hm
       have e : chk k n none cs = 62 := by rw [HC.out, HCS.out, if_neg this]
       exact hidden (by rw [HE0.out, e]; simp)
      rw [hm] at HMB
      go_wp2_with (first | (go_at_call 68; refine HMB.out.mono ?_; rintro e w2 ⟨rfl, hb2⟩; have HB2 := hidden (bl_go HBW.out (Nat.le_refl _) hb2); clear hb2))
      go_ret2
      exact RNo6.mk6 HB2.out HE.out
     | true =>
      have hmp : mayP k n c := by simpa using hm
      have HMP := hidden hmp
      rw [hm] at HMB
      clear hmp hm
      go_wp2_with (first | (go_at_call 68; refine HMB.out.mono ?_; rintro e w2 ⟨rfl, hb2⟩; have HBR := hidden hb2; have HBW2 := hidden (bl_go HBW.out (Nat.le_refl _) hb2); clear hb2; refine Hid.out ?_))
      apply hidden
      have d0 := (HBR.out.cell (p := ⟨b, off + j * 5, none⟩) hb).trans c0
      clear c0 c1 c2 c3 c4 HMB
      by_cases hj0 : j = 0
      ·subst hj0
       have HNX : Hid (chk k n none cs = chk k n (prv (cs.take (0 + 1))) (cs.drop (0 + 1))) := hidden (by rw [HC.out, HCS.out, if_pos HMP.out, if_pos (by simp [prv, ahead])])
       have hj0d : decide ((0 : Int) < ((0 : Nat) : Int)) = false := by decide
       go_wp2_with fail
       go_quiet (fail)
       go_wp2
       go_roundw
       case rel => exact ⟨1, by omega, by go_num, HNX, hidden (bl_dr HBW2.out _)⟩
       case measure => simp [RowKit.intOf]; omega
      ·obtain ⟨i, hij⟩ : ∃ i, j = i + 1 := ⟨j - 1, by omega⟩
       obtain ⟨b', off', c', ka', kc', va', vc', hbo, hb', hci', e0, e1, e2, e3, e4, hk', hv'⟩ := (HS.out.on HBW2.out).item i (by omega)
       injection hbo with hbo
       injection hbo with hb1 hb2
       subst hb1 hb2
       have hprv : prv (cs.take j) = some c'.key := by rw [hij, List.take_add_one, hci']; simp [prv]
       have HPR := hidden hprv
       have k3 : ∀ z, (convert 25 9 (.slice ka' c'.key.length kc')).run Tryz.prog (w2.drewN z) = .ok (.string (strOfNums c'.key)) (w2.drewN z) := fun z => conv_sl (hk'.drewN z)
       have k4 : ∀ z, (convert 25 9 (.slice ka c.key.length kc)).run Tryz.prog (w2.drewN z) = .ok (.string (strOfNums c.key)) (w2.drewN z) := fun z => conv_sl ((HKS.out.on (Nat.le_refl _) HBR.out).drewN z)
       have HLS := hidden (str_less hk'.wf HKS.out.wf)
       have i1 : (i : Int) < (cn : Int) := by omega
       have i2 : i < cn := by omega
       have i3 : (i : Int) ≤ 900000 := by omega
       have i4 : IntKind.i64.wrap ((j : Int) - 1) = (i : Int) := by rw [IntKind.wrap_i64]; omega
       have i7 : (j : Int) - 1 = (i : Int) := by omega
       have i5 : 0 < (j : Int) := by omega
       have i6 : 0 < j := by omega
       have i8 : decide (0 < j) = true := decide_eq_true i6
       clear hk' hv' hprv hci' e1 e2 e3 e4 hj0 hij hb'
       cases hkl : decide (kl c'.key c.key) with
       | true =>
        have HNX : Hid (chk k n none cs = chk k n (prv (cs.take (j + 1))) (cs.drop (j + 1))) := hidden (by
         rw [HC.out, HCS.out, if_pos HMP.out, if_pos (by rw [HPR.out]; simpa [ahead] using hkl)])
        have hls : Op.bytesLess (strOfNums c'.key).toList (strOfNums c.key).toList = true := by rw [HLS.out]; exact hkl
        go_wp2_with fail
        go_quiet (fail)
        go_wp2
        go_roundw
        case rel => exact ⟨j + 1, by omega, by go_num, HNX, hidden (bl_dr HBW2.out _)⟩
        case measure => simp [RowKit.intOf]; omega
       | false =>
        have HE : Hid ((63 : Int) = encE k n cs) := by
         have e : chk k n none cs = 63 := by rw [HC.out, HCS.out, if_pos HMP.out, if_neg (by rw [HPR.out]; simpa [ahead] using hkl)]
         exact hidden (by rw [HE0.out, e]; simp)
        have hls : Op.bytesLess (strOfNums c'.key).toList (strOfNums c.key).toList = false := by rw [HLS.out]; exact hkl
        go_wp2_with fail
        go_quiet (fail)
        go_wp2
        go_ret2
        exact RNo6.mk6 (bl_dr HBW2.out _) HE.out
    ·have HC0 : Hid (chk k n none cs = 0) := hidden (by rw [HC.out, List.drop_eq_nil_of_le (by rw [HLEN.out]; omega)]; rfl)
     have HE1 : Hid (encE k n cs = if n < szN cs then 61 else 0) := hidden (by rw [HE0.out, if_pos HC0.out])
     have HZS := hidden (rsize6_any k co cn cc cs wr (HS.out.on HBW.out) HZ.out)
     obtain ⟨Z, hZ⟩ : ∃ Z : Nat, szN cs = Z := ⟨_, rfl⟩
     rw [hZ] at HZS HE1
     have hZb : (Z : Int) ≤ 1099511627776 := by have := HZ.out; omega
     clear HC HC0 HE0 hZ
     by_cases hfit : n < (Z : Int)
     ·have HE : Hid ((61 : Int) = encE k n cs) := hidden (by rw [HE1.out, if_pos hfit])
      go_wp2_with (first | (go_at_call 69; refine HZS.out.mono ?_; rintro e w2 ⟨rfl, HB2⟩))
      go_ret2
      exact RNo6.mk6 (bl_go HBW.out (Nat.le_refl _) HB2.out) HE.out
     ·exact absurd (by rw [HE1.out, if_neg hfit]) HNE.out
end Go.Proofs.YtlhkinlgolcpaaaGreatDoor

namespace Go.Proofs.YtlhkinlgolcpaaaGreatDoor
set_option maxRecDepth 100000
open Go.RowKit
theorem own_far {w w' : World} {B C : Nat} {v : Value} {l m : List Int} {ao : Option Addr} {n c : Nat} (h : OwnB w B v l) (k : OwnB w' C (.slice ao n c) m) (hz : w.heap.size ≤ C) : Far ao n v := by
 right
 intro p hp e
 have h1 : p.block < w.heap.size := (World.ownsRow.lt h p.block e).2
 rcases k.2 with ⟨e2, _⟩ | ⟨g, cap, cur, e2, hg, _⟩
 ·injection e2 with e3
  rw [e3] at hp
  cases hp
 ·injection e2 with e3
  rw [e3] at hp
  injection hp with hp
  subst hp
  simp only at h1
  omega
theorem sl_far {w w' : World} {B : Nat} {v : Value} {l m : List Int} {ao : Option Addr} {n c : Nat} (hs : Sl w ao n c m) (h : OwnB w' B v l) (hz : w.heap.size ≤ B) : Far ao n v := by
 rcases hs.hat with h0 | ⟨b, off, rfl, hlt, _⟩
 ·exact .inl h0
 ·exact h.far fun p hp => by injection hp with hp; subst hp; exact Nat.lt_of_lt_of_le hlt hz
set_option maxHeartbeats 1000000 in
theorem radd_any (v : Value) (B : Nat) (l r : List Int) (ao : Option Addr) (n c : Nat) (w : World) (ho : OwnB w B v l) (hs : Sl w ao n c r) (hf : Far ao n v) (hl : l.length + n ≤ 140737488355328) (hB : B ≤ w.heap.size) :
  Calls Tryz.prog 78 #[v, .slice ao n c] w fun e w' => ∃ v', e = .returned v' ∧ Hid (OwnB w' B v' (l ++ r)) ∧ Hid (Gr w v w' v') := by
 have HS := hidden hs
 have HF := hidden hf
 have HO := hidden ho
 have hlen := hs.hlen
 have hn := hs.hroom
 clear hs hf ho
 go_enter Tryz.func78, Tryz.ntmps78
 go_wp2_with fail
 go_loopw [0, 5] (fun b i wr => ∃ k : Nat, k ≤ n ∧ i = .int .i64 k ∧ Hid (OwnB wr B b (l ++ r.take k)) ∧ Hid (Gr w v wr b)) (fun _ i _ => n - (intOf i).toNat)
 case atStart => exact ⟨0, by omega, rfl, by simpa using HO, hidden (Gr.refl _ _)⟩
 case round =>
  obtain ⟨k, hk, rfl, HOK, HG⟩ := hrel
  clear HO
  have hki : (k : Int) ≤ 140737488355328 := by omega
  by_cases hlt : k < n
  ·have hltI : (k : Int) < (n : Int) := by omega
   have HSK := hidden (HS.out.gr HG.out HF.out)
   have hwf := HSK.out.wf.getD k
   rcases HSK.out.hat with h | ⟨b', off', rfl, hbb', hc'⟩
   ·omega
   have hcj := hc' k hlt
   have hts := take_snoc r k (by omega)
   obtain ⟨y, hy⟩ : ∃ y, r.getD k 0 = y := ⟨_, rfl⟩
   rw [hy] at hcj hts hwf
   have HT := hidden hts
   have hBr : B ≤ wr.heap.size := Nat.le_trans hB HG.out.grow.size
   have hll : (l ++ r.take k).length + 1 ≤ 140737488355328 := by simp only [List.length_append, List.length_take]; omega
   have HLL := hidden hll
   clear hc' hts hy hll
   go_wp2_with (at_builtin; refine app_sl _ rfl _ _ rfl B (l ++ r.take k) [y] _ (some ⟨wr.heap.size, 0, none⟩) 1 1 rfl rfl (HOK.out.alloc _) (sl_one wr y hwf) HLL.out (by simp; omega) ?_; refine Hid.out ?_)
   apply hidden
   intro v2 w2 ho2 g2
   have HO2 : Hid (OwnB w2 B v2 (l ++ r.take (k + 1))) := hidden (by rw [HT.out]; simpa [List.append_assoc] using ho2)
   have HG2 := hidden ((HG.out.trans (Gr.alloc _ _ _)).trans g2)
   clear ho2 g2 HOK HG hcj HSK HT HLL
   go_wp2
   go_roundw
   case rel => exact ⟨k + 1, by omega, by go_num, HO2, HG2⟩
   case measure => simp [intOf]; omega
  ·have e : r.take k = r := List.take_of_length_le (by omega)
   rw [e] at HOK
   go_wp2
   go_ret
   exact ⟨_, rfl, HOK, HG⟩
theorem radd_to (v : Value) (B : Nat) (l r : List Int) (ao : Option Addr) (n c : Nat) (w : World) (ho : OwnB w B v l) (hs : Sl w ao n c r) (hf : Far ao n v) (hl : l.length + n ≤ 140737488355328) (hB : B ≤ w.heap.size) :
  Calls Tryz.prog 78 #[v, .slice ao n c] w fun e w' => ∃ v', e = .returned v' ∧ Hid (OwnB w' B v' (l ++ r)) ∧ Hid (Below B w w') :=
 (radd_any v B l r ao n c w ho hs hf hl hB).mono fun e w' h => by
  obtain ⟨v', h1, h2, h3⟩ := h
  exact ⟨v', h1, h2, hidden (h3.out.below ho hB)⟩
theorem rrest_whole (k i : Int) (ao : Option Addr) (n c m : Nat) (w : World) (h : k = 3 ∧ i = 0) :
  Calls Tryz.prog 109 #[.int .i64 k, .int .i64 i, .slice ao n c, .int .i64 (m : Int)] w fun e w' => e = .returned (.slice ao n c) ∧ w' = w := by
 obtain ⟨rfl, rfl⟩ := h
 go_enter Tryz.func109, Tryz.ntmps109
 go_wp2
 go_ret
 exact ⟨rfl, rfl⟩
theorem rrest_cut (k i : Int) (ao : Option Addr) (n c m : Nat) (l : List Int) (w : World) (h : ¬ (k = 3 ∧ i = 0)) (hs : Sl w ao n c l) (hm : m ≤ n) :
  Calls Tryz.prog 109 #[.int .i64 k, .int .i64 i, .slice ao n c, .int .i64 (m : Int)] w fun e w' => (∃ a' c', e = .returned (.slice a' (n - m) c') ∧ Hid (Sl w a' (n - m) c' (l.drop m))) ∧ w' = w := by
 have hf := sl_from hs m hm
 have hc := hs.hcap
 have hr := hs.hroom
 have hll := hs.hlen
 have hmI : (m : Int) ≤ (n : Int) := by omega
 have hlc : m ≤ c := by omega
 have hlcI : (m : Int) ≤ (c : Int) := by omega
 have hlt : ¬ (n : Int) < (m : Int) := by omega
 have i1 : (m : Int) ≤ 140737488355328 := by omega
 clear hs
 by_cases h3 : k = 3
 ·have hi : ¬ i = 0 := fun e => h ⟨h3, e⟩
  have hib : (i == 0) = false := by simpa using hi
  subst h3
  clear h hi
  rcases hf with ⟨rfl, rfl, rfl⟩ | ⟨a, rfl, ⟨e, hS⟩ | ⟨e, hS⟩⟩
  ·obtain rfl : m = 0 := by omega
   have HE : Hid (Sl w none 0 0 (l.drop 0)) := hidden (by rw [show l.drop 0 = [] from List.eq_nil_of_length_eq_zero (by simpa using hll)]; exact Sl.nil_any _ _ _ (fun _ => rfl))
   go_enter Tryz.func109, Tryz.ntmps109
   go_wp2
   go_ret
   exact ⟨⟨_, _, rfl, HE⟩, rfl⟩
  ·have HS := hidden hS
   subst e
   obtain rfl : n = c := by omega
   clear hS
   go_enter Tryz.func109, Tryz.ntmps109
   go_wp2
   go_ret
   exact ⟨⟨_, _, rfl, by simpa using HS⟩, rfl⟩
  ·have HS := hidden hS
   have hcn2 : c - m ≠ 0 := by omega
   have hcn3 : m < c := by omega
   have hcn4 : (m : Int) < (c : Int) := by omega
   clear hS
   go_enter Tryz.func109, Tryz.ntmps109
   go_wp2
   go_ret
   exact ⟨⟨_, _, rfl, by simpa using HS⟩, rfl⟩
 ·have hkb : (k == 3) = false := by simpa using h3
  clear h h3
  rcases hf with ⟨rfl, rfl, rfl⟩ | ⟨a, rfl, ⟨e, hS⟩ | ⟨e, hS⟩⟩
  ·obtain rfl : m = 0 := by omega
   have HE : Hid (Sl w none 0 0 (l.drop 0)) := hidden (by rw [show l.drop 0 = [] from List.eq_nil_of_length_eq_zero (by simpa using hll)]; exact Sl.nil_any _ _ _ (fun _ => rfl))
   go_enter Tryz.func109, Tryz.ntmps109
   go_wp2
   go_ret
   exact ⟨⟨_, _, rfl, HE⟩, rfl⟩
  ·have HS := hidden hS
   subst e
   obtain rfl : n = c := by omega
   clear hS
   go_enter Tryz.func109, Tryz.ntmps109
   go_wp2
   go_ret
   exact ⟨⟨_, _, rfl, by simpa using HS⟩, rfl⟩
  ·have HS := hidden hS
   have hcn2 : c - m ≠ 0 := by omega
   have hcn3 : m < c := by omega
   have hcn4 : (m : Int) < (c : Int) := by omega
   clear hS
   go_enter Tryz.func109, Tryz.ntmps109
   go_wp2
   go_ret
   exact ⟨⟨_, _, rfl, by simpa using HS⟩, rfl⟩
end Go.Proofs.YtlhkinlgolcpaaaGreatDoor
