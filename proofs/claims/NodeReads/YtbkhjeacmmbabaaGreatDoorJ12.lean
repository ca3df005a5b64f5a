import Derived.Test.YtbkhjeacmmbabaaGreatDoorJ11
import Derived.Laws.Cover1
namespace Go.Proofs.YtbkhjeacmmbabaaGreatDoor
set_option maxRecDepth 100000
open Go.RowKit
def pgs6 (x : Int) : Bool := decide (x = 512 ∨ x = 1024 ∨ x = 2048 ∨ x = 4096 ∨ x = 8192 ∨ x = 16384 ∨ x = 32768 ∨ x = 65536)
theorem IsPage6_any (x : Int) (w : World) : Calls Tryz.prog 51 #[.int .i64 x] w fun e w' => e = .returned (.bool (pgs6 x)) ∧ w' = w := by
 go_enter Tryz.func51, Tryz.ntmps51
 go_wp2
 go_loop [3] (fun t => ∃ n : Int, t = .int .i64 n ∧ 512 ≤ n ∧ n ≤ 131072 ∧ (pgs6 n = true ∨ n = 131072) ∧ (pgs6 x = true → n ≤ x)) (fun t => (131072 - RowKit.intOf t).toNat)
 case atStart => exact ⟨512, rfl, zq, zq, .inl zd, fun h => by simp only [pgs6, decide_eq_true_eq] at h; omega⟩
 case round =>
  obtain ⟨n, rfl, h1, h2, h3, h4⟩ := hrel
  have H3 := zaa h3
  have H4 := zaa h4
  clear h3 h4
  by_cases A : n ≤ 65536
  ·by_cases he : n = x
   ·have hp : pgs6 x = true := by
     rcases H3.out with h | h
     ·rw [← he]; exact h
     ·omega
    subst he
    have HP := zaa hp
    clear hp
    go_wp2
    go_ret
    exact ⟨by rw [HP.out]; rfl, rfl⟩
   ·have B : (n == x) = false := by simpa using he
    go_wp2
    go_round
    case rel =>
     refine ⟨2 * n, rfl, zq, zq, ?_, ?_⟩
     ·have := H3.out
      simp only [pgs6, decide_eq_true_eq] at this ⊢
      omega
     ·intro h
      have h5 := H4.out h
      have h6 := H3.out
      simp only [pgs6, decide_eq_true_eq] at h h6
      omega
    case measure => simp [RowKit.intOf]; omega
  ·have hp : pgs6 x = false := by
    cases hx : pgs6 x
    ·rfl
    ·have h5 := H4.out hx
     have h6 := H3.out
     simp only [pgs6, decide_eq_true_eq] at hx h6
     omega
   have HP := zaa hp
   clear hp
   go_wp2
   go_ret
   exact ⟨by rw [HP.out]; rfl, rfl⟩
theorem zds (x : Int) (w : World) : Calls Tryz.prog 51 #[.int .i64 x] w fun e w' => e = .returned (.bool (decide (pw x))) ∧ w' = w := by
 have e : pgs6 x = decide (pw x) := by
  unfold pgs6 pw
  rfl
 rw [← e]
 exact IsPage6_any x w
theorem rIsKind6_any (k : Int) (w : World) : Calls Tryz.prog 94 #[.int .i64 k] w fun e w' => e = .returned (.bool (decide (isKd k))) ∧ w' = w := by
 by_cases h : k = 2
 ·subst h
  have e : decide (isKd 2) = true := by decide
  rw [e]
  go_enter Tryz.func94, Tryz.ntmps94
  go_wp2_with fail
  go_ret
  exact ⟨rfl, rfl⟩
 ·have hb : (k == 2) = false := by rw [beq_eq_false_iff_ne]; exact h
  have e : decide (isKd k) = (k == 3) := by
   rw [Bool.eq_iff_iff, zQ, beq_iff_eq]
   unfold isKd
   omega
  rw [e]
  clear e
  go_enter Tryz.func94, Tryz.ntmps94
  go_wp2_with fail
  go_ret
  exact ⟨rfl, rfl⟩
def Apt (u v : Value) : Prop := u.ownBlock = none ∨ u.ownBlock ≠ v.ownBlock
theorem Apt.symm {u v : Value} (h : Apt u v) : Apt v u := by
 unfold Apt at *
 cases hv : v.ownBlock with
 | none => exact .inl rfl
 | some b =>
  right
  rcases h with h | h
  ·rw [h]; simp
  ·intro e; exact h (by rw [hv, e])
theorem Apt.gr {w w' : World} {B : Nat} {u v v' : Value} {l : List Int} (h : Apt u v) (hu : OwnB w B u l) (hg : Gr w v w' v') : Apt u v' := by
 unfold Apt at *
 rcases h with h | h
 ·exact .inl h
 ·cases A : u.ownBlock with
  | none => exact .inl rfl
  | some b =>
   right
   have C : b < w.heap.size := (World.ownsRow.lt hu b A).2
   rcases hg.own with e | ⟨k, e, hk⟩
   ·rw [e, ← A]; exact h
   ·rw [e]; intro e2; injection e2 with e2; omega
theorem zcx {w w' : World} {B : Nat} {u v v' : Value} {l : List Int} (h : OwnB w B u l) (hg : Gr w v w' v') (ha : Apt u v) : OwnB w' B u l := World.ownsRow.kept h hg.grow ha
theorem own_sl6 {w : World} {B : Nat} {ao : Option Addr} {n c : Nat} {l : List Int} (h : OwnB w B (.slice ao n c) l) (hw : Wf l) (hl : l.length ≤ 140737488355328) : Sl w ao n c l := by
 obtain ⟨ao', c', e, hs, _⟩ := h.sl hw hl
 injection e with e1 e2 e3
 subst e1 e3
 rw [← e2] at hs
 exact hs
theorem apt_far {ao : Option Addr} {n c : Nat} {v : Value} (h : Apt (.slice ao n c) v) : Far ao n v := by
 right
 rintro p rfl e
 rcases h with h | h
 ·cases h
 ·exact h (by rw [e]; rfl)
theorem apt_new {w w' : World} {B C : Nat} {u v : Value} {l m : List Int} (h : OwnB w B u l) (k : OwnB w' C v m) (hC : w.heap.size ≤ C) : Apt u v := by
 cases hu : u.ownBlock with
 | none => exact .inl hu
 | some b =>
  right
  intro e
  have h1 := (World.ownsRow.lt h b hu).2
  have h2 := (World.ownsRow.lt k b (by rw [← e]; exact hu)).1
  omega
theorem sts_snoc6 : ∀ (cs : List Cl) (b j : Nat) (c : Cl), cs[j]? = some c → sts b (cs.take (j + 1)) = sts b (cs.take j) ++ [b + (bdy (cs.take j)).length]
 | [], _, j, _, h => by simp at h
 | d :: r, b, 0, c, h => by simp [sts, bdy]
 | d :: r, b, j + 1, c, h => by
  have ih := sts_snoc6 r (b + (cB d).length) j c (by simpa using h)
  simp only [List.take_succ_cons, sts, zbo, zG]
  rw [ih]
  simp [Nat.add_assoc]
theorem bdy_snoc6 (cs : List Cl) (j : Nat) (c : Cl) (h : cs[j]? = some c) : bdy (cs.take (j + 1)) = bdy (cs.take j) ++ cB c := by
 rw [List.take_add_one, h, zbe]
 simp [bdy]
theorem bdy_le6 (cs : List Cl) (j : Nat) : (bdy (cs.take j)).length ≤ (bdy cs).length := by
 have e : bdy cs = bdy (cs.take j) ++ bdy (cs.drop j) := by rw [← zbe, List.take_append_drop]
 rw [e, zG]
 omega
theorem bdy_wf6 : ∀ cs : List Cl, (∀ c ∈ cs, c.Wf) → Wf (bdy cs)
 | [], _ => by intro x hx; cases hx
 | c :: r, h => by rw [zbo]; exact (cB_wf (h c zv)).append (bdy_wf6 r (fun d hd => h d (by simp [hd])))
theorem sloB_snoc6 (l : List Nat) (s : Nat) : sloB (l ++ [s]) = sloB l ++ fB 2 (s : Int) := by simp [sloB]
theorem chk_all6 (k p : Int) : ∀ (pr : Option (List Int)) (cs : List Cl), chk k p pr cs = 0 → ∀ c ∈ cs, mayP k p c
 | _, [], _, c, hc => by cases hc
 | pr, d :: r, h, c, hc => by
  unfold chk at h
  by_cases h1 : mayP k p d
  ·rw [if_pos h1] at h
   by_cases h2 : zap pr d.key
   ·rw [if_pos h2] at h
    rcases List.mem_cons.1 hc with rfl | hc
    ·exact h1
    ·exact chk_all6 k p _ r h c hc
   ·rw [if_neg h2] at h; cases h
  ·rw [if_neg h1] at h; cases h
theorem may_nums6 {k p : Int} {c : Cl} (h : mayP k p c) (hp : p ≤ 65536) : (¬ c.kd = 1 → (0 ≤ c.pg ∧ c.pg < 9223372036854775808) ∧ (0 ≤ c.ct ∧ c.ct < 9223372036854775808)) ∧ c.key.length + c.val.length ≤ 35184372088832 := by
 unfold mayP zbx zca at h
 have hv : c.val = [] → c.val.length = 0 := fun e => by rw [e]; rfl
 refine ⟨fun hk => ?_, ?_⟩
 ·rcases h.2 with ⟨_, _, _, h3⟩ | ⟨_, _, ⟨h4, _⟩ | ⟨_, _, h5⟩ | ⟨_, _, h6⟩⟩
  ·omega
  ·exact absurd h4 hk
  ·omega
  ·omega
 ·rcases h.2 with ⟨_, _, h2, _⟩ | ⟨_, _, ⟨_, h4, _⟩ | ⟨_, h5, _⟩ | ⟨_, h6, _⟩⟩
  ·have := hv h2; omega
  ·omega
  ·have := hv h5; omega
  ·have := hv h6; omega
def lnOf6 : Value → Nat
 | .slice _ n _ => n
 | _ => 0
theorem one_sl6 (w : World) (x : Int) (hx : 0 ≤ x ∧ x ≤ 255) : Sl (w.alloc (.cells #[.int .u8 x] 5)) (some ⟨w.heap.size, 0, none⟩) 1 1 [x] := by
 refine ⟨rfl, Lr, zq, Wf.cons hx Wf.nil, (by intro h; cases h), .inr ⟨w.heap.size, 0, rfl, zv, ?_⟩⟩
 intro i hi
 obtain rfl : i = 0 := zq
 simp
def RNo6 (k n : Int) (cs : List Cl) (w : World) (e : Ending) (w' : World) : Prop := e = .returned (.tuple #[.slice none 0 0, .int .i64 (encE k n cs)]) ∧ Hid (Below w.heap.size w w')
theorem RNo6.mk6 {k n c : Int} {cs : List Cl} {w w' : World} (hb : Below w.heap.size w w') (hc : c = encE k n cs) : RNo6 k n cs w (.returned (.tuple #[.slice none 0 0, .int .i64 c])) w' := ⟨by rw [hc], zaa hb⟩
set_option maxHeartbeats 8000000 in
theorem rencode6_no (k n : Int) (co : Option Addr) (cn cc : Nat) (cs : List Cl) (w : World) (hs : SlC w co cn cc cs) (B7 : cn ≤ 900000) (hz : szN cs ≤ 1099511627776) (U : encE k n cs ≠ 0) :
  Calls Tryz.prog 54 #[.int .i64 k, .slice co cn cc, .int .i64 n] w fun e w' => RNo6 k n cs w e w' := by
 have HS := zaa hs
 have HZ := zaa hz
 have A8 := zaa hs.hlen
 have B := zaa (zds n w)
 have D := zaa (rIsKind6_any k w)
 have A9 := zaa U
 clear hs hz U
 cases h2 : decide (pw n) with
 | false =>
  have HE : Hid ((1 : Int) = encE k n cs) := zaa (by unfold encE; rw [if_neg (fun h => by simp [h.2] at h2)])
  rw [h2] at B
  clear h2
  go_enter Tryz.func54, Tryz.ntmps54
  go_wp2_with (go_at_call 51; refine zad B.out ?_)
  go_ret2
  exact RNo6.mk6 Br HE.out
 | true =>
  have hn : pw n := by simpa using h2
  have V := pw_le hn
  rw [h2] at B
  cases h3 : decide (isKd k) with
  | false =>
   have HE : Hid ((1 : Int) = encE k n cs) := zaa (by unfold encE; rw [if_neg (fun h => by simp [h.1] at h3)])
   rw [h3] at D
   clear h2 h3 hn
   go_enter Tryz.func54, Tryz.ntmps54
   go_wp2_with (first
    | (go_at_call 51; refine zad B.out ?_)
    | (go_at_call 94; refine zad D.out ?_))
   go_ret2
   exact RNo6.mk6 Br HE.out
  | true =>
   have W : isKd k := by simpa using h3
   rw [h3] at D
   have G : Hid (encE k n cs = if chk k n none cs = 0 then (if n < szN cs then 61 else 0) else chk k n none cs) := zaa (by unfold encE; rw [if_pos ⟨W, hn⟩])
   have B0 : n ≤ 65536 := V.2
   have B1 : 512 ≤ n := zq
   clear hn V h2 h3 W
   go_enter Tryz.func54, Tryz.ntmps54
   go_wp2_with (first
    | (go_at_call 51; refine zad B.out ?_)
    | (go_at_call 94; refine zad D.out ?_))
   clear B D
   go_loopw [9] (fun i wr => ∃ j : Nat, j ≤ cn ∧ i = .int .i64 j ∧ Hid (chk k n none cs = chk k n (prv (cs.take j)) (cs.drop j)) ∧ Hid (Below w.heap.size w wr)) (fun i _ => cn - (RowKit.intOf i).toNat)
   case atStart => exact ⟨0, zq, rfl, zaa (by simp [prv]), zaa Br⟩
   case round =>
    obtain ⟨j, hj, rfl, HC, E⟩ := hrel
    have bj : (j : Int) ≤ 900000 := zq
    by_cases B2 : j < cn
    ·have B5 : (j : Int) < (cn : Int) := zq
     obtain ⟨b, off, c, ka, kc, va, vc, rfl, hb, J, c0, c1, c2, c3, c4, K, X⟩ := (HS.out.on E.out).item j B2
     have H := zaa (chk_step k n cs j c J)
     have B8 := zaa J
     have Y := zaa K
     have F := zaa (rmay6_any k n c ka va kc vc wr B1 B0 K.hroom X.hroom)
     clear J K X
     cases hm : decide (mayP k n c) with
     | false =>
      have HE : Hid ((62 : Int) = encE k n cs) := by
       have : ¬ mayP k n c := by simpa using hm
       have e : chk k n none cs = 62 := by rw [HC.out, H.out, if_neg this]
       exact zaa (by rw [G.out, e]; simp)
      rw [hm] at F
      go_wp2_with (go_at_call 95; refine F.out.mono ?_; rintro e w2 ⟨rfl, A⟩; have L := zaa (zae E.out Lr A); clear A)
      go_ret2
      exact RNo6.mk6 L.out HE.out
     | true =>
      have A0 : mayP k n c := by simpa using hm
      have M := zaa A0
      rw [hm] at F
      clear A0 hm
      go_wp2_with (go_at_call 95; refine F.out.mono ?_; rintro e w2 ⟨rfl, A⟩; have A1 := zaa A; have C := zaa (zae E.out Lr A); clear A; refine Hid.out ?_)
      apply zaa
      have d0 := (A1.out.cell (p := ⟨b, off + j * 5, none⟩) hb).trans c0
      clear c0 c1 c2 c3 c4 F
      by_cases A2 : j = 0
      ·subst A2
       have N : Hid (chk k n none cs = chk k n (prv (cs.take (0 + 1))) (cs.drop (0 + 1))) := zaa (by rw [HC.out, H.out, if_pos M.out, if_pos (by simp [prv, zap])])
       have B6 : decide ((0 : Int) < ((0 : Nat) : Int)) = false := by decide
       go_wp2_with fail
       go_quiet (fail)
       go_wp2
       go_roundw
       case rel => exact ⟨1, zq, by go_num, N, zaa (zac C.out _)⟩
       case measure => simp [RowKit.intOf]; omega
      ·obtain ⟨i, A3⟩ : ∃ i, j = i + 1 := ⟨j - 1, zq⟩
       obtain ⟨b', off', c', ka', kc', va', vc', O, hb', Q, e0, e1, e2, e3, e4, hk', hv'⟩ := (HS.out.on C.out).item i zq
       injection O with O
       injection O with B3 A
       subst B3 A
       have R : prv (cs.take j) = some c'.key := by rw [A3, List.take_add_one, Q]; simp [prv]
       have A4 := zaa R
       have k3 : ∀ z, (convert 22 9 (.slice ka' c'.key.length kc')).run Tryz.prog (w2.drewN z) = .ok (.string (strOfNums c'.key)) (w2.drewN z) := fun z => zar (hk'.drewN z)
       have k4 : ∀ z, (convert 22 9 (.slice ka c.key.length kc)).run Tryz.prog (w2.drewN z) = .ok (.string (strOfNums c.key)) (w2.drewN z) := fun z => zar ((Y.out.on Lr A1.out).drewN z)
       have A5 := zaa (str_less hk'.wf Y.out.wf)
       have i1 : (i : Int) < (cn : Int) := zq
       have i2 : i < cn := zq
       have i3 : (i : Int) ≤ 900000 := zq
       have i4 : IntKind.i64.wrap ((j : Int) - 1) = (i : Int) := by rw [IntKind.wrap_i64]; omega
       have i7 : (j : Int) - 1 = (i : Int) := zq
       have i5 : 0 < (j : Int) := zq
       have i6 : 0 < j := zq
       have i8 : decide (0 < j) = true := decide_eq_true i6
       clear hk' hv' R Q e1 e2 e3 e4 A2 A3 hb'
       cases I : decide (kl c'.key c.key) with
       | true =>
        have N : Hid (chk k n none cs = chk k n (prv (cs.take (j + 1))) (cs.drop (j + 1))) := zaa (by
         rw [HC.out, H.out, if_pos M.out, if_pos (by rw [A4.out]; simpa [zap] using I)])
        have B4 : Op.bytesLess (strOfNums c'.key).toList (strOfNums c.key).toList = true := by rw [A5.out]; exact I
        go_wp2_with fail
        go_quiet (fail)
        go_wp2
        go_roundw
        case rel => exact ⟨j + 1, zq, by go_num, N, zaa (zac C.out _)⟩
        case measure => simp [RowKit.intOf]; omega
       | false =>
        have HE : Hid ((63 : Int) = encE k n cs) := by
         have e : chk k n none cs = 63 := by rw [HC.out, H.out, if_pos M.out, if_neg (by rw [A4.out]; simpa [zap] using I)]
         exact zaa (by rw [G.out, e]; simp)
        have B4 : Op.bytesLess (strOfNums c'.key).toList (strOfNums c.key).toList = false := by rw [A5.out]; exact I
        go_wp2_with fail
        go_quiet (fail)
        go_wp2
        go_ret2
        exact RNo6.mk6 (zac C.out _) HE.out
    ·have A6 : Hid (chk k n none cs = 0) := zaa (by rw [HC.out, List.drop_eq_nil_of_le (by rw [A8.out]; omega)]; rfl)
     have P : Hid (encE k n cs = if n < szN cs then 61 else 0) := zaa (by rw [G.out, if_pos A6.out])
     have A7 := zaa (rsize6_any k co cn cc cs wr (HS.out.on E.out) HZ.out)
     obtain ⟨Z, hZ⟩ : ∃ Z : Nat, szN cs = Z := ⟨_, rfl⟩
     rw [hZ] at A7 P
     have B9 : (Z : Int) ≤ 1099511627776 := by have := HZ.out; omega
     clear HC A6 G hZ
     by_cases T : n < (Z : Int)
     ·have HE : Hid ((61 : Int) = encE k n cs) := zaa (by rw [P.out, if_pos T])
      go_wp2_with (go_at_call 96; refine A7.out.mono ?_; rintro e w2 ⟨rfl, L⟩)
      go_ret2
      exact RNo6.mk6 (zae E.out Lr L.out) HE.out
     ·exact absurd (by rw [P.out, if_neg T]) A9.out
end Go.Proofs.YtbkhjeacmmbabaaGreatDoor
