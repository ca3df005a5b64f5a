import Derived.Lib.SlBytesConst
import Derived.Test.YtbkhjeacmmbabaaGreatDoorJ14
namespace Go.Proofs.YtbkhjeacmmbabaaGreatDoor
set_option maxRecDepth 100000
set_option maxHeartbeats 2000000
open Go.RowKit
theorem kl_trans : ∀ (a b c : List Int), kl a b → kl b c → kl a c
 | [], [], _, h, _ => by simp [kl, ordL] at h
 | [], _ :: _, [], _, h => by simp [kl, ordL] at h
 | [], _ :: _, _ :: _, _, _ => by simp [kl, ordL]
 | _ :: _, [], _, h, _ => by simp [kl, ordL] at h
 | _ :: _, _ :: _, [], _, h => by simp [kl, ordL] at h
 | x :: a, y :: b, z :: c, h, g => by
  have ih := kl_trans a b c
  unfold kl at *
  simp only [ordL] at h g ⊢
  by_cases h1 : x < y
  ·by_cases g1 : y < z
   ·rw [if_pos zq]
   ·rw [if_neg g1] at g
    by_cases g2 : z < y
    ·rw [if_pos g2] at g; simp at g
    ·rw [if_pos zq]
  ·rw [if_neg h1] at h
   by_cases h2 : y < x
   ·rw [if_pos h2] at h; simp at h
   ·rw [if_neg h2] at h
    by_cases g1 : y < z
    ·rw [if_pos zq]
    ·rw [if_neg g1] at g
     by_cases g2 : z < y
     ·rw [if_pos g2] at g; simp at g
     ·rw [if_neg g2] at g
      rw [if_neg zq, if_neg zq]
      exact ih h g
theorem chk_first {k p : Int} : ∀ {q : List Int} {cs : List Cl}, chk k p (some q) cs = 0 → ∀ c ∈ cs, kl q c.key
 | _, [], _, c, hc => by cases hc
 | q, d :: r, h, c, hc => by
  unfold chk at h
  split at h
  ·split at h
   ·next h2 =>
    rcases List.mem_cons.1 hc with e | e
    ·rw [e]; exact h2
    ·exact kl_trans _ _ _ h2 (chk_first h c e)
   ·simp at h
  ·simp at h
theorem chk_rise {k p : Int} : ∀ {pr : Option (List Int)} {cs : List Cl}, chk k p pr cs = 0 → ∀ (i j : Nat) (c d : Cl), i < j → cs[i]? = some c → cs[j]? = some d → kl c.key d.key
 | _, [], _, i, j, c, d, _, hc, _ => by simp at hc
 | pr, e :: r, h, 0, j + 1, c, d, _, hc, hd => by
  unfold chk at h
  split at h
  ·split at h
   ·simp at hc
    subst hc
    exact chk_first h d (List.mem_of_getElem? (by simpa using hd))
   ·simp at h
  ·simp at h
 | pr, e :: r, h, i + 1, j + 1, c, d, hij, hc, hd => by
  unfold chk at h
  split at h
  ·split at h
   ·exact chk_rise h i j c d zq (by simpa using hc) (by simpa using hd)
   ·simp at h
  ·simp at h
 | _, _ :: _, _, i, 0, _, _, hij, _, _ => by omega
theorem key_at (cs : List Cl) (i : Nat) (c : Cl) (h : cs[i]? = some c) (hf : c.fit) : ∃ r, zao ((bdy cs).drop ((bdy (cs.take i)).length + 1)) = some (c.key, r) := by
 obtain ⟨hi, e⟩ := zH.1 h
 have hd : (bdy cs).drop (bdy (cs.take i)).length = cB c ++ bdy (cs.drop (i + 1)) := by
  rw [bdy_drop, List.drop_eq_getElem_cons hi, e, zbo]
 rw [← List.drop_drop, hd, cB]
 simp only [List.cons_append, List.nil_append, List.drop_succ_cons, List.drop_zero, zM]
 exact ⟨_, pText_mid _ _ hf.key⟩
theorem keyAt_any (w : World) (a : Nat) (k : Int) (n : Nat) (bo : Option Addr) (bn bc : Nat) (so : Option Addr) (sn sc : Nat) (cs : List Cl) (h : PgAt w a k n bo bn bc so sn sc cs) (F : ∀ c ∈ cs, c.fit) (i : Nat) (c : Cl) (A : cs[i]? = some c) (hsz : bn ≤ 65536) :
  Calls Tryz.prog 226 #[.pointer (some ⟨a, 0, none⟩), .int .i64 (((sts 0 cs).getD i 0 : Nat) : Int)] w fun e w' => ∃ ko kn kc, e = .returned (.slice ko kn kc) ∧ Hid (Sl w' ko kn kc c.key) ∧ Hid (Below w.heap.size w w') := by
 obtain ⟨hi, K⟩ := zH.1 A
 obtain ⟨L, H⟩ := h.sn_eq
 obtain ⟨c0, c1, c2, c3⟩ := h.cells
 rw [zcb 0 i cs hi, Nat.zero_add]
 obtain ⟨r, C⟩ := key_at cs i c A (F c (List.mem_of_getElem? A))
 have D : (bdy (cs.take i)).length + 1 ≤ bn := by
  have h1 := congrArg List.length (bdy_drop cs i)
  rw [List.drop_eq_getElem_cons hi, zbo, zK, zG] at h1
  have h2 := cB_length cs[i]
  have h3 : 2 < ctk cs[i] := by unfold ctk; split <;> omega
  omega
 obtain ⟨st, I⟩ : ∃ st, (bdy (cs.take i)).length = st := ⟨_, rfl⟩
 rw [I] at C D ⊢
 obtain ⟨gb, off, rfl⟩ : ∃ gb off, bo = some ⟨gb, off, none⟩ := by
  rcases h.body.hat with h0 | ⟨b, off, e, _⟩
  ·omega
  ·exact ⟨b, off, e⟩
 have M := zaa h.body
 have J := zaa C
 have b1 : (st : Int) ≤ 65536 := zq
 obtain ⟨st1, G⟩ : ∃ st1, st + 1 = st1 := ⟨_, rfl⟩
 have R : (st : Int) + 1 = (st1 : Int) := zq
 rw [G] at J D
 have T := zaa H
 clear h A hi K F C I L H G
 go_enter Tryz.func226, Tryz.ntmps226
 have N : Hid (∀ x, x = w.alloc (.cells #[.slice (some ⟨gb, off, none⟩) bn bc, .int .i64 (st1 : Int), .bool false] 151) → Calls Tryz.prog 159 #[.pointer (some ⟨w.heap.size, 0, none⟩)] x fun e w' => ∃ ko kn kc, e = .returned (.slice ko kn kc) ∧ Hid (Sl w' ko kn kc c.key) ∧ Hid (Below w.heap.size w w')) := by
  refine zaa fun x hx => ?_
  have E : Below w.heap.size w x := by rw [hx]; exact zab Br Lr _
  have O : Rd x w.heap.size (some ⟨gb, off, none⟩) bn bc st1 false := by rw [hx]; exact heap_alloc_last w _
  refine (text_any (bdy cs) x w.heap.size gb off bn bc st1 false O (M.out.on Lr E) D).mono ?_
  rintro e w' ⟨ko, kn, kc, p, en', t, rfl, _, HC, HQ⟩
  obtain ⟨hs, _, _, B⟩ := HQ.out
  rw [J.out] at B
  rcases B with ⟨h1, _⟩ | ⟨h1, _⟩
  ·injection h1 with h1
   injection h1 with h2 _
   subst h2
   exact ⟨ko, kn, kc, rfl, zaa hs, zaa (E.trans (HC.out.below E.size (by intro i hi e; omega)))⟩
  ·cases h1
 go_wp2_with (go_at_call 159; refine (N.out _ rfl).mono ?_; rintro e w2 ⟨ko, kn, kc, rfl, P, Q⟩)
 go_ret
 exact ⟨ko, kn, kc, rfl, P, Q⟩
theorem find1_any (w : World) (a bx : Nat) (k : Int) (n : Nat) (bo : Option Addr) (bn bc : Nat) (so : Option Addr) (sn sc : Nat) (cs : List Cl) (h : PgAt w a k n bo bn bc so sn sc cs) (B : ∀ c ∈ cs, c.fit) (i : Nat) (c : Cl) (C : cs[i]? = some c) (hsz : bn ≤ 65536) (qo : Option Addr) (qn qc : Nat) (q : List Int) (hq : Sl w qo qn qc q) (E : w.cell? ⟨bx, 0, none⟩ = some (.pointer (some ⟨a, 0, none⟩))) :
  Calls Tryz.prog 225 #[.int .i64 (((sts 0 cs).getD i 0 : Nat) : Int), .slice qo qn qc, .pointer (some ⟨bx, 0, none⟩)] w fun e w' => e = .returned (.int .i64 (ordL c.key q)) ∧ Hid (Below w.heap.size w w') := by
 have HK := zaa (keyAt_any w a k n bo bn bc so sn sc cs h B i c C hsz)
 have HQ := zaa hq
 generalize (((sts 0 cs).getD i 0 : Nat) : Int) = st at *
 clear h hq
 go_enter Tryz.func225, Tryz.ntmps225
 go_wp2_with (first | (go_at_call 226; refine HK.out.mono ?_; rintro e w2 ⟨ko, kn, kc, rfl, D, A⟩) | (go_at_call 111; refine zad (compare_any _ _ _ _ _ _ c.key q _ D.out (HQ.out.on Lr A.out)) ?_))
 go_ret
 exact ⟨rfl, A⟩
structure Fnd (cs : List Cl) (q : List Int) (r : Nat) : Prop where
 le : r ≤ cs.length
 lo : ∀ i c, i < r → cs[i]? = some c → kl c.key q
 hi : ∀ i c, r ≤ i → cs[i]? = some c → ¬ kl c.key q
def FindTo (cs : List Cl) (q : List Int) (w : World) (e : Ending) (w' : World) : Prop :=
 ∃ r : Nat, ∃ is : Bool, e = .returned (.tuple #[.int .i64 (r : Int), .bool is]) ∧ Hid (Below w.heap.size w w') ∧ Hid (Fnd cs q r ∧ (is = true ↔ ∃ c, cs[r]? = some c ∧ c.key = q))
theorem search_any (w : World) (a bx : Nat) (k : Int) (n : Nat) (bo : Option Addr) (bn bc : Nat) (so : Option Addr) (sn sc : Nat) (cs : List Cl) (h : PgAt w a k n bo bn bc so sn sc cs) (G : chk k n none cs = 0) (hn : (n : Int) ≤ 65536) (hsz : bn ≤ 65536) (W : sn ≤ 65536) (qo : Option Addr) (qn qc : Nat) (q : List Int) (hq : Sl w qo qn qc q) (J : w.cell? ⟨bx, 0, none⟩ = some (.pointer (some ⟨a, 0, none⟩))) (Q : bx < w.heap.size) :
  Calls Tryz.prog 224 #[.slice so sn sc, .slice qo qn qc, .func (.func 225) #[] #[.pointer (some ⟨bx, 0, none⟩)]] w fun e w' => FindTo cs q w e w' := by
 have L := zaa h
 have O : Hid (∀ c ∈ cs, c.fit) := zaa fun c hc => (zcp G c hc).fit hn
 have M := zaa (chk_rise G)
 have HQ := zaa hq
 have D := zaa h.sn_eq.1
 have X := zaa J
 have HF : Hid (∀ u i c, Below w.heap.size w u → cs[i]? = some c → Calls Tryz.prog 225 #[.int .i64 (((sts 0 cs).getD i 0 : Nat) : Int), .slice qo qn qc, .pointer (some ⟨bx, 0, none⟩)] u fun e w' => e = .returned (.int .i64 (ordL c.key q)) ∧ Hid (Below u.heap.size u w')) :=
  zaa fun u i c hu hc => find1_any u a bx k n bo bn bc so sn sc cs (L.out.on hu) O.out i c hc hsz qo qn qc q (HQ.out.on Lr hu) ((hu.cell (p := ⟨bx, 0, none⟩) Q).trans J)
 clear h G hq J
 go_enter Tryz.func224, Tryz.ntmps224
 go_wp2_with fail
 go_loopw [9, 10] (fun s9 s10 wr => ∃ lo hi : Nat, s9 = .int .i64 lo ∧ s10 = .int .i64 hi ∧ lo ≤ hi ∧ hi ≤ sn ∧ Hid (Below w.heap.size w wr) ∧ Hid ((∀ i c, i < lo → cs[i]? = some c → kl c.key q) ∧ ∀ i c, hi ≤ i → cs[i]? = some c → ¬ kl c.key q)) (fun s9 s10 _ => (intOf s10).toNat - (intOf s9).toNat)
 case atStart => exact ⟨0, sn, rfl, rfl, zq, zq, zaa Br, zaa ⟨fun i c hi => zq, fun i c hi hc => by
  have := (zH.1 hc).1
  have := D.out
  omega⟩⟩
 case round =>
  obtain ⟨lo, hi, rfl, rfl, Y, R, HB, HI⟩ := hrel
  have b1 : (lo : Int) ≤ 65536 := zq
  have b2 : (hi : Int) ≤ 65536 := zq
  have E := (L.out.on HB.out).starts
  by_cases Z : lo < hi
  ·have P : (lo : Int) < (hi : Int) := zq
   obtain ⟨gs, offs, rfl, T, F⟩ : ∃ b off, so = some ⟨b, off, none⟩ ∧ b < wr.heap.size ∧ ∀ j, j < sn → wr.cell? ⟨b, off + j, none⟩ = some (.int .i64 (((sts 0 cs).getD j 0 : Nat) : Int)) := by
    rcases E.hat with h0 | h0
    ·omega
    ·exact h0
   obtain ⟨m, hm⟩ : ∃ m, (lo + hi) / 2 = m := ⟨_, rfl⟩
   have A0 : ((lo : Int) + (hi : Int)) / 2 = (m : Int) := zq
   have m1 : m < sn := zq
   have m2 : (m : Int) < (sn : Int) := zq
   have m3 : (m : Int) ≤ 65536 := zq
   have cj := F m m1
   obtain ⟨c, hc⟩ : ∃ c, cs[m]? = some c := ⟨_, zI (by have := D.out; omega)⟩
   have A := zaa (HF.out wr m c HB.out hc)
   have HC := zaa hc
   have H : Hid (lo ≤ m ∧ m < hi) := zaa zq
   obtain ⟨st, C⟩ : ∃ st, (((sts 0 cs).getD m 0 : Nat) : Int) = st := ⟨_, rfl⟩
   rw [C] at cj A
   have h3 := ordL_three c.key q
   have I : Hid (kl c.key q ↔ ordL c.key q < 0) := zaa (by unfold kl; omega)
   generalize ordL c.key q = o at *
   clear F E hc hm C h3
   by_cases ho : o < 0
   ·go_wp2_with (go_at_call 225; refine A.out.mono ?_; rintro e w2 ⟨rfl, B⟩)
    go_roundw
    case rel =>
     refine ⟨m + 1, hi, by go_num, rfl, by have := H.out; omega, R, zaa (zae HB.out Lr B.out), zaa ⟨fun i d hi' hd => ?_, HI.out.2⟩⟩
     by_cases e : i = m
     ·subst e
      rw [HC.out] at hd
      injection hd with hd
      subst hd
      exact I.out.2 ho
     ·exact kl_trans _ _ _ (M.out i m d c zq hd HC.out) (I.out.2 ho)
    case measure => have := H.out; simp [intOf]; omega
   ·go_wp2_with (go_at_call 225; refine A.out.mono ?_; rintro e w2 ⟨rfl, B⟩)
    go_roundw
    case rel =>
     refine ⟨lo, m, rfl, by go_num, by have := H.out; omega, zq, zaa (zae HB.out Lr B.out), zaa ⟨HI.out.1, fun i d hi' hd hk => ?_⟩⟩
     by_cases e : i = m
     ·subst e
      rw [HC.out] at hd
      injection hd with hd
      subst hd
      have := I.out.1 hk
      omega
     ·have := I.out.1 (kl_trans _ _ _ (M.out m i c d zq HC.out hd) hk)
      omega
    case measure => have := H.out; simp [intOf]; omega
  ·obtain rfl : hi = lo := zq
   have P : ¬ (hi : Int) < (hi : Int) := zq
   have K : Hid (Fnd cs q hi) := zaa ⟨by have := D.out; omega, HI.out.1, HI.out.2⟩
   by_cases hh : hi < sn
   ·have U : (hi : Int) < (sn : Int) := zq
    obtain ⟨gs, offs, rfl, T, F⟩ : ∃ b off, so = some ⟨b, off, none⟩ ∧ b < wr.heap.size ∧ ∀ j, j < sn → wr.cell? ⟨b, off + j, none⟩ = some (.int .i64 (((sts 0 cs).getD j 0 : Nat) : Int)) := by
     rcases E.hat with h0 | h0
     ·omega
     ·exact h0
    have cj := F hi hh
    obtain ⟨c, hc⟩ : ∃ c, cs[hi]? = some c := ⟨_, zI (by have := D.out; omega)⟩
    have A := zaa (HF.out wr hi c HB.out hc)
    have N : Hid (ordL c.key q = 0 ↔ ∃ d, cs[hi]? = some d ∧ d.key = q) := zaa (by
     rw [hc]
     constructor
     ·intro h
      exact ⟨c, rfl, ordL_eq _ _ h⟩
     ·rintro ⟨d, hd, rfl⟩
      injection hd with hd
      subst hd
      exact ordL_self _)
    obtain ⟨st, C⟩ : ∃ st, (((sts 0 cs).getD hi 0 : Nat) : Int) = st := ⟨_, rfl⟩
    rw [C] at cj A
    generalize ordL c.key q = o at *
    clear F E hc C
    by_cases ho : o = 0
    ·subst ho
     go_wp2_with (go_at_call 225; refine A.out.mono ?_; rintro e w2 ⟨rfl, B⟩)
     go_ret2
     exact ⟨hi, true, rfl, zaa (zae HB.out Lr B.out), zaa ⟨K.out, by simpa using N.out⟩⟩
    ·have d1 : (o == 0) = false := by simpa using ho
     go_wp2_with (go_at_call 225; refine A.out.mono ?_; rintro e w2 ⟨rfl, B⟩)
     go_ret2
     exact ⟨hi, false, rfl, zaa (zae HB.out Lr B.out), zaa ⟨K.out, by simpa using fun x h1 h2 => ho (N.out.2 ⟨x, h1, h2⟩)⟩⟩
   ·have U : ¬ (hi : Int) < (sn : Int) := zq
    have V : Hid (cs[hi]? = none) := zaa (List.getElem?_eq_none (by have := D.out; omega))
    clear E
    go_wp2
    go_ret2
    exact ⟨hi, false, rfl, HB, zaa ⟨K.out, by simp [V.out]⟩⟩
theorem find_any (w : World) (a : Nat) (k : Int) (n : Nat) (bo : Option Addr) (bn bc : Nat) (so : Option Addr) (sn sc : Nat) (cs : List Cl) (h : PgAt w a k n bo bn bc so sn sc cs) (B : chk k n none cs = 0) (hn : (n : Int) ≤ 65536) (hf : szN cs ≤ n) (qo : Option Addr) (qn qc : Nat) (q : List Int) (hq : Sl w qo qn qc q) :
  Calls Tryz.prog 217 #[.pointer (some ⟨a, 0, none⟩), .slice qo qn qc] w fun e w' => FindTo cs q w e w' := by
 have hz := zaw cs
 obtain ⟨h1, h2⟩ := h.sn_eq
 obtain ⟨x, hx⟩ : ∃ x, w.alloc (.cells #[.pointer (some ⟨a, 0, none⟩)] 80) = x := ⟨_, rfl⟩
 have A : Below w.heap.size w x := by rw [← hx]; exact zab Br Lr _
 obtain ⟨s, hs⟩ : ∃ s, w.heap.size = s := ⟨_, rfl⟩
 have hc : x.cell? ⟨s, 0, none⟩ = some (.pointer (some ⟨a, 0, none⟩)) := by rw [← hx, ← hs]; simp
 have C := zaa (search_any x a s k n bo bn bc so sn sc cs (h.on A) B hn zq zq qo qn qc q (hq.on Lr A) hc (by rw [← hx, ← hs]; simp))
 obtain ⟨c0, c1, c2, c3⟩ := (h.on A).cells
 have D := zaa A
 clear h hq h1 h2 hz A
 go_enter Tryz.func217, Tryz.ntmps217
 go_wp2_with (go_at_call 224; refine C.out.mono ?_; rintro e w2 ⟨r, is, rfl, E, HQ⟩)
 go_ret2
 exact ⟨r, is, rfl, zaa (zae D.out Lr E.out), HQ⟩
theorem used_row (w : World) (a : Nat) (k : Int) (n : Nat) (bo : Option Addr) (bn bc : Nat) (so : Option Addr) (sn sc : Nat) (h : PR w a k n (.slice bo bn bc) (.slice so sn sc)) (h1 : bn ≤ 65536) (h2 : sn ≤ 65536) :
  Calls Tryz.prog 222 #[.pointer (some ⟨a, 0, none⟩)] w fun e w' => e = .returned (.int .i64 ((8 + 2 * sn + bn : Nat) : Int)) ∧ ∃ q, w' = w.drewN q := by
 obtain ⟨c0, c1, c2, c3⟩ := h.cells
 have b1 : (bn : Int) ≤ 65536 := zq
 have b2 : (sn : Int) ≤ 65536 := zq
 have w1 : IntKind.i64.wrap (2 * (sn : Int)) = 2 * (sn : Int) := by rw [IntKind.wrap_i64]; omega
 have w2 : IntKind.i64.wrap (4 + 2 * (sn : Int)) = 4 + 2 * (sn : Int) := by rw [IntKind.wrap_i64]; omega
 have w3 : IntKind.i64.wrap (4 + 2 * (sn : Int) + (bn : Int)) = 4 + 2 * (sn : Int) + (bn : Int) := by rw [IntKind.wrap_i64]; omega
 have w4 : IntKind.i64.wrap (4 + 2 * (sn : Int) + (bn : Int) + 4) = 4 + 2 * (sn : Int) + (bn : Int) + 4 := by rw [IntKind.wrap_i64]; omega
 clear h
 go_enter Tryz.func222, Tryz.ntmps222
 go_wp2_with fail
 go_quiet (fail)
 go_wp2
 go_ret
 exact ⟨zbf zq, _, rfl⟩
theorem lenR_any (w : World) (a : Nat) (k : Int) (n : Nat) (vb : Value) (so : Option Addr) (sn sc : Nat) (h : PR w a k n vb (.slice so sn sc)) :
  Calls Tryz.prog 75 #[.pointer (some ⟨a, 0, none⟩)] w fun e w' => e = .returned (.int .i64 (sn : Int)) ∧ w' = w := by
 obtain ⟨c0, c1, c2, c3⟩ := h.cells
 clear h
 go_enter Tryz.func75, Tryz.ntmps75
 go_wp2
 go_ret
 exact ⟨rfl, rfl⟩
theorem pw512 : pw 512 := by decide
theorem isKd2 : isKd 2 := by decide
theorem conv6H (w : World) (C : Array Value) (n c H : Nat) (hH : w.heap.size = H) : (convert 22 22 (.slice (some ⟨H, 0, none⟩) n c)).run Tryz.prog (w.alloc (.cells C 5)) = .ok (.slice (some ⟨H, 0, none⟩) n c) (w.alloc (.cells C 5 (C.size, C.size + 1))) := by
 subst hH
 exact Lib.run_convert_bytes_const (P := Tryz.prog) w 22 5 C n c Tryz.underlying22 Tryz.underlying5
theorem sl_lit (u : World) (C : List Int) (n : Nat) (fr : Nat × Nat) (g : Nat) (h : u.heap[g]? = some (.cells (By C).toArray 5 fr)) (hn : C.length = n) (hw : Wf C) (hb : n ≤ 65536) : Sl u (some ⟨g, 0, none⟩) n n C := by
 refine ⟨hn, Lr, zq, hw, (by intro h; cases h), .inr ⟨g, 0, rfl, zaf h, fun i hi => ?_⟩⟩
 rw [Nat.zero_add, cell_of_row _ _ i _ _ _ h]
 simp [By, List.getD, zI (show i < C.length by omega)]
theorem kl_irr (a : List Int) : ¬ kl a a := by unfold kl; rw [ordL_self]; decide
theorem Is.fits {k : Int} {n : Nat} {cs : List Cl} {b : List Int} (h : Is k n cs b) : ∀ c ∈ cs, c.fit := fun c hc => (zcp h.ok c hc).fit (by have := zas h.sz; omega)
theorem Is.few {k : Int} {n : Nat} {cs : List Cl} {b : List Int} (h : Is k n cs b) : cs.length ≤ 65536 ∧ szN cs ≤ 65536 ∧ (bdy cs).length ≤ 65536 := by
 have h1 := zas h.sz
 have h2 := zaw cs
 have h3 := h.fit
 omega
theorem sameCell_self (c : Cl) (ka ka' va va' : Option Addr) (kc kc' vc vc' : Nat) (w : World) (h1 : Sl w ka c.key.length kc c.key) (h2 : Sl w ka' c.key.length kc' c.key) (h3 : Sl w va c.val.length vc c.val) (h4 : Sl w va' c.val.length vc' c.val) :
  Calls Tryz.prog 23 #[.agg #[.slice ka c.key.length kc, .int .i64 c.kd, .slice va c.val.length vc, .int .i64 c.pg, .int .i64 c.ct], .agg #[.slice ka' c.key.length kc', .int .i64 c.kd, .slice va' c.val.length vc', .int .i64 c.pg, .int .i64 c.ct]] w fun e w' => e = .returned (.bool true) ∧ Below w.heap.size w w' := by
 obtain ⟨x, hx⟩ : ∃ x, ((w.alloc (.cells #[.slice ka c.key.length kc, .int .i64 c.kd, .slice va c.val.length vc, .int .i64 c.pg, .int .i64 c.ct] 50)).alloc (.cells #[.slice ka' c.key.length kc', .int .i64 c.kd, .slice va' c.val.length vc', .int .i64 c.pg, .int .i64 c.ct] 50)) = x := ⟨_, rfl⟩
 have hb : Below w.heap.size w x := by rw [← hx]; exact zab (zab Br Lr _) Lr _
 have k1 : ∀ q, (convert 22 9 (.slice ka c.key.length kc)).run Tryz.prog (x.drewN q) = .ok (.string (strOfNums c.key)) (x.drewN q) := fun q => zar ((h1.on Lr hb).drewN q)
 have k2 : ∀ q, (convert 22 9 (.slice ka' c.key.length kc')).run Tryz.prog (x.drewN q) = .ok (.string (strOfNums c.key)) (x.drewN q) := fun q => zar ((h2.on Lr hb).drewN q)
 have k3 : ∀ q, (convert 22 9 (.slice va c.val.length vc)).run Tryz.prog (x.drewN q) = .ok (.string (strOfNums c.val)) (x.drewN q) := fun q => zar ((h3.on Lr hb).drewN q)
 have k4 : ∀ q, (convert 22 9 (.slice va' c.val.length vc')).run Tryz.prog (x.drewN q) = .ok (.string (strOfNums c.val)) (x.drewN q) := fun q => zar ((h4.on Lr hb).drewN q)
 have j1 := zar (h1.on Lr hb)
 have j2 := zar (h2.on Lr hb)
 have j3 := zar (h3.on Lr hb)
 have j4 := zar (h4.on Lr hb)
 have A : (w.alloc (.cells #[.slice ka c.key.length kc, .int .i64 c.kd, .slice va c.val.length vc, .int .i64 c.pg, .int .i64 c.ct] 50)).heap.size = w.heap.size + 1 := by simp
 have b1 : C5 x w.heap.size (.slice ka c.key.length kc) (.int .i64 c.kd) (.slice va c.val.length vc) (.int .i64 c.pg) (.int .i64 c.ct) := by
  rw [← hx]
  exact zag (C5.box w _ _ _ _ _) (zab Br Lr _)
 have b2 : C5 x (w.heap.size + 1) (.slice ka' c.key.length kc') (.int .i64 c.kd) (.slice va' c.val.length vc') (.int .i64 c.pg) (.int .i64 c.ct) := by
  rw [← hx, ← A]
  exact C5.box _ _ _ _ _ _
 obtain ⟨c0, c1, c2, c3, c4⟩ := b1.cells
 obtain ⟨d0, d1, d2, d3, d4⟩ := b2.cells
 have HB := zaa hb
 clear h1 h2 h3 h4 hb b1 b2 A
 go_enter Tryz.func23, Tryz.ntmps23
 go_wp2
 go_ret
 exact ⟨rfl, HB.out⟩
theorem zde (ao bo : Option Addr) (n c d : Nat) (cs : List Cl) (w : World) (ha : SlC w ao n c cs) (hb : SlC w bo n d cs) :
  Calls Tryz.prog 9 #[.slice ao n c, .slice bo n d] w fun e w' => e = .returned (.bool true) ∧ Hid (Below w.heap.size w w') := by
 have HA := zaa ha
 have HC := zaa hb
 have hn := ha.hroom
 clear ha hb
 go_enter Tryz.func9, Tryz.ntmps9
 go_wp2_with fail
 go_loopw [5] (fun i wr => ∃ j : Nat, j ≤ n ∧ i = .int .i64 j ∧ Hid (Below w.heap.size w wr)) (fun i _ => n - (intOf i).toNat)
 case atStart => exact ⟨0, zq, rfl, zaa Br⟩
 case round =>
  obtain ⟨j, hj, rfl, HB⟩ := hrel
  have bj : (j : Int) ≤ 140737488355328 := zq
  by_cases B : j < n
  ·have F : (j : Int) < (n : Int) := zq
   obtain ⟨b, off, x, ka, kc, va, vc, rfl, hb, C, c0, c1, c2, c3, c4, hk, hv⟩ := (HA.out.on HB.out).item j B
   obtain ⟨b', off', x', ka', kc', va', vc', rfl, hb', A, d0, d1, d2, d3, d4, hk', hv'⟩ := (HC.out.on HB.out).item j B
   rw [C] at A
   injection A with D
   subst D
   have HS : Hid (∀ u, Below wr.heap.size wr u → Calls Tryz.prog 23 #[.agg #[.slice ka x.key.length kc, .int .i64 x.kd, .slice va x.val.length vc, .int .i64 x.pg, .int .i64 x.ct], .agg #[.slice ka' x.key.length kc', .int .i64 x.kd, .slice va' x.val.length vc', .int .i64 x.pg, .int .i64 x.ct]] u fun e w' => e = .returned (.bool true) ∧ Below wr.heap.size wr w') :=
    zaa fun u hu => (sameCell_self x ka ka' va va' kc kc' vc vc' u (hk.on Lr hu) (hk'.on Lr hu) (hv.on Lr hu) (hv'.on Lr hu)).mono fun e w' h => ⟨h.1, zae hu Lr h.2⟩
   clear hk hk' hv hv' C
   go_wp2_with fail
   go_region_with (first | (go_at_call 23; refine (HS.out _ ?_).mono ?_; (repeat (first | exact Br | apply Below.drew | apply below_drewN)); rintro e w1 ⟨rfl, E⟩))
   all_goals
    go_wp2
    go_roundw
    case rel => exact ⟨j + 1, zq, by go_num, zaa (zae HB.out Lr E)⟩
    case measure => simp [intOf]; omega
  ·obtain rfl : j = n := zq
   have G : ¬ (j : Int) < (j : Int) := zq
   go_wp2
   go_ret
   exact ⟨rfl, HB⟩
def Rs (cs : List Cl) : Prop := cs.Pairwise fun c d => kl c.key d.key
def Row5 (w : World) : List Value → List Cl → Prop
 | vs, [] => vs = []
 | vs, c :: r => ∃ ka kc va vc t, vs = .slice ka c.key.length kc :: .int .i64 c.kd :: .slice va c.val.length vc :: .int .i64 c.pg :: .int .i64 c.ct :: t ∧ Sl w ka c.key.length kc c.key ∧ Sl w va c.val.length vc c.val ∧ Row5 w t r
theorem Row5.cat {w w' : World} {b : Nat} (hB : Below w.heap.size w w') : ∀ {vs : List Value} {cs : List Cl} (off : Nat), Row5 w vs cs → (∀ j u, vs[j]? = some u → w'.cell? ⟨b, off + j, none⟩ = some u) → ∀ i c, cs[i]? = some c → CAt w' b (off + i * 5) c
 | vs, [], off, h, hc, i, c, hi => by simp at hi
 | vs, d :: r, off, h, hc, 0, c, hi => by
  obtain ⟨ka, kc, va, vc, t, rfl, h1, h2, h3⟩ := h
  simp at hi
  subst hi
  exact ⟨ka, kc, va, vc, hc 0 _ rfl, hc 1 _ rfl, hc 2 _ rfl, hc 3 _ rfl, hc 4 _ rfl, h1.on Lr hB, h2.on Lr hB⟩
 | vs, d :: r, off, h, hc, i + 1, c, hi => by
  obtain ⟨ka, kc, va, vc, t, rfl, h1, h2, h3⟩ := h
  have := Row5.cat hB (off + 5) h3 (fun j u hu => by
   have := hc (j + 5) u (by simpa using hu)
   rwa [show off + (j + 5) = off + 5 + j by omega] at this) i c (by simpa using hi)
  rwa [show off + 5 + i * 5 = off + (i + 1) * 5 by omega] at this
def R5B (w : World) (B : Nat) : List Value → List Cl → Prop
 | vs, [] => vs = []
 | vs, c :: r => ∃ ka kc va vc t, vs = .slice ka c.key.length kc :: .int .i64 c.kd :: .slice va c.val.length vc :: .int .i64 c.pg :: .int .i64 c.ct :: t ∧ OwnB w B (.slice ka c.key.length kc) c.key ∧ OwnB w B (.slice va c.val.length vc) c.val ∧ R5B w B t r
theorem R5B.append {w : World} {B : Nat} {us : List Value} {ds : List Cl} (g : R5B w B us ds) : ∀ {vs : List Value} {cs : List Cl}, R5B w B vs cs → R5B w B (vs ++ us) (cs ++ ds)
 | vs, [], h => by
  unfold R5B at h
  subst h
  exact g
 | vs, c :: r, h => by
  obtain ⟨ka, kc, va, vc, t, rfl, h1, h2, h3⟩ := h
  exact ⟨ka, kc, va, vc, t ++ us, rfl, h1, h2, R5B.append g h3⟩
theorem R5B.keep {w w' : World} {B : Nat} (hk : ∀ v l, OwnB w B v l → OwnB w' B v l) : ∀ {vs : List Value} {cs : List Cl}, R5B w B vs cs → R5B w' B vs cs
 | vs, [], h => h
 | vs, c :: r, h => by
  obtain ⟨ka, kc, va, vc, t, rfl, h1, h2, h3⟩ := h
  exact ⟨ka, kc, va, vc, t, rfl, hk _ _ h1, hk _ _ h2, R5B.keep hk h3⟩
theorem R5B.row {w : World} {B : Nat} (hl : ∀ v l, OwnB w B v l → True) : ∀ {vs : List Value} {cs : List Cl}, R5B w B vs cs → (∀ c ∈ cs, c.Wf ∧ c.key.length ≤ 140737488355328 ∧ c.val.length ≤ 140737488355328) → Row5 w vs cs
 | vs, [], h, _ => h
 | vs, c :: r, h, hw => by
  obtain ⟨ka, kc, va, vc, t, rfl, h1, h2, h3⟩ := h
  have hc := hw c zv
  exact ⟨ka, kc, va, vc, t, rfl, own_sl6 h1 hc.1.1 hc.2.1, own_sl6 h2 hc.1.2 hc.2.2, R5B.row hl h3 (fun d hd => hw d (by simp [hd]))⟩
def OwnD (w : World) (B : Nat) (v : Value) (cs : List Cl) : Prop := ∃ vs, w.ownsRow B 50 5 v cs.length vs ∧ R5B w B vs cs
theorem OwnD.nil (w : World) (B : Nat) : OwnD w B (.slice none 0 0) [] := ⟨[], World.ownsRow_nil _ _ _ _, rfl⟩
theorem OwnD.on {w w' : World} {B : Nat} {v : Value} {cs : List Cl} (h : OwnD w B v cs) (hb : Below w.heap.size w w') : OwnD w' B v cs := by
 obtain ⟨vs, h1, h2⟩ := h
 refine ⟨vs, World.ownsRow.kept (row := none) h1 ⟨hb.os, hb.tape, hb.output, hb.size, fun k hk _ => hb.block k hk⟩ ?_, h2.keep (fun v l h => h.on Lr hb)⟩
 cases hv : v.ownBlock with
 | none => exact .inl rfl
 | some k => exact .inr zv
theorem own_apart {w : World} {B n : Nat} {v u : Value} {vs : List Value} {l : List Int} (h : w.ownsRow B 50 5 v n vs) (k : OwnB w B u l) : u.ownBlock = none ∨ u.ownBlock ≠ v.ownBlock := by
 rcases h.2 with ⟨rfl, _⟩ | ⟨g, c, cur, rfl, _, hh, _⟩
 ·cases hu : u.ownBlock with
  | none => exact .inl rfl
  | some z => exact .inr zsv
 ·rcases k.2 with ⟨rfl, _⟩ | ⟨g', c', cur', rfl, _, hh', _⟩
  ·exact .inl zsv
  ·right
   intro e
   have e' : g' = g := by simpa [Value.ownBlock] using e
   rw [e'] at hh'
   rw [hh'] at hh
   simp at hh
theorem app_cd {ops : Array Oper} {rest : List Oper} {o : Oper} {a : Act} {Q : Exit → Act → World → Prop} (w : World) (G : o.guard = none) (s x : Operand)
  (ho : o.op = .call { callee := .builtin .append, args := #[s, x], argTypes := #[29, 29] }) (B : Nat) (cs : List Cl) (c : Cl) (v : Value) (b : Nat) (us : List Value) (hs : a.eval s = v) (hx : a.eval x = .slice (some ⟨b, 0, none⟩) 1 1)
  (D : OwnD w B v cs) (hr : R5B w B us [c]) (hc : ∀ j u, us[j]? = some u → w.cell? ⟨b, 0 + j, none⟩ = some u) (hb : cs.length + 1 ≤ 200000) (A : B ≤ w.heap.size)
  (h : ∀ v' w', Hid (OwnD w' B v' (cs ++ [c])) → Hid (Below B w w') → wpList Tryz.prog ops Q rest (a.put o.dst v') w') : wpList Tryz.prog ops Q (o :: rest) a w := by
 obtain ⟨i0, hi, H, I, J⟩ := info_parts infoC
 obtain ⟨vs, h1, h2⟩ := D
 have E : us.length = 1 * 5 := by
  obtain ⟨ka, kc, va, vc, t, rfl, _, _, h3⟩ := hr
  unfold R5B at h3
  subst h3
  rfl
 have F : ∀ u ∈ us, u.oneCell' = true := by
  obtain ⟨ka, kc, va, vc, t, rfl, _, _, h3⟩ := hr
  unfold R5B at h3
  subst h3
  intro u hu
  simp only [List.mem_cons, List.not_mem_nil, or_false] at hu
  rcases hu with rfl | rfl | rfl | rfl | rfl <;> rfl
 refine wpList_append_own_at w G s x 29 ho B 50 i0 _ 5 72 Tryz.underlying29 hi H I J rfl zd v cs.length vs hs h1 ⟨b, 0, none⟩ 1 1 us hx E
  (fun j u hu => by
   rw [Addr.add_lit]
   exact hc j u hu) F zml zq A ?_
 intro v' w' g1 g2 _ _
 have C : ∀ u l, OwnB w B u l → OwnB w' B u l := fun u l hu => World.ownsRow.kept hu g2 (own_apart h1 hu)
 refine h v' w' (zaa ⟨vs ++ us, ?_, R5B.append (hr.keep C) (h2.keep C)⟩) (zaa (zcu h1 A g2))
 rw [zG]
 exact g1
def Rdd (l : List Int) (ds : List Cl) (j : Nat) : Prop := ds.length = j ∧ ∀ (t : Nat) (c : Cl), ds[t]? = some c → ∃ r, zaj (l.drop (rdN l (4 + 2 * t) 2).toNat) = some (c, r)
theorem Rdd.nil (l : List Int) : Rdd l [] 0 := ⟨rfl, fun t c h => by simp at h⟩
theorem Rdd.step {l : List Int} {ds : List Cl} {j : Nat} {c : Cl} {r : List Int} (h : Rdd l ds j) (hc : zaj (l.drop (rdN l (4 + 2 * j) 2).toNat) = some (c, r)) : Rdd l (ds ++ [c]) (j + 1) := by
 obtain ⟨h1, h2⟩ := h
 refine ⟨by simp [h1], fun t d hd => ?_⟩
 by_cases ht : t < ds.length
 ·rw [zL ht] at hd
  exact h2 t d hd
 ·have A : t < (ds ++ [c]).length := (zH.1 hd).1
  have B : t = j := by simp at A; omega
  subst B
  rw [List.getElem?_append_right zq, h1, Nat.sub_self] at hd
  simp at hd
  subst hd
  exact ⟨r, hc⟩
theorem Is.goes {k : Int} {n : Nat} {cs : List Cl} {l : List Int} (h : Is k n cs l) {j N : Nat} (hN : rdN l 2 2 = N) (hj : j < N) : 4 + 2 * j + 2 ≤ n ∧ ∃ c r, zaj (l.drop (rdN l (4 + 2 * j) 2).toNat) = some (c, r) := by
 obtain ⟨h1, _, h3⟩ := h.slots
 have hl : j < cs.length := zq
 obtain ⟨h4, s, hs, _, r, hr⟩ := h3 j cs[j] (zI hl)
 refine ⟨h4, cs[j], r, ?_⟩
 rw [hs, Int.toNat_natCast]
 exact hr
theorem Is.read {k : Int} {n : Nat} {cs ds : List Cl} {l : List Int} (h : Is k n cs l) {N : Nat} (hN : rdN l 2 2 = N) (hd : Rdd l ds N) : ds = cs := by
 obtain ⟨h1, _, h3⟩ := h.slots
 obtain ⟨d1, d2⟩ := hd
 apply List.ext_getElem?
 intro t
 by_cases ht : t < N
 ·have a1 : t < ds.length := zq
  have a2 : t < cs.length := zq
  obtain ⟨_, s, hs, _, r, hr⟩ := h3 t cs[t] (zI a2)
  obtain ⟨r', hr'⟩ := d2 t ds[t] (zI a1)
  rw [hs, Int.toNat_natCast, hr] at hr'
  injection hr' with e
  injection e with e1 e2
  rw [zI a1, zI a2, e1]
 ·rw [List.getElem?_eq_none zq, List.getElem?_eq_none zq]
theorem Rdd.wf {l : List Int} {ds : List Cl} {j : Nat} (h : Rdd l ds j) (hw : Wf l) : ∀ c ∈ ds, c.Wf ∧ c.key.length ≤ 140737488355328 ∧ c.val.length ≤ 140737488355328 := by
 intro c hc
 obtain ⟨i, hi, e⟩ := List.getElem_of_mem hc
 obtain ⟨r, hr⟩ := h.2 i c (by rw [zI hi, e])
 obtain ⟨_, hf, A, _⟩ := pCell_inv (hw.drop _) hr
 have := hf.key
 have := hf.val
 exact ⟨A, zq, zq⟩
theorem OwnD.slc {w : World} {B : Nat} {v : Value} {cs : List Cl} (h : OwnD w B v cs) (hw : ∀ c ∈ cs, c.Wf ∧ c.key.length ≤ 140737488355328 ∧ c.val.length ≤ 140737488355328) (hl : cs.length ≤ 200000) : ∃ ao cap, v = .slice ao cs.length cap ∧ SlC w ao cs.length cap cs := by
 obtain ⟨vs, h1, h2⟩ := h
 have hr := R5B.row (fun _ _ _ => trivial) h2 hw
 rcases h1.2 with ⟨rfl, h0⟩ | ⟨g, cap, cur, rfl, hg, hh, A, hm, hs, ht⟩
 ·rw [h0]
  exact ⟨none, 0, rfl, ⟨h0, Lr, zq, fun _ => rfl, .inl rfl⟩⟩
 ·refine ⟨_, cap, rfl, ⟨rfl, A, zq, (by intro h; cases h), .inr ⟨g, 0, rfl, zaf hh, ?_⟩⟩⟩
  exact Row5.cat Br 0 hr (fun j u hu => by
   have := World.ownsRow.cells h1 (g := g) rfl j u hu
   simpa [Addr.add_lit] using this)
theorem szN_consq (d : Cl) (r : List Cl) : szN (d :: r) = ctk d + szN r := by unfold szN; simp; omega
theorem szN_mostq : ∀ (ds : List Cl), (∀ c ∈ ds, c.key.length < 65536 ∧ c.val.length < 65536) → szN ds ≤ 8 + 131090 * ds.length
 | [], _ => by simp [szN]
 | c :: r, h => by
  have h1 := szN_mostq r (fun d hd => h d (by simp [hd]))
  have h2 := h c zv
  have h3 : ctk c ≤ 131090 := by unfold ctk; split <;> omega
  rw [szN_consq, List.length_cons]
  omega
theorem szN_most {l : List Int} {ds : List Cl} {j : Nat} (h : Rdd l ds j) (hw : Wf l) : szN ds ≤ 8 + 131090 * ds.length := szN_mostq ds (fun c hc => by
 obtain ⟨i, hi, e⟩ := List.getElem_of_mem hc
 obtain ⟨r, hr⟩ := h.2 i c (by rw [zI hi, e])
 obtain ⟨_, hf, _, _⟩ := pCell_inv (hw.drop _) hr
 exact ⟨hf.key, hf.val⟩)
end Go.Proofs.YtbkhjeacmmbabaaGreatDoor
