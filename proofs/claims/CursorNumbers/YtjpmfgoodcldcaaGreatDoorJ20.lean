import Derived.Test.YtjpmfgoodcldcaaGreatDoorJ19
namespace Go.Proofs.YtjpmfgoodcldcaaGreatDoor
set_option maxRecDepth 100000
open Go.RowKit
theorem kl_trans : ∀ (a b c : List Int), kl a b → kl b c → kl a c
 | [], [], _, h, _ => by simp [kl, ordL] at h
 | [], _ :: _, [], _, h => by simp [kl, ordL] at h
 | [], _ :: _, _ :: _, _, _ => by simp [kl, ordL]
 | _ :: _, [], _, h, _ => by simp [kl, ordL] at h
 | _ :: _, _ :: _, [], _, h => by simp [kl, ordL] at h
 | x :: a, y :: b, z :: c, h, g => by
  have ih := kl_trans a b c
  unfold kl at *
  simp only [ordL] at h g ⊢
  by_cases h1 : x < y
  ·by_cases g1 : y < z
   ·rw [if_pos (by omega)]
   ·rw [if_neg g1] at g
    by_cases g2 : z < y
    ·rw [if_pos g2] at g; simp at g
    ·rw [if_pos (by omega)]
  ·rw [if_neg h1] at h
   by_cases h2 : y < x
   ·rw [if_pos h2] at h; simp at h
   ·rw [if_neg h2] at h
    by_cases g1 : y < z
    ·rw [if_pos (by omega)]
    ·rw [if_neg g1] at g
     by_cases g2 : z < y
     ·rw [if_pos g2] at g; simp at g
     ·rw [if_neg g2] at g
      rw [if_neg (by omega), if_neg (by omega)]
      exact ih h g
theorem chk_first {k p : Int} : ∀ {q : List Int} {cs : List Cl}, chk k p (some q) cs = 0 → ∀ c ∈ cs, kl q c.key
 | _, [], _, c, hc => by cases hc
 | q, d :: r, h, c, hc => by
  unfold chk at h
  split at h
  ·split at h
   ·next h2 =>
    rcases List.mem_cons.1 hc with e | e
    ·rw [e]; exact h2
    ·exact kl_trans _ _ _ h2 (chk_first h c e)
   ·simp at h
  ·simp at h
theorem chk_rise {k p : Int} : ∀ {pr : Option (List Int)} {cs : List Cl}, chk k p pr cs = 0 → ∀ (i j : Nat) (c d : Cl), i < j → cs[i]? = some c → cs[j]? = some d → kl c.key d.key
 | _, [], _, i, j, c, d, _, hc, _ => by simp at hc
 | pr, e :: r, h, 0, j + 1, c, d, _, hc, hd => by
  unfold chk at h
  split at h
  ·split at h
   ·simp at hc
    subst hc
    exact chk_first h d (List.mem_of_getElem? (by simpa using hd))
   ·simp at h
  ·simp at h
 | pr, e :: r, h, i + 1, j + 1, c, d, hij, hc, hd => by
  unfold chk at h
  split at h
  ·split at h
   ·exact chk_rise h i j c d (by omega) (by simpa using hc) (by simpa using hd)
   ·simp at h
  ·simp at h
 | _, _ :: _, _, i, 0, _, _, hij, _, _ => by omega
theorem key_at (cs : List Cl) (i : Nat) (c : Cl) (h : cs[i]? = some c) (hf : c.fit) : ∃ r, pText ((bdy cs).drop ((bdy (cs.take i)).length + 1)) = some (c.key, r) := by
 obtain ⟨hi, e⟩ := List.getElem?_eq_some_iff.1 h
 have hd : (bdy cs).drop (bdy (cs.take i)).length = cB c ++ bdy (cs.drop (i + 1)) := by
  rw [bdy_drop, List.drop_eq_getElem_cons hi, e, bdy_cons]
 rw [← List.drop_drop, hd, cB]
 simp only [List.cons_append, List.nil_append, List.drop_succ_cons, List.drop_zero, List.append_assoc]
 exact ⟨_, pText_mid _ _ hf.key⟩
set_option maxHeartbeats 1000000 in
theorem keyAt_any (w : World) (a : Nat) (k : Int) (n : Nat) (bo : Option Addr) (bn bc : Nat) (so : Option Addr) (sn sc : Nat) (cs : List Cl) (h : PgAt w a k n bo bn bc so sn sc cs) (hfit : ∀ c ∈ cs, c.fit) (i : Nat) (c : Cl) (hci : cs[i]? = some c) (hsz : bn ≤ 65536) :
  Calls Tryz.prog 188 #[.pointer (some ⟨a, 0, none⟩), .int .i64 (((sts 0 cs).getD i 0 : Nat) : Int)] w fun e w' => ∃ ko kn kc, e = .returned (.slice ko kn kc) ∧ Hid (Sl w' ko kn kc c.key) ∧ Hid (Below w.heap.size w w') := by
 obtain ⟨hi, hce⟩ := List.getElem?_eq_some_iff.1 hci
 obtain ⟨hsn, hbn⟩ := h.sn_eq
 obtain ⟨c0, c1, c2, c3⟩ := h.cells
 rw [sts_get 0 i cs hi, Nat.zero_add]
 obtain ⟨r, hpt⟩ := key_at cs i c hci (hfit c (List.mem_of_getElem? hci))
 have hle : (bdy (cs.take i)).length + 1 ≤ bn := by
  have h1 := congrArg List.length (bdy_drop cs i)
  rw [List.drop_eq_getElem_cons hi, bdy_cons, List.length_drop, List.length_append] at h1
  have h2 := cB_length cs[i]
  have h3 : 2 < ctk cs[i] := by unfold ctk; split <;> omega
  omega
 obtain ⟨st, hst⟩ : ∃ st, (bdy (cs.take i)).length = st := ⟨_, rfl⟩
 rw [hst] at hpt hle ⊢
 obtain ⟨gb, off, rfl⟩ : ∃ gb off, bo = some ⟨gb, off, none⟩ := by
  rcases h.body.hat with h0 | ⟨b, off, e, _⟩
  ·omega
  ·exact ⟨b, off, e⟩
 have HSL := hidden h.body
 have HPT := hidden hpt
 have b1 : (st : Int) ≤ 65536 := by omega
 obtain ⟨st1, hst1⟩ : ∃ st1, st + 1 = st1 := ⟨_, rfl⟩
 have hstI : (st : Int) + 1 = (st1 : Int) := by omega
 rw [hst1] at HPT hle
 have HBN := hidden hbn
 clear h hci hi hce hfit hpt hst hsn hbn hst1
 go_enter Tryz.func188, Tryz.ntmps188
 have HTX : Hid (∀ x, x = w.alloc (.cells #[.slice (some ⟨gb, off, none⟩) bn bc, .int .i64 (st1 : Int), .bool false] 136) → Calls Tryz.prog 139 #[.pointer (some ⟨w.heap.size, 0, none⟩)] x fun e w' => ∃ ko kn kc, e = .returned (.slice ko kn kc) ∧ Hid (Sl w' ko kn kc c.key) ∧ Hid (Below w.heap.size w w')) := by
  refine hidden fun x hx => ?_
  have hbx : Below w.heap.size w x := by rw [hx]; exact bl_al (Below.refl _ _) (Nat.le_refl _) _
  have hrd : Rd x w.heap.size (some ⟨gb, off, none⟩) bn bc st1 false := by rw [hx]; exact heap_alloc_last w _
  refine (text_any (bdy cs) x w.heap.size gb off bn bc st1 false hrd (HSL.out.on (Nat.le_refl _) hbx) hle).mono ?_
  rintro e w' ⟨ko, kn, kc, p, en', t, rfl, _, HC, HQ⟩
  obtain ⟨hs, _, _, hcase⟩ := HQ.out
  rw [HPT.out] at hcase
  rcases hcase with ⟨h1, _⟩ | ⟨h1, _⟩
  ·injection h1 with h1
   injection h1 with h2 _
   subst h2
   exact ⟨ko, kn, kc, rfl, hidden hs, hidden (hbx.trans (HC.out.below hbx.size (by intro i hi e; omega)))⟩
  ·cases h1
 go_wp2_with (first | (go_at_call 139; refine (HTX.out _ rfl).mono ?_; rintro e w2 ⟨ko, kn, kc, rfl, HS2, HB2⟩))
 go_ret
 exact ⟨ko, kn, kc, rfl, HS2, HB2⟩
theorem find1_any (w : World) (a bx : Nat) (k : Int) (n : Nat) (bo : Option Addr) (bn bc : Nat) (so : Option Addr) (sn sc : Nat) (cs : List Cl) (h : PgAt w a k n bo bn bc so sn sc cs) (hfit : ∀ c ∈ cs, c.fit) (i : Nat) (c : Cl) (hci : cs[i]? = some c) (hsz : bn ≤ 65536) (qo : Option Addr) (qn qc : Nat) (q : List Int) (hq : Sl w qo qn qc q) (hbx : w.cell? ⟨bx, 0, none⟩ = some (.pointer (some ⟨a, 0, none⟩))) :
  Calls Tryz.prog 187 #[.int .i64 (((sts 0 cs).getD i 0 : Nat) : Int), .slice qo qn qc, .pointer (some ⟨bx, 0, none⟩)] w fun e w' => e = .returned (.int .i64 (ordL c.key q)) ∧ Hid (Below w.heap.size w w') := by
 have HK := hidden (keyAt_any w a k n bo bn bc so sn sc cs h hfit i c hci hsz)
 have HQ := hidden hq
 generalize (((sts 0 cs).getD i 0 : Nat) : Int) = st at *
 clear h hq
 go_enter Tryz.func187, Tryz.ntmps187
 go_wp2_with (first | (go_at_call 188; refine HK.out.mono ?_; rintro e w2 ⟨ko, kn, kc, rfl, HS2, HB2⟩) | (go_at_call 42; refine same_call (compare_any _ _ _ _ _ _ c.key q _ HS2.out (HQ.out.on (Nat.le_refl _) HB2.out)) ?_))
 go_ret
 exact ⟨rfl, HB2⟩
end Go.Proofs.YtjpmfgoodcldcaaGreatDoor
