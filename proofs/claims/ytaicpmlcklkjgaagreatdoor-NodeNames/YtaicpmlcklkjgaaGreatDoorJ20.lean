/- slices.Insert and slices.Replace upon nothing. -/
import Derived.Test.YtaicpmlcklkjgaaGreatDoorJ19
namespace Go.Proofs.YtaicpmlcklkjgaaGreatDoor
open Go.RowKit

set_option maxRecDepth 100000 in
theorem OwnN.nil (w : World) (B : Nat) : OwnN w B (.slice none 0 0) [] := World.ownsRow_nil w B 3 1
set_option maxRecDepth 100000 in
/-- 'append(out, x...)' of whole numbers. -/
theorem app_slN {ops : Array Oper} {rest : List Oper} {o : Oper} {a : Act} {Q : Exit → Act → World → Prop} (w : World) (hgd : o.guard = none) (s x : Operand)
    (ho : o.op = .call { callee := .builtin .append, args := #[s, x], argTypes := #[152, 152] }) (B : Nat) (l news : List Nat) (v : Value) (b off n c : Nat) (hs : a.eval s = v) (hx : a.eval x = .slice (some ⟨b, off, none⟩) n c)
    (hown : OwnN w B v l) (hln : news.length = n) (hcs : ∀ i, i < n → w.cell? ⟨b, off + i, none⟩ = some (.int .i64 ((news.getD i 0 : Nat) : Int))) (hb : l.length + n ≤ 1000000) (hbase : B ≤ w.heap.size)
    (h : ∀ v' w', OwnN w' B v' (l ++ news) → Gr w v w' v' → wpList Tryz.prog ops Q rest (a.put o.dst v') w') : wpList Tryz.prog ops Q (o :: rest) a w := by
  obtain ⟨i0, hi, hz0, hz1, hz2⟩ := info_parts infoI
  refine wpList_append_own_at w hgd s x 152 ho B 3 i0 (.int .i64 0) 1 8 Tryz.underlying152 hi hz0 hz1 hz2 rfl (by decide) v l.length (NI l) hs hown ⟨b, off, none⟩ n c (NI news) hx (by simp [NI, hln])
    (fun j u hu => by
      have hj : j < news.length := by have := (List.getElem?_eq_some_iff.1 hu).1; simpa [NI] using this
      have e : u = .int .i64 ((news.getD j 0 : Nat) : Int) := by
        simp [NI, List.getElem?_eq_getElem hj] at hu
        simp [List.getD, List.getElem?_eq_getElem hj, ← hu]
      rw [Addr.add_lit, e]
      exact hcs j (by omega)) (NI_one news) (by unfold maxLen; omega) (by omega) hbase ?_
  intro v' w' h1 h2 _ h4
  refine h v' w' ?_ ⟨h2, h4.imp id fun e => ⟨_, e, Nat.le_refl _⟩⟩
  unfold OwnN
  rw [show NI (l ++ news) = NI l ++ NI news from by simp [NI], List.length_append, hln]
  exact h1
end Go.Proofs.YtaicpmlcklkjgaaGreatDoor

/- plain.Page.replace upon an empty page. -/

namespace Go.Proofs.YtaicpmlcklkjgaaGreatDoor
open Go.RowKit

set_option maxRecDepth 100000 in
theorem Sl.far {w u : World} {ao : Option Addr} {n cap : Nat} {l l' : List Int} {v : Value} (h : Sl w ao n cap l) (ho : OwnB u w.heap.size v l') : Far ao n v := by
  rcases h.hat with h0 | ⟨b, off, rfl, hb, _⟩
  · exact .inl h0
  · refine ho.far fun p hp => ?_
    injection hp with hp
    subst hp
    exact hb
set_option maxRecDepth 100000 in
theorem own_bn {w : World} {B C : Nat} {v u : Value} {l : List Int} {m : List Nat} (h : OwnB w B v l) (g : OwnN w C u m) : v.ownBlock = none ∨ v.ownBlock ≠ u.ownBlock := by
  unfold OwnB at h
  rcases h.2 with ⟨rfl, _⟩ | ⟨q, cap, cur, rfl, _, hh, _⟩
  · exact .inl rfl
  · right
    intro e
    exact g.apart hh (by decide) e.symm
set_option maxRecDepth 100000 in
theorem OwnN.be {w w' : World} {B : Nat} {v v' : Value} {l : List Nat} (h : OwnN w B v l) (hg : Gr w v w' v') (hB : B ≤ w.heap.size) : Below B w w' := own_below h hB hg.grow
set_option maxRecDepth 100000 in
theorem OwnB.slice {w : World} {B : Nat} {v : Value} {l : List Int} (h : OwnB w B v l) : ∃ ao cap, v = .slice ao l.length cap := by
  unfold OwnB at h
  rcases h.2 with ⟨rfl, h0⟩ | ⟨g, cap, cur, rfl, _⟩
  · exact ⟨none, 0, by rw [h0]⟩
  · exact ⟨_, cap, rfl⟩
end Go.Proofs.YtaicpmlcklkjgaaGreatDoor

/- plain.Encode. -/

namespace Go.Proofs.YtaicpmlcklkjgaaGreatDoor
open Go.RowKit

/-- What Encode finds wrong; 0: nothing. -/
def encE (k n : Int) (cs : List Cl) : Int := if isKd k ∧ pw n then (if chk k n none cs = 0 then (if n < szN cs then 61 else 0) else chk k n none cs) else 1
/-- What Encode comes to. -/
def EncTo (k n : Int) (cs : List Cl) (w : World) (e : Ending) (w' : World) : Prop :=
  ∃ ao m cap c, e = .returned (.tuple #[.slice ao m cap, .int .i64 c]) ∧ Hid (Below w.heap.size w w') ∧ Hid (c = encE k n cs ∧ ((c ≠ 0 ∧ ao = none ∧ m = 0 ∧ cap = 0) ∨ (c = 0 ∧ ∃ g, ao = some ⟨g, 0, none⟩ ∧ m = n.toNat ∧ cap = n.toNat ∧ w.heap.size ≤ g ∧ Bk w' g (pgB k n.toNat cs))))
set_option maxRecDepth 100000 in
theorem EncTo.no {k n : Int} {cs : List Cl} {w w' : World} {c : Int} (hb : Below w.heap.size w w') (hc : c = encE k n cs) (h0 : c ≠ 0) : EncTo k n cs w (.returned (.tuple #[.slice none 0 0, .int .i64 c])) w' := ⟨none, 0, 0, c, rfl, hidden hb, hidden ⟨hc, .inl ⟨h0, rfl, rfl, rfl⟩⟩⟩
end Go.Proofs.YtaicpmlcklkjgaaGreatDoor

/- plain.Page.keyAt, and how a key stands to it. -/

namespace Go.Proofs.YtaicpmlcklkjgaaGreatDoor
open Go.RowKit

set_option maxRecDepth 100000 in
theorem kl_trans : ∀ (a b c : List Int), kl a b → kl b c → kl a c
  | [], [], _, h, _ => by simp [kl, ordL] at h
  | [], _ :: _, [], _, h => by simp [kl, ordL] at h
  | [], _ :: _, _ :: _, _, _ => by simp [kl, ordL]
  | _ :: _, [], _, h, _ => by simp [kl, ordL] at h
  | _ :: _, _ :: _, [], _, h => by simp [kl, ordL] at h
  | x :: a, y :: b, z :: c, h, g => by
    have ih := kl_trans a b c
    unfold kl at *
    simp only [ordL] at h g ⊢
    by_cases h1 : x < y
    · by_cases g1 : y < z
      · rw [if_pos (by omega)]
      · rw [if_neg g1] at g
        by_cases g2 : z < y
        · rw [if_pos g2] at g; simp at g
        · rw [if_pos (by omega)]
    · rw [if_neg h1] at h
      by_cases h2 : y < x
      · rw [if_pos h2] at h; simp at h
      · rw [if_neg h2] at h
        by_cases g1 : y < z
        · rw [if_pos (by omega)]
        · rw [if_neg g1] at g
          by_cases g2 : z < y
          · rw [if_pos g2] at g; simp at g
          · rw [if_neg g2] at g
            rw [if_neg (by omega), if_neg (by omega)]
            exact ih h g
set_option maxRecDepth 100000 in
/-- Rising keys stand in order. -/
theorem chk_first {k p : Int} : ∀ {q : List Int} {cs : List Cl}, chk k p (some q) cs = 0 → ∀ c ∈ cs, kl q c.key
  | _, [], _, c, hc => by cases hc
  | q, d :: r, h, c, hc => by
    unfold chk at h
    split at h
    · split at h
      · next h2 =>
        rcases List.mem_cons.1 hc with e | e
        · rw [e]; exact h2
        · exact kl_trans _ _ _ h2 (chk_first h c e)
      · simp at h
    · simp at h
set_option maxRecDepth 100000 in
theorem chk_rise {k p : Int} : ∀ {pr : Option (List Int)} {cs : List Cl}, chk k p pr cs = 0 → ∀ (i j : Nat) (c d : Cl), i < j → cs[i]? = some c → cs[j]? = some d → kl c.key d.key
  | _, [], _, i, j, c, d, _, hc, _ => by simp at hc
  | pr, e :: r, h, 0, j + 1, c, d, _, hc, hd => by
    unfold chk at h
    split at h
    · split at h
      · simp at hc
        subst hc
        exact chk_first h d (List.mem_of_getElem? (by simpa using hd))
      · simp at h
    · simp at h
  | pr, e :: r, h, i + 1, j + 1, c, d, hij, hc, hd => by
    unfold chk at h
    split at h
    · split at h
      · exact chk_rise h i j c d (by omega) (by simpa using hc) (by simpa using hd)
      · simp at h
    · simp at h
  | _, _ :: _, _, i, 0, _, _, hij, _, _ => by omega
set_option maxRecDepth 100000 in
theorem key_at (cs : List Cl) (i : Nat) (c : Cl) (h : cs[i]? = some c) (hf : c.fit) : ∃ r, pText ((bdy cs).drop ((bdy (cs.take i)).length + 1)) = some (c.key, r) := by
  obtain ⟨hi, e⟩ := List.getElem?_eq_some_iff.1 h
  have hd : (bdy cs).drop (bdy (cs.take i)).length = cB c ++ bdy (cs.drop (i + 1)) := by
    rw [bdy_drop, List.drop_eq_getElem_cons hi, e, bdy_cons]
  rw [← List.drop_drop, hd, cB]
  simp only [List.cons_append, List.nil_append, List.drop_succ_cons, List.drop_zero, List.append_assoc]
  exact ⟨_, pText_mid _ _ hf.key⟩
set_option maxRecDepth 100000 in
set_option maxHeartbeats 1000000 in
theorem keyAt_any (w : World) (a : Nat) (k : Int) (n : Nat) (bo : Option Addr) (bn bc : Nat) (so : Option Addr) (sn sc : Nat) (cs : List Cl) (h : PgAt w a k n bo bn bc so sn sc cs) (hfit : ∀ c ∈ cs, c.fit) (i : Nat) (c : Cl) (hci : cs[i]? = some c) (hsz : bn ≤ 65536) :
    Calls Tryz.prog 268 #[.pointer (some ⟨a, 0, none⟩), .int .i64 (((sts 0 cs).getD i 0 : Nat) : Int)] w fun e w' => ∃ ko kn kc, e = .returned (.slice ko kn kc) ∧ Hid (Sl w' ko kn kc c.key) ∧ Hid (Below w.heap.size w w') := by
  obtain ⟨hi, hce⟩ := List.getElem?_eq_some_iff.1 hci
  obtain ⟨hsn, hbn⟩ := h.sn_eq
  obtain ⟨c0, c1, c2, c3⟩ := h.cells
  rw [sts_get 0 i cs hi, Nat.zero_add]
  obtain ⟨r, hpt⟩ := key_at cs i c hci (hfit c (List.mem_of_getElem? hci))
  have hle : (bdy (cs.take i)).length + 1 ≤ bn := by
    have h1 := congrArg List.length (bdy_drop cs i)
    rw [List.drop_eq_getElem_cons hi, bdy_cons, List.length_drop, List.length_append] at h1
    have h2 := cB_length cs[i]
    have h3 : 2 < ctk cs[i] := by unfold ctk; split <;> omega
    omega
  obtain ⟨st, hst⟩ : ∃ st, (bdy (cs.take i)).length = st := ⟨_, rfl⟩
  rw [hst] at hpt hle ⊢
  obtain ⟨gb, off, rfl⟩ : ∃ gb off, bo = some ⟨gb, off, none⟩ := by
    rcases h.body.hat with h0 | ⟨b, off, e, _⟩
    · omega
    · exact ⟨b, off, e⟩
  have HSL := hidden h.body
  have HPT := hidden hpt
  have b1 : (st : Int) ≤ 65536 := by omega
  obtain ⟨st1, hst1⟩ : ∃ st1, st + 1 = st1 := ⟨_, rfl⟩
  have hstI : (st : Int) + 1 = (st1 : Int) := by omega
  rw [hst1] at HPT hle
  have HBN := hidden hbn
  clear h hci hi hce hfit hpt hst hsn hbn hst1
  go_enter Tryz.func268, Tryz.ntmps268
  have HTX : Hid (∀ x, x = w.alloc (.cells #[.slice (some ⟨gb, off, none⟩) bn bc, .int .i64 (st1 : Int), .bool false] 186) → Calls Tryz.prog 224 #[.pointer (some ⟨w.heap.size, 0, none⟩)] x fun e w' => ∃ ko kn kc, e = .returned (.slice ko kn kc) ∧ Hid (Sl w' ko kn kc c.key) ∧ Hid (Below w.heap.size w w')) := by
    refine hidden fun x hx => ?_
    have hbx : Below w.heap.size w x := by rw [hx]; exact bl_al (Below.refl _ _) (Nat.le_refl _) _
    have hrd : Rd x w.heap.size (some ⟨gb, off, none⟩) bn bc st1 false := by rw [hx]; exact heap_alloc_last w _
    refine (text_any (bdy cs) x w.heap.size gb off bn bc st1 false hrd (HSL.out.on (Nat.le_refl _) hbx) hle).mono ?_
    rintro e w' ⟨ko, kn, kc, p, en', t, rfl, _, HC, HQ⟩
    obtain ⟨hs, _, _, hcase⟩ := HQ.out
    rw [HPT.out] at hcase
    rcases hcase with ⟨h1, _⟩ | ⟨h1, _⟩
    · injection h1 with h1
      injection h1 with h2 _
      subst h2
      exact ⟨ko, kn, kc, rfl, hidden hs, hidden (hbx.trans (HC.out.below hbx.size (by intro i hi e; omega)))⟩
    · cases h1
  go_wp2_with (first | (go_at_call 224; refine (HTX.out _ rfl).mono ?_; rintro e w2 ⟨ko, kn, kc, rfl, HS2, HB2⟩))
  go_ret
  exact ⟨ko, kn, kc, rfl, HS2, HB2⟩
set_option maxRecDepth 100000 in
/-- The closure of Find. -/
theorem find1_any (w : World) (a bx : Nat) (k : Int) (n : Nat) (bo : Option Addr) (bn bc : Nat) (so : Option Addr) (sn sc : Nat) (cs : List Cl) (h : PgAt w a k n bo bn bc so sn sc cs) (hfit : ∀ c ∈ cs, c.fit) (i : Nat) (c : Cl) (hci : cs[i]? = some c) (hsz : bn ≤ 65536) (qo : Option Addr) (qn qc : Nat) (q : List Int) (hq : Sl w qo qn qc q) (hbx : w.cell? ⟨bx, 0, none⟩ = some (.pointer (some ⟨a, 0, none⟩))) :
    Calls Tryz.prog 267 #[.int .i64 (((sts 0 cs).getD i 0 : Nat) : Int), .slice qo qn qc, .pointer (some ⟨bx, 0, none⟩)] w fun e w' => e = .returned (.int .i64 (ordL c.key q)) ∧ Hid (Below w.heap.size w w') := by
  have HK := hidden (keyAt_any w a k n bo bn bc so sn sc cs h hfit i c hci hsz)
  have HQ := hidden hq
  generalize (((sts 0 cs).getD i 0 : Nat) : Int) = st at *
  clear h hq
  go_enter Tryz.func267, Tryz.ntmps267
  go_wp2_with (first | (go_at_call 268; refine HK.out.mono ?_; rintro e w2 ⟨ko, kn, kc, rfl, HS2, HB2⟩) | (go_at_call 184; refine same_call (compare_any _ _ _ _ _ _ c.key q _ HS2.out (HQ.out.on (Nat.le_refl _) HB2.out)) ?_))
  go_ret
  exact ⟨rfl, HB2⟩
end Go.Proofs.YtaicpmlcklkjgaaGreatDoor
