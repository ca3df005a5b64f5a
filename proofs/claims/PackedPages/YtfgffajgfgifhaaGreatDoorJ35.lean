import Derived.Test.YtfgffajgfgifhaaGreatDoorJ34
import Derived.Deep.RegionHeld
import Derived.BigQuiet
namespace Go.Proofs.YtfgffajgfgifhaaGreatDoor
set_option maxRecDepth 100000
set_option maxHeartbeats 4000000
open Go.RowKit
def Agr (K : Nat → Prop) (w u : World) : Prop := ∀ b, K b → u.heap[b]? = w.heap[b]?
theorem Agr.refl (K : Nat → Prop) (w : World) : Agr K w w := fun _ _ => rfl
theorem Agr.trans {K : Nat → Prop} {a b c : World} (h : Agr K a b) (k : Agr K b c) : Agr K a c := fun x hx => (k x hx).trans (h x hx)
theorem Agr.sub {K G : Nat → Prop} {a b : World} (h : Agr K a b) (hg : ∀ x, G x → K x) : Agr G a b := fun x hx => h x (hg x hx)
theorem Agr.below {K : Nat → Prop} {a b : World} (hk : ∀ x, K x → x < a.heap.size) (h : Below a.heap.size a b) : Agr K a b := fun x hx => h.block x (hk x hx)
theorem Agr.cf {K G : Nat → Prop} {a b : World} (hk : ∀ x, K x → x < a.heap.size) (h : Cf G a b) (hd : ∀ x, K x → ¬ G x) : Agr K a b := fun x hx => h.block x (hk x hx) (hd x hx)
def QD (w : World) (r : Nat) (k : Int) (n : Nat) (lv sv : Value) (ws : Int) : Prop := w.heap[r]? = some (.cells #[.int .i64 k, .int .i64 (n : Int), lv, sv, .int .i64 ws] 65 (0, 0))
theorem QD.cells {w : World} {r : Nat} {k : Int} {n : Nat} {lv sv : Value} {ws : Int} (h : QD w r k n lv sv ws) :
  w.cell? ⟨r, 0, none⟩ = some (.int .i64 k) ∧ w.cell? ⟨r, 1, none⟩ = some (.int .i64 (n : Int)) ∧ w.cell? ⟨r, 2, none⟩ = some lv ∧ w.cell? ⟨r, 3, none⟩ = some sv ∧ w.cell? ⟨r, 4, none⟩ = some (.int .i64 ws) := by
 unfold QD at h
 refine ⟨?_, ?_, ?_, ?_, ?_⟩ <;> (rw [cell_of_row _ _ _ _ _ _ h]; rfl)
theorem QD.free {w : World} {r : Nat} {k : Int} {n : Nat} {lv sv : Value} {ws : Int} (h : QD w r k n lv sv ws) (i : Nat) : w.frozen? ⟨r, i, none⟩ = false := by
 unfold QD at h
 simp [World.frozen?, h]
theorem QD.set2 {w : World} {r : Nat} {k : Int} {n : Nat} {lv sv : Value} {ws : Int} (h : QD w r k n lv sv ws) (v : Value) : QD (w.setCell ⟨r, 2, none⟩ v) r k n v sv ws := by
 unfold QD at *
 simpa using zam (w := w) (a := r) (i := 2) (cs := [.int .i64 k, .int .i64 (n : Int), lv, sv, .int .i64 ws]) (u := v) h
theorem QD.set3 {w : World} {r : Nat} {k : Int} {n : Nat} {lv sv : Value} {ws : Int} (h : QD w r k n lv sv ws) (v : Value) : QD (w.setCell ⟨r, 3, none⟩ v) r k n lv v ws := by
 unfold QD at *
 simpa using zam (w := w) (a := r) (i := 3) (cs := [.int .i64 k, .int .i64 (n : Int), lv, sv, .int .i64 ws]) (u := v) h
theorem QD.set4 {w : World} {r : Nat} {k : Int} {n : Nat} {lv sv : Value} {ws : Int} (h : QD w r k n lv sv ws) (x : Int) : QD (w.setCell ⟨r, 4, none⟩ (.int .i64 x)) r k n lv sv x := by
 unfold QD at *
 simpa using zam (w := w) (a := r) (i := 4) (cs := [.int .i64 k, .int .i64 (n : Int), lv, sv, .int .i64 ws]) (u := .int .i64 x) h
structure RwK (w : World) (K : Nat → Prop) (lo : Option Addr) (N lc : Nat) (vs : List Value) (cs : List Cl) : Prop where
 own : w.ownsRow 0 39 5 (.slice lo N lc) N vs
 len : cs.length = N
 kb : ∀ g, (Value.slice lo N lc).ownBlock = some g → K g
 rows : ∀ u, Agr K w u → Row5 u vs cs
theorem RwK.keep {w w' : World} {K : Nat → Prop} {lo : Option Addr} {N lc : Nat} {vs : List Value} {cs : List Cl} (h : RwK w K lo N lc vs cs) (ha : Agr K w w') : RwK w' K lo N lc vs cs := by
 refine ⟨⟨h.own.1, ?_⟩, h.len, h.kb, fun u hu => h.rows u (ha.trans hu)⟩
 rcases h.own.2 with h3 | ⟨g, cap, cur, e, hg, hh, r⟩
 ·exact .inl h3
 ·exact .inr ⟨g, cap, cur, e, hg, (ha g (h.kb g (by rw [e]; rfl))).trans hh, r⟩
theorem RwK.wide {w : World} {K G : Nat → Prop} {lo : Option Addr} {N lc : Nat} {vs : List Value} {cs : List Cl} (h : RwK w K lo N lc vs cs) (hg : ∀ b, K b → G b) : RwK w G lo N lc vs cs := ⟨h.own, h.len, fun g e => hg g (h.kb g e), fun u hu => h.rows u (hu.sub hg)⟩
theorem RwK.src {w : World} {K : Nat → Prop} {lo : Option Addr} {N lc : Nat} {vs : List Value} {cs : List Cl} (h : RwK w K lo N lc vs cs) : SrK w w lo N lc cs := by
 obtain ⟨ao, cap, e, hsr, _⟩ := OwK.src (w0 := w) (B := 0) (w := w) (v := .slice lo N lc) (cs := cs) ⟨vs, by rw [h.len]; exact h.own, h.rows w (Agr.refl _ _)⟩
 injection e with e1 e2 e3
 subst e1 e3
 rw [e2]
 exact hsr
theorem RwK.slc {w : World} {K : Nat → Prop} {lo : Option Addr} {N lc : Nat} {vs : List Value} {cs : List Cl} (h : RwK w K lo N lc vs cs) (hN : N ≤ 140737488355328) : SlC w lo N lc cs := h.src.slc Br hN
theorem dkind_any (w : World) (r : Nat) (k : Int) (n : Nat) (lv sv : Value) (ws : Int) (h : QD w r k n lv sv ws) :
  Calls Tryz.prog 86 #[.pointer (some ⟨r, 0, none⟩)] w fun e w' => e = .returned (.int .i64 k) ∧ w' = w := by
 obtain ⟨c0, c1, c2, c3, c4⟩ := h.cells
 clear h
 go_enter Tryz.func86, Tryz.ntmps86
 go_wp2_with fail
 go_ret
 exact ⟨rfl, rfl⟩
theorem dwaste_any (w : World) (r : Nat) (k : Int) (n : Nat) (lv sv : Value) (ws : Int) (h : QD w r k n lv sv ws) :
  Calls Tryz.prog 84 #[.pointer (some ⟨r, 0, none⟩)] w fun e w' => e = .returned (.int .i64 ws) ∧ w' = w := by
 obtain ⟨c0, c1, c2, c3, c4⟩ := h.cells
 clear h
 go_enter Tryz.func84, Tryz.ntmps84
 go_wp2_with fail
 go_ret
 exact ⟨rfl, rfl⟩
theorem dlen_any (w : World) (r : Nat) (k : Int) (n : Nat) (lo : Option Addr) (N lc : Nat) (sv : Value) (ws : Int) (h : QD w r k n (.slice lo N lc) sv ws) :
  Calls Tryz.prog 85 #[.pointer (some ⟨r, 0, none⟩)] w fun e w' => e = .returned (.int .i64 (N : Int)) ∧ w' = w := by
 obtain ⟨c0, c1, c2, c3, c4⟩ := h.cells
 clear h
 go_enter Tryz.func85, Tryz.ntmps85
 go_wp2_with fail
 go_ret
 exact ⟨rfl, rfl⟩
theorem dprefix_any (w : World) (r : Nat) (k : Int) (n : Nat) (lv : Value) (so : Option Addr) (sn sc : Nat) (ws : Int) (P : List Int) (h : QD w r k n lv (.slice so sn sc) ws) (hp : Sl w so sn sc P) :
  Calls Tryz.prog 82 #[.pointer (some ⟨r, 0, none⟩)] w fun e w' => ∃ v, e = .returned v ∧ Hid (OwnB w' w.heap.size v P) ∧ Hid (Below w.heap.size w w') := by
 obtain ⟨c0, c1, c2, c3, c4⟩ := h.cells
 have hroom := hp.hroom
 have HA := zaa (zct (.slice none 0 0) w.heap.size [] P so sn sc w (OwnB.nil _ _) hp (.inr fun p _ e => by cases e) (by simpa using hroom) Lr)
 clear h hp
 go_enter Tryz.func82, Tryz.ntmps82
 go_wp2_with (go_at_call 117; refine HA.out.mono ?_; rintro e w1 ⟨v1, rfl, HO1, HG1⟩)
 go_ret
 exact ⟨v1, rfl, HO1, zaa (HG1.out.below (OwnB.nil w w.heap.size) Lr)⟩
theorem dnew_any (k n : Int) (w : World) : Calls Tryz.prog 7 #[.int .i64 k, .int .i64 n] w fun e w' => ∃ po c, e = .returned (.tuple #[.pointer po, .int .i64 c]) ∧ Hid (Below w.heap.size w w') ∧ Hid ((po = none ∧ c = 1 ∧ ¬ (isKd k ∧ pw n)) ∨ ∃ r, po = some ⟨r, 0, none⟩ ∧ c = 0 ∧ isKd k ∧ pw n ∧ w.heap.size ≤ r ∧ w'.heap[r]? = some (.cells #[.int .i64 k, .int .i64 n, .slice none 0 0, .slice none 0 0, .int .i64 0] 65 (0, 0))) := by
 by_cases hk : isKd k
 ·rcases hk with h | h
  ·subst h
   cases hd : decide (pw n) with
   | false =>
    have HN : Hid (¬ pw n) := zaa (by simpa using hd)
    go_enter Tryz.func7, Tryz.ntmps7
    go_wp2_with (go_at_call 29; refine zae (zdc _ _) ?_; rw [hd])
    go_ret2
    exact ⟨none, 1, rfl, zaa Br, zaa (.inl ⟨rfl, rfl, fun h => HN.out h.2⟩)⟩
   | true =>
    have HN : Hid (pw n) := zaa (by simpa using hd)
    go_enter Tryz.func7, Tryz.ntmps7
    go_wp2_with (go_at_call 29; refine zae (zdc _ _) ?_; rw [hd])
    go_ret2
    exact ⟨_, 0, rfl, zaa (Br.alloc Lr _), zaa (.inr ⟨w.heap.size, rfl, rfl, .inl rfl, HN.out, Lr, heap_alloc_last w _⟩)⟩
  ·subst h
   cases hd : decide (pw n) with
   | false =>
    have HN : Hid (¬ pw n) := zaa (by simpa using hd)
    go_enter Tryz.func7, Tryz.ntmps7
    go_wp2_with (go_at_call 29; refine zae (zdc _ _) ?_; rw [hd])
    go_ret2
    exact ⟨none, 1, rfl, zaa Br, zaa (.inl ⟨rfl, rfl, fun h => HN.out h.2⟩)⟩
   | true =>
    have HN : Hid (pw n) := zaa (by simpa using hd)
    go_enter Tryz.func7, Tryz.ntmps7
    go_wp2_with (go_at_call 29; refine zae (zdc _ _) ?_; rw [hd])
    go_ret2
    exact ⟨_, 0, rfl, zaa (Br.alloc Lr _), zaa (.inr ⟨w.heap.size, rfl, rfl, .inr rfl, HN.out, Lr, heap_alloc_last w _⟩)⟩
 ·have h2 : ¬ k = 2 := fun e => hk (.inl e)
  have h3 : ¬ k = 3 := fun e => hk (.inr e)
  have HK := zaa hk
  clear hk
  go_enter Tryz.func7, Tryz.ntmps7
  go_wp2_with (go_at_call 29; refine zae (zdc _ _) ?_)
  go_ret2
  exact ⟨none, 1, rfl, zaa Br, zaa (.inl ⟨rfl, rfl, fun h => HK.out h.1⟩)⟩
def cutG (k i : Int) (m kn : Nat) : Nat := if (k = 3 ∧ i = 0) ∨ kn < m then 0 else m
theorem rrest_long (k i : Int) (ao : Option Addr) (n c m : Nat) (w : World) (h : ¬ (k = 3 ∧ i = 0)) (hm : n < m) :
  Calls Tryz.prog 115 #[.int .i64 k, .int .i64 i, .slice ao n c, .int .i64 (m : Int)] w fun e w' => e = .returned (.slice ao n c) ∧ w' = w := by
 have hmI : (n : Int) < (m : Int) := by omega
 by_cases h3 : k = 3
 ·have hi : ¬ i = 0 := fun e => h ⟨h3, e⟩
  subst h3
  clear h
  go_enter Tryz.func115, Tryz.ntmps115
  go_wp2
  go_ret
  exact ⟨rfl, rfl⟩
 ·clear h
  go_enter Tryz.func115, Tryz.ntmps115
  go_wp2
  go_ret
  exact ⟨rfl, rfl⟩
theorem rbytesG_any (k i : Int) (c : Cl) (ka va : Option Addr) (kc vc m : Nat) (w : World) (h1 : Sl w ka c.key.length kc c.key) (h2 : Sl w va c.val.length vc c.val) (hl : c.key.length + c.val.length ≤ 35184372088832) :
  Calls Tryz.prog 74 #[.int .i64 k, .int .i64 i, .agg #[.slice ka c.key.length kc, .int .i64 c.kd, .slice va c.val.length vc, .int .i64 c.pg, .int .i64 c.ct], .int .i64 (m : Int)] w fun e w' => ∃ v, e = .returned v ∧ Hid (OwnB w' w.heap.size v (qB (cutG k i m c.key.length) c)) ∧ Hid (Below w.heap.size w w') := by
 obtain ⟨key, kd, val, pg, ct⟩ := c
 simp only at h1 h2 hl ⊢
 obtain ⟨kn, hkn⟩ : ∃ kn, key.length = kn := ⟨_, rfl⟩
 obtain ⟨vn, hvn⟩ : ∃ vn, val.length = vn := ⟨_, rfl⟩
 rw [hkn] at h1 hl ⊢
 rw [hvn] at h2 hl ⊢
 obtain ⟨x, hx⟩ : ∃ x, w.alloc (.cells #[.slice ka kn kc, .int .i64 kd, .slice va vn vc, .int .i64 pg, .int .i64 ct] 39) = x := ⟨_, rfl⟩
 have hbx : Below w.heap.size w x := by rw [← hx]; exact zac Br Lr _
 have hb5 : C5 x w.heap.size (.slice ka kn kc) (.int .i64 kd) (.slice va vn vc) (.int .i64 pg) (.int .i64 ct) := by rw [← hx]; exact C5.box w _ _ _ _ _
 obtain ⟨M, hM⟩ : ∃ M, cutG k i m kn = M := ⟨_, rfl⟩
 rw [hM]
 have hMk : M ≤ kn := by rw [← hM]; unfold cutG; split <;> omega
 have HR : Hid (Calls Tryz.prog 115 #[.int .i64 k, .int .i64 i, .slice ka kn kc, .int .i64 (m : Int)] x fun e w' => (∃ a' c', e = .returned (.slice a' (kn - M) c') ∧ Hid (Sl x a' (kn - M) c' (key.drop M))) ∧ w' = x) := zaa (by
  have h1x := h1.on Lr hbx
  unfold cutG at hM
  by_cases h : k = 3 ∧ i = 0
  ·rw [if_pos (.inl h)] at hM
   subst hM
   refine (rrest_whole k i ka kn kc m x h).mono ?_
   rintro e w' ⟨rfl, rfl⟩
   exact ⟨⟨_, _, rfl, zaa (by simpa using h1x)⟩, rfl⟩
  ·by_cases h4 : kn < m
   ·rw [if_pos (.inr h4)] at hM
    subst hM
    refine (rrest_long k i ka kn kc m x h h4).mono ?_
    rintro e w' ⟨rfl, rfl⟩
    exact ⟨⟨_, _, rfl, zaa (by simpa using h1x)⟩, rfl⟩
   ·rw [if_neg (by omega)] at hM
    subst hM
    exact rrest_cut k i ka kn kc m key x h h1x (by omega))
 obtain ⟨s, hs⟩ : ∃ s, w.heap.size = s := ⟨_, rfl⟩
 rw [hs] at hb5
 have hsx : s < x.heap.size := zag hb5
 have HBX := zaa hbx
 have HB5 := zaa hb5
 have HV := zaa (h2.on Lr hbx)
 obtain ⟨N, hN⟩ : ∃ N, kn - M = N := ⟨_, rfl⟩
 have hNk : N ≤ kn := by omega
 have hQ : ∀ T, (if kd = 1 then uB (vn : Int) ++ val else uB (pg % 18446744073709551616) ++ uB (ct % 18446744073709551616)) = T → qB M ⟨key, kd, val, pg, ct⟩ = [kd % 256] ++ uB (N : Int) ++ key.drop M ++ T := by
  intro T hT
  unfold qB
  simp only
  rw [hvn, hT, hkn, hN]
  simp only [zM]
 have HQ := zaa hQ
 rw [hN] at HR
 obtain ⟨R, hR⟩ : ∃ R, key.drop M = R := ⟨_, rfl⟩
 rw [hR] at HR HQ
 have HRL : Hid (R.length = N) := zaa (by rw [← hR, zK, hkn, hN])
 obtain ⟨QQ, hQQ⟩ : ∃ Q, qB M ⟨key, kd, val, pg, ct⟩ = Q := ⟨_, rfl⟩
 rw [hQQ] at HQ ⊢
 obtain ⟨b0, b1, b2, b3, b4⟩ := hb5.cells
 have i1 : (N : Int) ≤ 35184372088832 := by omega
 have i2 : (vn : Int) ≤ 35184372088832 := by omega
 clear h1 h2 hM hbx hb5 hR hQ hN hMk hQQ
 go_enter Tryz.func74, Tryz.ntmps74
 go_wp2_with (go_at_call 115; refine HR.out.mono ?_; rintro e w1 ⟨⟨a1, c1, rfl, HS1⟩, rfl⟩; refine Hid.out ?_)
 apply zaa
 clear HR hx
 obtain ⟨y, hy⟩ : ∃ y, w1.alloc (.cells #[.int .u8 (kd % 256)] 5) = y := ⟨_, rfl⟩
 have hby : Below w1.heap.size w1 y := by rw [← hy]; exact zac Br Lr _
 have HOY : Hid (OwnB y w1.heap.size (.slice (some ⟨w1.heap.size, 0, none⟩) 1 1) [kd % 256]) := zaa (by rw [← hy]; exact own_one8 w1 _)
 have HBY := zaa hby
 have hBy : w1.heap.size ≤ y.heap.size := hby.size
 have hNw : IntKind.u64.wrap (N : Int) = (N : Int) := by rw [IntKind.wrap_u64]; omega
 have HU := zaa (zci (N : Int) y (by omega) (by omega))
 clear hby
 go_wp2_with (go_at_call 116; refine HU.out.mono ?_; rintro e w2 ⟨u2, rfl, ho2, hb2⟩; refine Hid.out ?_)
 apply zaa
 obtain ⟨ua, um, uc, rfl, us2, hum⟩ := ho2.slu (by omega) (by omega)
 have HO2 := zaa (HOY.out.on Lr hb2)
 have HF2 := zaa (zbh HOY.out ho2 Lr)
 have HB2 := zaa (zab HBY.out Lr hb2)
 have hB2 : w1.heap.size ≤ w2.heap.size := zN hBy hb2.size
 have HA2 := zaa (zbb (.slice (some ⟨w1.heap.size, 0, none⟩) 1 1) w1.heap.size [kd % 256] (uB (N : Int)) ua um uc w2 HO2.out us2 HF2.out (by simp; omega) hB2)
 clear HU ho2 us2 hb2 HO2 HF2 HOY HBY hBy hy b0 b1 b2 b3 b4
 go_wp2_with (go_at_call 117; refine HA2.out.mono ?_; rintro e w3 ⟨v3, rfl, HO3, hb3⟩; refine Hid.out ?_)
 apply zaa
 have HB3 := zaa (HB2.out.trans hb3.out)
 have hB3 : w1.heap.size ≤ w3.heap.size := zN hB2 hb3.out.size
 have HS3 := zaa (HS1.out.on Lr HB3.out)
 have HL1 := (zan (N : Int)).1
 obtain ⟨L3, hL3⟩ : ∃ L, [kd % 256] ++ uB (N : Int) = L := ⟨_, rfl⟩
 have hll3 : L3.length ≤ 11 := by rw [← hL3]; simp only [zG, List.length_cons, List.length_nil]; omega
 rw [hL3] at HO3 HQ
 have HA3 := zaa (zbb v3 w1.heap.size L3 R a1 N c1 w3 HO3.out HS3.out (sl_far HS1.out HO3.out Lr) (by omega) hB3)
 clear HA2 hb3 HB2 hB2 HL1 hL3 HS3 HO3
 go_wp2_with (go_at_call 117; refine HA3.out.mono ?_; rintro e w4 ⟨v4, rfl, HO4, hb4⟩; refine Hid.out ?_)
 apply zaa
 have HB4 := zaa (HB3.out.trans hb4.out)
 have hB4 : w1.heap.size ≤ w4.heap.size := zN hB3 hb4.out.size
 obtain ⟨L4, hL4⟩ : ∃ L, L3 ++ R = L := ⟨_, rfl⟩
 have hll4 : L4.length ≤ 11 + kn := by rw [← hL4, zG, HRL.out]; omega
 rw [hL4] at HO4 HQ
 clear HA3 hb4 HB3 hB3 hL4 HS1 HRL
 have H54 := zaa (zaf HB5.out HB4.out)
 obtain ⟨b0, b1, b2, b3, b4⟩ := C5.cells H54.out
 have HV4 := zaa (HV.out.on Lr HB4.out)
 by_cases hk1 : kd = 1
 ·subst hk1
  have hVw : IntKind.u64.wrap (vn : Int) = (vn : Int) := by rw [IntKind.wrap_u64]; omega
  have HQ1 := zaa (HQ.out _ (if_pos rfl))
  have HU := zaa (zci (vn : Int) w4 (by omega) (by omega))
  clear HQ
  go_wp2_with (go_at_call 116; refine HU.out.mono ?_; rintro e w5 ⟨u5, rfl, ho5, hb5⟩; refine Hid.out ?_)
  apply zaa
  obtain ⟨ub, un, ud, rfl, us5, hun⟩ := ho5.slu (by omega) (by omega)
  have HO5 := zaa (HO4.out.on Lr hb5)
  have HF5 := zaa (zbh HO4.out ho5 Lr)
  have HB5' := zaa (zab HB4.out Lr hb5)
  have hB5 : w1.heap.size ≤ w5.heap.size := zN hB4 hb5.size
  have HA5 := zaa (zbb v4 w1.heap.size L4 (uB (vn : Int)) ub un ud w5 HO5.out us5 HF5.out (by omega) hB5)
  clear HU ho5 us5 hb5 HO5 HF5 HO4
  go_wp2_with (go_at_call 117; refine HA5.out.mono ?_; rintro e w6 ⟨v6, rfl, HO6, hb6⟩; refine Hid.out ?_)
  apply zaa
  have HB6 := zaa (HB5'.out.trans hb6.out)
  have hB6 : w1.heap.size ≤ w6.heap.size := zN hB5 hb6.out.size
  clear HA5 hb6 HB5' hB5 b0 b1 b2 b3 b4 H54
  have H56 := zaa (zaf HB5.out HB6.out)
  obtain ⟨b0, b1, b2, b3, b4⟩ := C5.cells H56.out
  have HV6 := zaa (HV.out.on Lr HB6.out)
  have hll6 : (L4 ++ uB (vn : Int)).length + vn ≤ 140737488355328 := by
   have := (zan (vn : Int)).1
   rw [zG]
   omega
  have HA6 := zaa (zbb v6 w1.heap.size (L4 ++ uB (vn : Int)) val va vn vc w6 HO6.out HV6.out (sl_far HV.out HO6.out Lr) hll6 hB6)
  clear HO6 HV6 HV4 H56
  go_wp2_with (go_at_call 117; refine HA6.out.mono ?_; rintro e w7 ⟨v7, rfl, HO7, hb7⟩; refine Hid.out ?_)
  apply zaa
  have HO : Hid (OwnB w7 s v7 QQ) := zaa (by rw [HQ1.out, ← zM]; exact HO7.out.low (Nat.le_of_lt hsx))
  have HB : Hid (Below s w w7) := zaa ((by have := HBX.out; rwa [hs] at this : Below s w w1).trans ((HB6.out.trans hb7.out).mono (Nat.le_of_lt hsx)))
  clear HA6 hb7
  go_wp2
  go_ret
  rw [hs]
  exact ⟨v7, rfl, HO, HB⟩
 ·obtain ⟨P, hP⟩ : ∃ P, pg % 18446744073709551616 = P := ⟨_, rfl⟩
  obtain ⟨C, hC⟩ : ∃ C, ct % 18446744073709551616 = C := ⟨_, rfl⟩
  have hPw : IntKind.u64.wrap pg = P := by rw [IntKind.wrap_u64, hP]
  have hCw : IntKind.u64.wrap ct = C := by rw [IntKind.wrap_u64, hC]
  have HQ1 := zaa (HQ.out (uB P ++ uB C) (by rw [if_neg hk1, hP, hC]))
  have hP1 : 0 ≤ P ∧ P < 18446744073709551616 := by omega
  have hC1 : 0 ≤ C ∧ C < 18446744073709551616 := by omega
  have HU := zaa (zci P w4 (by omega) (by omega))
  have hk1b : (kd == 1) = false := by simpa using hk1
  clear HQ hP hC HV4
  go_wp2_with (go_at_call 116; refine HU.out.mono ?_; rintro e w5 ⟨u5, rfl, ho5, hb5⟩; refine Hid.out ?_)
  apply zaa
  obtain ⟨ub, un, ud, rfl, us5, hun⟩ := ho5.slu hP1.1 hP1.2
  have HO5 := zaa (HO4.out.on Lr hb5)
  have HF5 := zaa (zbh HO4.out ho5 Lr)
  have HB5' := zaa (zab HB4.out Lr hb5)
  have hB5 : w1.heap.size ≤ w5.heap.size := zN hB4 hb5.size
  have HA5 := zaa (zbb v4 w1.heap.size L4 (uB P) ub un ud w5 HO5.out us5 HF5.out (by omega) hB5)
  clear HU ho5 us5 hb5 HO5 HF5 HO4
  go_wp2_with (go_at_call 117; refine HA5.out.mono ?_; rintro e w6 ⟨v6, rfl, HO6, hb6⟩; refine Hid.out ?_)
  apply zaa
  have HB6 := zaa (HB5'.out.trans hb6.out)
  have hB6 : w1.heap.size ≤ w6.heap.size := zN hB5 hb6.out.size
  clear HA5 hb6 HB5' hB5 b0 b1 b2 b3 b4 H54
  have H56 := zaa (zaf HB5.out HB6.out)
  obtain ⟨b0, b1, b2, b3, b4⟩ := C5.cells H56.out
  have HU := zaa (zci C w6 hC1.1 hC1.2)
  go_wp2_with (go_at_call 116; refine HU.out.mono ?_; rintro e w7 ⟨u7, rfl, ho7, hb7⟩; refine Hid.out ?_)
  apply zaa
  obtain ⟨ue, uq, uf, rfl, us7, huq⟩ := ho7.slu hC1.1 hC1.2
  have HO7 := zaa (HO6.out.on Lr hb7)
  have HF7 := zaa (zbh HO6.out ho7 Lr)
  have HB7 := zaa (zab HB6.out Lr hb7)
  have hB7 : w1.heap.size ≤ w7.heap.size := zN hB6 hb7.size
  have hll6 : (L4 ++ uB P).length + uq ≤ 140737488355328 := by
   have := (zan P).1
   rw [zG]
   omega
  have HA7 := zaa (zbb v6 w1.heap.size (L4 ++ uB P) (uB C) ue uq uf w7 HO7.out us7 HF7.out hll6 hB7)
  clear HU ho7 us7 hb7 HO7 HF7 HO6 H56
  go_wp2_with (go_at_call 117; refine HA7.out.mono ?_; rintro e w8 ⟨v8, rfl, HO8, hb8⟩; refine Hid.out ?_)
  apply zaa
  have HO : Hid (OwnB w8 s v8 QQ) := zaa (by rw [HQ1.out, ← zM]; exact HO8.out.low (Nat.le_of_lt hsx))
  have HB : Hid (Below s w w8) := zaa ((by have := HBX.out; rwa [hs] at this : Below s w w1).trans ((HB7.out.trans hb8.out).mono (Nat.le_of_lt hsx)))
  clear HA7 hb8
  go_wp2
  go_ret
  rw [hs]
  exact ⟨v8, rfl, HO, HB⟩
theorem rtakenE_any (k : Int) (ao : Option Addr) (n cap m : Nat) (cs : List Cl) (w : World) (hs : SlC w ao n cap cs) (hkv : ∀ c ∈ cs, c.key.length + c.val.length ≤ 200000) (hn : n ≤ 70000) (hm : m ≤ 65536) :
  Calls Tryz.prog 118 #[.int .i64 k, .slice ao n cap, .int .i64 (m : Int)] w fun e w' => ∃ T : Nat, e = .returned (.int .i64 (T : Int)) ∧ Hid (T ≤ 1099511627776) ∧ Hid (Below w.heap.size w w') := by
 have HS := zaa hs
 have HKV := zaa hkv
 have mI : (m : Int) ≤ 65536 := by omega
 have nI : (n : Int) ≤ 70000 := by omega
 clear hs hkv
 go_enter Tryz.func118, Tryz.ntmps118
 go_wp2_with fail
 go_loopw [7, 8] (fun v i wr => ∃ j q : Nat, j ≤ n ∧ q ≤ 65546 + 200040 * j ∧ i = .int .i64 j ∧ v = .int .i64 (q : Int) ∧ Hid (Below w.heap.size w wr)) (fun _ i _ => n - (intOf i).toNat)
 case atStart => exact ⟨0, 10 + m, by omega, by omega, rfl, by go_num, zaa Br⟩
 case round =>
  obtain ⟨j, q, hj, hq, rfl, rfl, HB⟩ := hrel
  have bj : (j : Int) ≤ 70000 := by omega
  have bq : (q : Int) ≤ 1099511627776 := by omega
  by_cases hlt : j < n
  ·have hltI : (j : Int) < (n : Int) := by omega
   obtain ⟨b, off, c, ka, kc, va, vc, rfl, hb, hci, c0, c1, c2, c3, c4, hk, hv⟩ := (HS.out.on HB.out).item j hlt
   have hkv : c.key.length + c.val.length ≤ 200000 := HKV.out c (List.mem_of_getElem? hci)
   have HC := zaa (rbytesG_any k (j : Int) c ka va kc vc m wr hk hv (by omega))
   have hql := qB_most (cutG k (j : Int) m c.key.length) c
   obtain ⟨L, hL⟩ : ∃ L, qB (cutG k (j : Int) m c.key.length) c = L := ⟨_, rfl⟩
   rw [hL] at HC hql
   obtain ⟨l, hl⟩ : ∃ l, L.length = l := ⟨_, rfl⟩
   have HL := zaa hl
   have bl : (l : Int) ≤ 200031 := by omega
   have HQ : Hid (l ≤ 200031 ∧ q ≤ 65546 + 200040 * j) := zaa ⟨by omega, hq⟩
   have HC2 : Hid (Calls Tryz.prog 74 #[.int .i64 k, .int .i64 (j : Int), .agg #[.slice ka c.key.length kc, .int .i64 c.kd, .slice va c.val.length vc, .int .i64 c.pg, .int .i64 c.ct], .int .i64 (m : Int)] wr fun e w' => ∃ ao2 c2, e = .returned (.slice ao2 l c2) ∧ Hid (Below wr.heap.size wr w')) := zaa (by
    refine HC.out.mono ?_
    rintro e w' ⟨v, rfl, HO, HB2⟩
    obtain ⟨ao2, c2, rfl⟩ := zbw HO.out
    rw [HL.out]
    exact ⟨ao2, c2, rfl, HB2⟩)
   clear hk hv hci hkv hql hL hl HC hq hb
   go_wp2_with (go_at_call 74; refine HC2.out.mono ?_; rintro e w2 ⟨ao2, cap2, rfl, HB2⟩)
   go_roundw
   case rel => exact ⟨j + 1, q + 2 + l, by omega, by have := HQ.out; omega, by go_num, by go_num, zaa (zab HB.out Lr HB2.out)⟩
   case measure => simp [intOf]; omega
  ·have hltI : ¬ (j : Int) < (n : Int) := by omega
   have HQ : Hid (q ≤ 1099511627776) := zaa (by omega)
   go_wp2
   go_ret
   exact ⟨q, rfl, HQ, HB⟩
theorem dused_any (w : World) (r : Nat) (k : Int) (n : Nat) (lo : Option Addr) (N lc : Nat) (so : Option Addr) (sn sc : Nat) (ws : Int) (cs : List Cl) (h : QD w r k n (.slice lo N lc) (.slice so sn sc) ws) (hs : SlC w lo N lc cs) (hbeg : ∀ (j : Nat) (c : Cl), cs[j]? = some c → ¬ (k = 3 ∧ j = 0) → sn ≤ c.key.length) (hf : ∀ c ∈ cs, c.fit) (hN : N ≤ 70000) (hsn : sn ≤ 65536) :
  Calls Tryz.prog 83 #[.pointer (some ⟨r, 0, none⟩)] w fun e w' => e = .returned (.int .i64 ((szQ k sn cs : Nat) : Int)) ∧ Hid (Below w.heap.size w w') := by
 obtain ⟨c0, c1, c2, c3, c4⟩ := h.cells
 obtain ⟨Z, hZ⟩ : ∃ Z, szQ k sn cs = Z := ⟨_, rfl⟩
 have HT : Hid (∀ u, Below w.heap.size w u → Calls Tryz.prog 118 #[.int .i64 k, .slice lo N lc, .int .i64 (sn : Int)] u fun e w' => e = .returned (.int .i64 (Z : Int)) ∧ Hid (Below w.heap.size w w')) := zaa fun u hu => by
  have h1 := qbd_big sn (whl k) cs hf
  have h2 := zal k sn cs
  have h3 := hs.hlen
  have h4 := rtaken_any k lo N lc sn cs u (hs.on hu) (fun j c hc hj => hbeg j c hc (by omega)) (fun c hc => by have := (hf c hc).key; have := (hf c hc).val; omega) (by omega)
  rw [hZ] at h4
  refine h4.mono ?_
  rintro e w' ⟨rfl, HB⟩
  exact ⟨rfl, zaa (zab hu Lr HB.out)⟩
 rw [hZ]
 have snI : (sn : Int) ≤ 65536 := by omega
 clear h hs hbeg hf hZ
 go_enter Tryz.func83, Tryz.ntmps83
 go_wp2_with fail
 go_region_with (first | (go_at_call 118; refine (HT.out _ (by first | exact Br | exact Br.drew | exact zad Br _)).mono ?_; rintro e w2 ⟨rfl, HB2⟩))
 all_goals
  go_wp2
  go_ret
  exact ⟨rfl, by first | exact HB2 | exact zaa HB2.out.drew | exact zaa (zad HB2.out _)⟩
theorem dusedE_any (w : World) (r : Nat) (k : Int) (n : Nat) (lo : Option Addr) (N lc : Nat) (so : Option Addr) (sn sc : Nat) (ws : Int) (cs : List Cl) (h : QD w r k n (.slice lo N lc) (.slice so sn sc) ws) (hs : SlC w lo N lc cs) (hf : ∀ c ∈ cs, c.fit) (hN : N ≤ 70000) (hsn : sn ≤ 65536) :
  Calls Tryz.prog 83 #[.pointer (some ⟨r, 0, none⟩)] w fun e w' => ∃ T : Nat, e = .returned (.int .i64 (T : Int)) ∧ Hid (T ≤ 1099511627776) ∧ Hid (Below w.heap.size w w') := by
 obtain ⟨c0, c1, c2, c3, c4⟩ := h.cells
 have HT : Hid (∀ u, Below w.heap.size w u → Calls Tryz.prog 118 #[.int .i64 k, .slice lo N lc, .int .i64 (sn : Int)] u fun e w' => ∃ T : Nat, e = .returned (.int .i64 (T : Int)) ∧ Hid (T ≤ 1099511627776) ∧ Hid (Below w.heap.size w w')) := zaa fun u hu => by
  refine (rtakenE_any k lo N lc sn cs u (hs.on hu) (fun c hc => by have := (hf c hc).key; have := (hf c hc).val; omega) hN hsn).mono ?_
  rintro e w' ⟨T, rfl, HQ, HB⟩
  exact ⟨T, rfl, HQ, zaa (zab hu Lr HB.out)⟩
 have snI : (sn : Int) ≤ 65536 := by omega
 clear h hs hf
 go_enter Tryz.func83, Tryz.ntmps83
 go_wp2_with fail
 go_region_with (first | (go_at_call 118; refine (HT.out _ (by first | exact Br | exact Br.drew | exact zad Br _)).mono ?_; rintro e w2 ⟨T, rfl, HQ2, HB2⟩))
 all_goals
  go_wp2
  go_ret
  exact ⟨T, rfl, HQ2, by first | exact HB2 | exact zaa HB2.out.drew | exact zaa (zad HB2.out _)⟩
theorem dfull_any (w : World) (r : Nat) (k : Int) (n : Nat) (lo : Option Addr) (N lc : Nat) (so : Option Addr) (sn sc : Nat) (ws : Nat) (cs : List Cl) (h : QD w r k n (.slice lo N lc) (.slice so sn sc) (ws : Int)) (hs : SlC w lo N lc cs) (hbeg : ∀ (j : Nat) (c : Cl), cs[j]? = some c → ¬ (k = 3 ∧ j = 0) → sn ≤ c.key.length) (hf : ∀ c ∈ cs, c.fit) (hN : N ≤ 70000) (hsn : sn ≤ 65536) (hws : ws ≤ 1000000) (hn : n ≤ 65536) :
  Calls Tryz.prog 72 #[.pointer (some ⟨r, 0, none⟩)] w fun e w' => e = .returned (.bool (decide (n < szQ k sn cs + ws))) ∧ Hid (Below w.heap.size w w') := by
 have hbig : szQ k sn cs ≤ 1099511627776 := by
  have h1 := qbd_big sn (whl k) cs hf
  have h2 := zal k sn cs
  have h3 := hs.hlen
  omega
 have HU := zaa (dused_any w r k n lo N lc so sn sc (ws : Int) cs h hs hbeg hf hN hsn)
 obtain ⟨Z, hZ⟩ : ∃ Z, szQ k sn cs = Z := ⟨_, rfl⟩
 rw [hZ] at HU hbig ⊢
 have HR : Hid (∀ u, Below w.heap.size w u → QD u r k n (.slice lo N lc) (.slice so sn sc) (ws : Int)) := zaa fun u hu => zaf h hu
 have ZI : (Z : Int) ≤ 1099511627776 := by omega
 have WI : (ws : Int) ≤ 1000000 := by omega
 have nI : (n : Int) ≤ 65536 := by omega
 have hwZ : IntKind.i64.wrap ((Z : Int) + (ws : Int)) = (Z : Int) + (ws : Int) := by rw [IntKind.wrap_i64]; omega
 clear h hs hbeg hf hZ hbig
 go_enter Tryz.func72, Tryz.ntmps72
 go_wp2_with (go_at_call 83; refine HU.out.mono ?_; rintro e w1 ⟨rfl, HB1⟩; refine Hid.out ?_)
 apply zaa
 obtain ⟨c0, c1, c2, c3, c4⟩ := (HR.out w1 HB1.out).cells
 go_wp2_with fail
 go_quiet (fail)
 go_wp2
 go_ret
 exact ⟨ret_bool (by simp; omega), zaa (zad HB1.out _)⟩
theorem dfullE_any (w : World) (r : Nat) (k : Int) (n : Nat) (lo : Option Addr) (N lc : Nat) (so : Option Addr) (sn sc : Nat) (ws : Nat) (cs : List Cl) (h : QD w r k n (.slice lo N lc) (.slice so sn sc) (ws : Int)) (hs : SlC w lo N lc cs) (hf : ∀ c ∈ cs, c.fit) (hN : N ≤ 70000) (hsn : sn ≤ 65536) (hws : ws ≤ 1000000) (hn : n ≤ 65536) :
  Calls Tryz.prog 72 #[.pointer (some ⟨r, 0, none⟩)] w fun e w' => ∃ b, e = .returned (.bool b) ∧ Hid (Below w.heap.size w w') := by
 have HU := zaa (dusedE_any w r k n lo N lc so sn sc (ws : Int) cs h hs hf hN hsn)
 have HR : Hid (∀ u, Below w.heap.size w u → QD u r k n (.slice lo N lc) (.slice so sn sc) (ws : Int)) := zaa fun u hu => zaf h hu
 have WI : (ws : Int) ≤ 1000000 := by omega
 have nI : (n : Int) ≤ 65536 := by omega
 clear h hs hf
 go_enter Tryz.func72, Tryz.ntmps72
 go_wp2_with (go_at_call 83; refine HU.out.mono ?_; rintro e w1 ⟨Z, rfl, HZ, HB1⟩; refine Hid.out ?_)
 apply zaa
 have ZI : (Z : Int) ≤ 1099511627776 := by have := HZ.out; omega
 have hwZ : IntKind.i64.wrap ((Z : Int) + (ws : Int)) = (Z : Int) + (ws : Int) := by rw [IntKind.wrap_i64]; omega
 obtain ⟨c0, c1, c2, c3, c4⟩ := (HR.out w1 HB1.out).cells
 go_wp2_with fail
 go_quiet (fail)
 go_wp2
 go_ret
 exact ⟨_, rfl, zaa (zad HB1.out _)⟩
theorem app_v {ops : Array Oper} {rest : List Oper} {o : Oper} {a : Act} {Q : Exit → Act → World → Prop} (w : World) (B : Nat) (hgd : o.guard = none) (s x : Operand)
  (ho : o.op = .call { callee := .builtin .append, args := #[s, x], argTypes := #[43, 43] }) (n : Nat) (vs : List Value) (v : Value) (g : Nat) (us : List Value) (hs : a.eval s = v) (hx : a.eval x = .slice (some ⟨g, 0, none⟩) 1 1)
  (hown : w.ownsRow B 39 5 v n vs) (hl : us.length = 5) (h1 : ∀ u ∈ us, u.oneCell' = true) (hc : ∀ j u, us[j]? = some u → w.cell? ⟨g, 0 + j, none⟩ = some u) (hb : n + 1 ≤ 1000000) (hbase : B ≤ w.heap.size)
  (h : ∀ v' w', Hid (w'.ownsRow B 39 5 v' (n + 1) (vs ++ us)) → Hid (Below B w w') → Hid (w.grownBy w' v.ownBlock) → wpList Tryz.prog ops Q rest (a.put o.dst v') w') : wpList Tryz.prog ops Q (o :: rest) a w := by
 obtain ⟨i0, hi, hz0, hz1, hz2⟩ := info_parts infoC
 refine wpList_append_own_at w hgd s x 43 ho B 39 i0 _ 5 72 Tryz.underlying43 hi hz0 hz1 hz2 rfl (by decide) v n vs hs hown ⟨g, 0, none⟩ 1 1 us hx (by omega)
  (fun j u hu => by
   rw [Addr.add_lit]
   exact hc j u hu) h1 (by unfold maxLen; omega) (by omega) hbase ?_
 intro v' w' g1 g2 _ _
 exact h v' w' (zaa g1) (zaa (zcn hown hbase g2)) (zaa g2)
theorem own_go {w w' : World} {B n : Nat} {v : Value} {vs : List Value} (h : w.ownsRow B 39 5 v n vs) (hb : Below w.heap.size w w') : w'.ownsRow B 39 5 v n vs := by
 refine ⟨h.1, ?_⟩
 rcases h.2 with h3 | ⟨g, cap, cur, e, hg, hh, r⟩
 ·exact .inl h3
 ·exact .inr ⟨g, cap, cur, e, hg, (hb.block g (zag hh)).trans hh, r⟩
theorem OwnB.growC {w w' : World} {B C n : Nat} {u v : Value} {l : List Int} {vs : List Value} (h : OwnB w C u l) (ho : w.ownsRow B 39 5 v n vs) (hg : w.grownBy w' v.ownBlock) : OwnB w' C u l := by
 refine World.ownsRow.kept h hg ?_
 rcases ho.2 with ⟨rfl, _⟩ | ⟨g, cap, cur, rfl, _, hh, _⟩
 ·cases hu : u.ownBlock with
  | none => exact .inl rfl
  | some k => exact .inr (by simp [Value.ownBlock])
 ·right
  intro e
  exact h.apart hh (by decide) (by rw [e]; rfl)
theorem five_one (ka va : Option Addr) (kn kc vn vc : Nat) (kd pg ct : Int) : ∀ u ∈ ([.slice ka kn kc, .int .i64 kd, .slice va vn vc, .int .i64 pg, .int .i64 ct] : List Value), u.oneCell' = true := by
 intro u hu
 simp only [List.mem_cons, List.not_mem_nil, or_false] at hu
 rcases hu with rfl | rfl | rfl | rfl | rfl <;> rfl
theorem RwK.item {w : World} {K : Nat → Prop} {lo : Option Addr} {N lc : Nat} {vs : List Value} {cs : List Cl} (h : RwK w K lo N lc vs cs) (i : Nat) (hi : i < N) : ∃ g c ka kc va vc, lo = some ⟨g, 0, none⟩ ∧ cs[i]? = some c ∧ w.cell? ⟨g, i * 5, none⟩ = some (.slice ka c.key.length kc) ∧ w.cell? ⟨g, i * 5 + 1, none⟩ = some (.int .i64 c.kd) ∧ w.cell? ⟨g, i * 5 + 2, none⟩ = some (.slice va c.val.length vc) ∧ w.cell? ⟨g, i * 5 + 3, none⟩ = some (.int .i64 c.pg) ∧ w.cell? ⟨g, i * 5 + 4, none⟩ = some (.int .i64 c.ct) ∧
  (vs.drop (i * 5)).take 5 = [.slice ka c.key.length kc, .int .i64 c.kd, .slice va c.val.length vc, .int .i64 c.pg, .int .i64 c.ct] ∧ Sl w ka c.key.length kc c.key ∧ Sl w va c.val.length vc c.val := by
 have hl := h.len
 obtain ⟨c, hci⟩ : ∃ c, cs[i]? = some c := ⟨_, zI (by omega)⟩
 obtain ⟨ka, kc, va, vc, e0, e1, e2, e3, e4, s1, s2⟩ := (h.rows w (Agr.refl _ _)).item i c hci
 rcases h.own.2 with ⟨_, h0⟩ | ⟨g, cap, cur, e, hg, hh, r⟩
 ·omega
 ·injection e with e1' _ _
  subst e1'
  have hc : ∀ j u, vs[j]? = some u → w.cell? ⟨g, j, none⟩ = some u := fun j u hu => by
   have := World.ownsRow.cells h.own (g := g) rfl j u hu
   simpa [Addr.add_lit] using this
  refine ⟨g, c, ka, kc, va, vc, rfl, hci, hc _ _ e0, hc _ _ e1, hc _ _ e2, hc _ _ e3, hc _ _ e4, ?_, s1, s2⟩
  have hv : ∀ j u, vs[i * 5 + j]? = some u → (vs.drop (i * 5))[j]? = some u := fun j u hu => by rw [List.getElem?_drop]; exact hu
  have f0 := hv 0 _ e0
  have f1 := hv 1 _ e1
  have f2 := hv 2 _ e2
  have f3 := hv 3 _ e3
  have f4 := hv 4 _ e4
  generalize vs.drop (i * 5) = l at *
  match l with
  | [] => simp at f0
  | [_] => simp at f1
  | [_, _] => simp at f2
  | [_, _, _] => simp at f3
  | [_, _, _, _] => simp at f4
  | a :: b :: c' :: d :: e :: t =>
   simp at f0 f1 f2 f3 f4
   subst f0 f1 f2 f3 f4
   rfl
theorem take_five (vs : List Value) (q : Nat) : vs.take ((q + 1) * 5) = vs.take (q * 5) ++ (vs.drop (q * 5)).take 5 := by
 rw [show (q + 1) * 5 = q * 5 + 5 by omega, List.take_add]
end Go.Proofs.YtfgffajgfgifhaaGreatDoor
