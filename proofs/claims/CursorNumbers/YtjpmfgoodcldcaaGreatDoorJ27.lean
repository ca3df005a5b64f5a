import Derived.Test.YtjpmfgoodcldcaaGreatDoorJ26
namespace Go.Proofs.YtjpmfgoodcldcaaGreatDoor
set_option maxRecDepth 100000
open Go.RowKit
theorem own_cf13 {w w' : World} {B : Nat} {e : TypeId} {sz n : Nat} {v : Value} {xs : List Value} {F : Nat → Prop} (h : w.ownsRow B e sz v n xs) (hc : Cf F w w') (hF : ∀ k, B ≤ k → ¬ F k) : w'.ownsRow B e sz v n xs := by
 refine ⟨h.1, ?_⟩
 rcases h.2 with h6 | ⟨g', c', cur, e, hg, hh, r'⟩
 ·exact .inl h6
 ·exact .inr ⟨g', c', cur, e, hg, (hc.block g' (lt_some hh) (hF g' hg)).trans hh, r'⟩
theorem Po.cf13 {w w' : World} {B a : Nat} {k : Int} {n : Nat} {vb vs : Value} {cs : List Cl} {F : Nat → Prop} (h : Po w B a k n vb vs cs) (hc : Cf F w w') (hF : ∀ k, B ≤ k → ¬ F k) (ha : B ≤ a) : Po w' B a k n vb vs cs :=
 ⟨(hc.block a (lt_some h.row) (hF a ha)).trans h.row, own_cf13 h.body hc hF, own_cf13 h.starts hc hF⟩
def Lf (w : World) (B a : Nat) (cs : List Cl) : Prop := B ≤ a ∧ ∃ vb vs, Po w B a 2 512 vb vs cs
theorem Lf.cf {w u : World} {B a : Nat} {cs : List Cl} {F : Nat → Prop} (h : Lf w B a cs) (hc : Cf F w u) (hF : ∀ k, B ≤ k → ¬ F k) : Lf u B a cs := by
 obtain ⟨ha, vb, vs, h⟩ := h
 exact ⟨ha, vb, vs, h.cf13 hc hF ha⟩
theorem Lf.on {w u : World} {B a : Nat} {cs : List Cl} (h : Lf w B a cs) (hb : Below w.heap.size w u) : Lf u B a cs := h.cf (F := fun _ => False) (Cf.of_below hb) (fun _ _ h => h)
def TE (w : World) (E0 : Nat) : Prop := ∀ u, Cf (fun k => E0 ≤ k) w u → Tab u ∧ 1 < u.heap.size
theorem TE.cf {w u : World} {E0 : Nat} {F : Nat → Prop} (h : TE w E0) (hc : Cf F w u) (hF : ∀ k, F k → E0 ≤ k) : TE u E0 := fun v hv => h v ((hc.wd13 hF).go hv)
structure R5 (w : World) (b m E0 E : Nat) (rd : Int) (cs : List Cl) : Prop where
 bm : E0 ≤ b ∧ b < E ∧ E0 ≤ m ∧ m < E
 te : TE w E0
 bn : ∃ M ct f, Bq w b m rd M ct ∧ (∀ k f', M k = some f' → f'.g < E) ∧ M 5 = some f ∧ f.l = pgB 2 512 cs
theorem R5.cf {w u : World} {b m E0 E : Nat} {rd : Int} {cs : List Cl} {F : Nat → Prop} (h : R5 w b m E0 E rd cs) (hc : Cf F w u) (hF : ∀ k, F k → E ≤ k) : R5 u b m E0 E rd cs := by
 obtain ⟨⟨h1, h2, h3, h4⟩, ht, M, ct, f, hb, hp, h5, h6⟩ := h
 refine ⟨⟨h1, h2, h3, h4⟩, ht.cf hc (fun k hk => by have := hF k hk; omega), M, ct, f, hb.cf hc (fun e => by have := hF _ e; omega) (fun e => by have := hF _ e; omega) (fun k f' hk e => by have := hF _ e; have := hp k f' hk; omega), hp, h5, h6⟩
theorem R5.on {w u : World} {b m E0 E : Nat} {rd : Int} {cs : List Cl} (h : R5 w b m E0 E rd cs) (hb : Below w.heap.size w u) : R5 u b m E0 E rd cs := h.cf (F := fun _ => False) (Cf.of_below hb) (fun _ h => h.elim)
theorem meth_len (a : Nat) (w : World) : (method 301 99 (.pointer (some ⟨a, 0, none⟩)) "Len").run Tryz.prog w = .ok (80, .pointer (some ⟨a, 0, none⟩)) w := by kernel_rfl
theorem nil_len (a : Nat) (w : World) : (nilAhead 301 99 (.pointer (some ⟨a, 0, none⟩)) "Len").run Tryz.prog w = .ok (some false) w := by kernel_rfl
theorem Lf.len {w : World} {B a : Nat} {cs : List Cl} (h : Lf w B a cs) : Calls Tryz.prog 80 #[.pointer (some ⟨a, 0, none⟩)] w fun e w' => e = .returned (.int .i64 (cs.length : Int)) ∧ w' = w := by
 obtain ⟨_, vb, vs, h⟩ := h
 obtain ⟨so, sc, rfl⟩ := h.starts.shape
 have := lenR_any w a 2 512 vb so _ sc h.row
 rwa [sts_length] at this
theorem len_if {w : World} {B a : Nat} {cs : List Cl} (h : Lf w B a cs) : Calls Tryz.prog 80 #[.pointer (some ⟨a, 0, none⟩)] w fun e w' => e = .returned (.int .i64 (cs.length : Int)) ∧ w' = w := h.len
set_option maxHeartbeats 1000000 in
theorem read_5 {w : World} {b m E0 E : Nat} {rd : Int} {cs : List Cl} (h : R5 w b m E0 E rd cs) (g : Gd1 cs) (hn : 0 < cs.length) (hrd : rd < 4611686018427387904) (hr0 : 0 ≤ rd) :
  Calls Tryz.prog 49 #[iB b, .int .i64 5] w fun e w' => ∃ a, e = .returned (.tuple #[iP a, .int .i64 0]) ∧ Hid (Cf (Bo b m) w w' ∧ R5 w' b m E0 E (rd + 1) cs ∧ Lf w' w.heap.size a cs) := by
 have HR : Hid (Calls Tryz.prog 55 #[iB b, .int .i64 5] w fun e w' => ∃ a, e = .returned (.tuple #[iP a, .int .i64 0]) ∧ Hid (Cf (Bo b m) w w' ∧ R5 w' b m E0 E (rd + 1) cs ∧ Lf w' w.heap.size a cs)) := hidden (by
  obtain ⟨⟨h1, h2, h3, h4⟩, ht, M, ct, f, hb, hp, h5, h6⟩ := h
  refine (wread_leaf w b m rd 5 M ct f cs hb (by decide) h5 h6 g hrd hr0 (fun u hu => ht u (hu.wd13 (fun k hk => by rcases hk with e | e <;> omega)))).mono ?_
  rintro e w' ⟨a, rfl, HQ⟩
  obtain ⟨q1, q2, q3, q4⟩ := HQ.out
  exact ⟨a, rfl, hidden ⟨q1, ⟨⟨h1, h2, h3, h4⟩, ht.cf q1 (fun k hk => by rcases hk with e | e <;> omega), M, ct, f, q2, hp, h5, h6⟩, q3, q4⟩⟩)
 have hnI : ¬ ((cs.length : Int) = 0) := by omega
 clear h g hn
 go_enter Tryz.func49, Tryz.ntmps49
 go_wp2_with (first | (go_at_call 55; refine HR.out.mono ?_; rintro e w1 ⟨a, rfl, HQ⟩; refine Hid.out ?_))
 apply hidden
 have HL := hidden (len_if HQ.out.2.2)
 clear HR
 go_wp2_with (first | (go_at_call 80; refine same_call HL.out ?_))
 go_ret2
 exact ⟨a, rfl, HQ⟩
theorem isThere_any {w : World} {c b B a : Nat} {at_ deep err : Int} {cs : List Cl} (h : Cu w c b 5 (iP a) at_ deep err) (hl : Lf w B a cs) (r : Bool) (hr : decide (0 ≤ at_ ∧ at_ < (cs.length : Int)) = r) :
  Calls Tryz.prog 35 #[.pointer (some ⟨c, 2, none⟩)] w fun e u => e = .returned (.bool r) ∧ ∃ q, u = w.drewN q := by
 obtain ⟨c0, c1, c2, c3, c4, c5⟩ := h.cells
 have HL : Hid (∀ q, Calls Tryz.prog 80 #[.pointer (some ⟨a, 0, none⟩)] (w.drewN q) fun e w' => e = .returned (.int .i64 (cs.length : Int)) ∧ w' = w.drewN q) := hidden fun q => (hl.on (bl_dr (Below.refl _ _) q)).len
 have hm := fun u => meth_len a u
 have hn := fun u => nil_len a u
 clear h hl
 by_cases h0 : 0 ≤ at_
 ·have e0 : decide (0 ≤ at_) = true := by simpa using h0
  have e1 : decide (at_ < (cs.length : Int)) = r := by rw [← hr]; simp [h0]
  clear hr
  go_enter Tryz.func35, Tryz.ntmps35
  go_wp2_with fail
  go_quiet (first | (go_at_call 80; exact Calls.quiet_of_same (HL.out _)))
  go_wp2
  go_ret
  exact ⟨rfl, _, rfl⟩
 ·have e0 : decide (0 ≤ at_) = false := by simpa using h0
  obtain rfl : r = false := by rw [← hr]; simp [h0]
  clear hr h0
  go_enter Tryz.func35, Tryz.ntmps35
  go_wp2_with fail
  go_quiet (fail)
  go_wp2
  go_ret
  exact ⟨rfl, _, rfl⟩
def Dn (w : World) (b m E0 E c : Nat) (r rd : Int) (cs : List Cl) (u : World) : Prop := ∃ a, Cu u c b 5 (iP a) r 1 0 ∧ Lf u w.heap.size a cs ∧ R5 u b m E0 E rd cs ∧ Cf (fun k => Bo b m k ∨ k = c) w u
theorem down_0 (c : Nat) (fv : Value) (w : World) : Calls Tryz.prog 33 #[pB c, .int .i64 0, fv] w fun e u => e = .returned (.int .i64 0) ∧ u = w := by
 go_enter Tryz.func33, Tryz.ntmps33
 go_wp2_with fail
 go_loopw [1] (fun p wr => p = .int .i64 0 ∧ wr = w) (fun _ _ => 0)
 case atStart => exact ⟨rfl, rfl⟩
 case round =>
  obtain ⟨rfl, rfl⟩ := hrel
  go_wp2
  go_ret
  exact ⟨rfl, rfl⟩
set_option maxHeartbeats 2000000 in
theorem down_5s {w : World} {c b m E0 E kb : Nat} {rd r : Int} {cs : List Cl} (hcu : Cu w c b 5 .nilIface 0 0 0) (h : R5 w b m E0 E rd cs) (hE : E ≤ c) (g : Gd1 cs) (hn : 0 < cs.length) (hrd : rd < 4611686018427387904) (hr0 : 0 ≤ rd)
  (HT : ∀ u a, Cf (Bo b m) w u → Lf u w.heap.size a cs → Calls Tryz.prog 29 #[iP a, pB kb] u fun e u' => e = .returned (.int .i64 r) ∧ Hid (Below u.heap.size u u')) :
  Calls Tryz.prog 33 #[pB c, .int .i64 5, .func (.func 29) #[] #[pB kb]] w fun e u => e = .returned (.int .i64 0) ∧ Hid (Dn w b m E0 E c r (rd + 1) cs u) := by
 have HRD := hidden (read_5 h g hn hrd hr0)
 have HCU := hidden hcu
 have HTT := hidden HT
 have HBM := hidden h.bm
 have HCL := hidden hcu.lt
 clear hcu h g HT hn hrd hr0
 go_enter Tryz.func33, Tryz.ntmps33
 go_wp2_with fail
 go_loopw [1] (fun p wr => (p = .int .i64 5 ∧ wr = w) ∨ (p = .int .i64 0 ∧ Hid (Dn w b m E0 E c r (rd + 1) cs wr))) (fun p _ => (intOf p).toNat)
 case atStart => exact .inl ⟨rfl, rfl⟩
 case round =>
  rcases hrel with ⟨rfl, rfl⟩ | ⟨rfl, HD⟩
  ·obtain ⟨c0, c1, c2, c3, c4, c5⟩ := HCU.out.cells
   go_wp2_with (first | (go_at_call 49; refine HRD.out.mono ?_; rintro e w1 ⟨a, rfl, HQ⟩; refine Hid.out ?_))
   apply hidden
   obtain ⟨q1, q2, q3⟩ := HQ.out
   have hcb : ¬ Bo b m c := by rcases HBM.out with ⟨h1, h2, h3, h4⟩; rintro (e | e) <;> omega
   have HT1 := hidden (HTT.out w1 a q1 q3)
   have HC1 := hidden (HCU.out.cf q1 hcb)
   clear c0 c1 c2 c3 c4 c5 HRD
   go_wp2_with (first | (go_at_call 29; refine HT1.out.mono ?_; rintro e w2 ⟨rfl, HB2⟩; refine Hid.out ?_))
   apply hidden
   have HC2 := hidden (HC1.out.on HB2.out)
   have HL2 := hidden (q3.on HB2.out)
   have HR2 := hidden (q2.on HB2.out)
   have HF2 : Hid (Cf (Bo b m) wr w2) := hidden (q1.go (Cf.of_below HB2.out))
   clear HT1 HC1 q1 q2 q3 HQ HTT HCU
   obtain ⟨c0, c1, c2, c3, c4, c5⟩ := HC2.out.cells
   have f2 := HC2.out.free 2
   have f3 := HC2.out.free 3
   have f82 := HC2.out.free 82
   go_wp2_with fail
   go_region
   obtain ⟨w3, hw3⟩ : ∃ w3, ((w2.setCell ⟨c, 2, none⟩ (iP a)).setCell ⟨c, 3, none⟩ (.int .i64 r)).drew = w3 := ⟨_, rfl⟩
   have HC3 : Hid (Cu w3 c b 5 (iP a) r 0 0) := hidden (by rw [← hw3]; exact (HC2.out.set2 (iP a)).set3 r)
   have HF3 : Hid (Cf (· = c) w2 w3) := hidden (by rw [← hw3]; exact ((Cf.set w2 c 2 (iP a)).go (Cf.set _ c 3 (.int .i64 r))).go (Cf.of_below (Below.refl _ _).drew))
   have hw3' : ((w2.setCell ⟨c, 2, none⟩ (.iface 99 (.pointer (some ⟨a, 0, none⟩)))).setCell ⟨c, 3, none⟩ (.int .i64 r)).drew = w3 := hw3
   rw [hw3']
   clear hw3 hw3' c0 c1 c2 c3 c4 c5 f2 f3 f82
   have hbc : ∀ k, wr.heap.size ≤ k → ¬ k = c := fun k h1 h2 => by have := HCL.out; omega
   have HC4 : Hid (Cu (w3.setCell ⟨c, 82, none⟩ (.int .i64 1)) c b 5 (iP a) r 1 0) := hidden (HC3.out.set82 1)
   have HF4 : Hid (Cf (· = c) w2 (w3.setCell ⟨c, 82, none⟩ (.int .i64 1))) := hidden (HF3.out.go (Cf.set w3 c 82 _))
   have HL4 : Hid (Lf (w3.setCell ⟨c, 82, none⟩ (.int .i64 1)) wr.heap.size a cs) := hidden (HL2.out.cf HF4.out hbc)
   have HD4 : Hid (Dn wr b m E0 E c r (rd + 1) cs (w3.setCell ⟨c, 82, none⟩ (.int .i64 1))) := hidden ⟨a, HC4.out, HL4.out, HR2.out.cf HF4.out (fun k hk => by rw [hk]; exact hE), (HF2.out.wd13 (fun k hk => .inl hk)).go (HF4.out.wd13 (fun k hk => .inr hk))⟩
   have HCH : Hid (Calls Tryz.prog 50 #[iP a, .int .i64 r] (w3.setCell ⟨c, 82, none⟩ (.int .i64 1)) fun e w' => e = .returned (.int .i64 0) ∧ w' = w3.setCell ⟨c, 82, none⟩ (.int .i64 1)) := hidden (by
    obtain ⟨_, vb, vs, hp⟩ := HL4.out
    exact child_leaf _ _ a vb vs cs r hp)
   obtain ⟨c0, c1, c2, c3, c4, c5⟩ := HC3.out.cells
   have f82 := HC3.out.free 82
   clear HC2 HL2 HR2 HF2 HC3 HF3 HC4 HF4 HL4
   go_wp2_with (first | (go_at_call 50; refine same_call HCH.out ?_))
   go_roundw
   case rel => exact .inr ⟨rfl, HD4⟩
   case measure => simp [intOf]
  ·go_wp2
   go_ret
   exact ⟨rfl, HD⟩
set_option maxHeartbeats 2000000 in
theorem down_5l {w : World} {c b m E0 E : Nat} {rd r : Int} {cs : List Cl} (hcu : Cu w c b 5 .nilIface 0 0 0) (h : R5 w b m E0 E rd cs) (hE : E ≤ c) (g : Gd1 cs) (hn : 0 < cs.length) (hrd : rd < 4611686018427387904) (hr0 : 0 ≤ rd)
  (HT : ∀ u a, Cf (Bo b m) w u → Lf u w.heap.size a cs → Calls Tryz.prog 53 #[iP a] u fun e u' => e = .returned (.int .i64 r) ∧ Hid (Below u.heap.size u u')) :
  Calls Tryz.prog 33 #[pB c, .int .i64 5, .func (.func 53) #[] #[]] w fun e u => e = .returned (.int .i64 0) ∧ Hid (Dn w b m E0 E c r (rd + 1) cs u) := by
 have HRD := hidden (read_5 h g hn hrd hr0)
 have HCU := hidden hcu
 have HTT := hidden HT
 have HBM := hidden h.bm
 have HCL := hidden hcu.lt
 clear hcu h g HT hn hrd hr0
 go_enter Tryz.func33, Tryz.ntmps33
 go_wp2_with fail
 go_loopw [1] (fun p wr => (p = .int .i64 5 ∧ wr = w) ∨ (p = .int .i64 0 ∧ Hid (Dn w b m E0 E c r (rd + 1) cs wr))) (fun p _ => (intOf p).toNat)
 case atStart => exact .inl ⟨rfl, rfl⟩
 case round =>
  rcases hrel with ⟨rfl, rfl⟩ | ⟨rfl, HD⟩
  ·obtain ⟨c0, c1, c2, c3, c4, c5⟩ := HCU.out.cells
   go_wp2_with (first | (go_at_call 49; refine HRD.out.mono ?_; rintro e w1 ⟨a, rfl, HQ⟩; refine Hid.out ?_))
   apply hidden
   obtain ⟨q1, q2, q3⟩ := HQ.out
   have hcb : ¬ Bo b m c := by rcases HBM.out with ⟨h1, h2, h3, h4⟩; rintro (e | e) <;> omega
   have HT1 := hidden (HTT.out w1 a q1 q3)
   have HC1 := hidden (HCU.out.cf q1 hcb)
   clear c0 c1 c2 c3 c4 c5 HRD
   go_wp2_with (first | (go_at_call 53; refine HT1.out.mono ?_; rintro e w2 ⟨rfl, HB2⟩; refine Hid.out ?_))
   apply hidden
   have HC2 := hidden (HC1.out.on HB2.out)
   have HL2 := hidden (q3.on HB2.out)
   have HR2 := hidden (q2.on HB2.out)
   have HF2 : Hid (Cf (Bo b m) wr w2) := hidden (q1.go (Cf.of_below HB2.out))
   clear HT1 HC1 q1 q2 q3 HQ HTT HCU
   obtain ⟨c0, c1, c2, c3, c4, c5⟩ := HC2.out.cells
   have f2 := HC2.out.free 2
   have f3 := HC2.out.free 3
   have f82 := HC2.out.free 82
   go_wp2_with fail
   go_region
   obtain ⟨w3, hw3⟩ : ∃ w3, ((w2.setCell ⟨c, 2, none⟩ (iP a)).setCell ⟨c, 3, none⟩ (.int .i64 r)).drew = w3 := ⟨_, rfl⟩
   have HC3 : Hid (Cu w3 c b 5 (iP a) r 0 0) := hidden (by rw [← hw3]; exact (HC2.out.set2 (iP a)).set3 r)
   have HF3 : Hid (Cf (· = c) w2 w3) := hidden (by rw [← hw3]; exact ((Cf.set w2 c 2 (iP a)).go (Cf.set _ c 3 (.int .i64 r))).go (Cf.of_below (Below.refl _ _).drew))
   have hw3' : ((w2.setCell ⟨c, 2, none⟩ (.iface 99 (.pointer (some ⟨a, 0, none⟩)))).setCell ⟨c, 3, none⟩ (.int .i64 r)).drew = w3 := hw3
   rw [hw3']
   clear hw3 hw3' c0 c1 c2 c3 c4 c5 f2 f3 f82
   have hbc : ∀ k, wr.heap.size ≤ k → ¬ k = c := fun k h1 h2 => by have := HCL.out; omega
   have HC4 : Hid (Cu (w3.setCell ⟨c, 82, none⟩ (.int .i64 1)) c b 5 (iP a) r 1 0) := hidden (HC3.out.set82 1)
   have HF4 : Hid (Cf (· = c) w2 (w3.setCell ⟨c, 82, none⟩ (.int .i64 1))) := hidden (HF3.out.go (Cf.set w3 c 82 _))
   have HL4 : Hid (Lf (w3.setCell ⟨c, 82, none⟩ (.int .i64 1)) wr.heap.size a cs) := hidden (HL2.out.cf HF4.out hbc)
   have HD4 : Hid (Dn wr b m E0 E c r (rd + 1) cs (w3.setCell ⟨c, 82, none⟩ (.int .i64 1))) := hidden ⟨a, HC4.out, HL4.out, HR2.out.cf HF4.out (fun k hk => by rw [hk]; exact hE), (HF2.out.wd13 (fun k hk => .inl hk)).go (HF4.out.wd13 (fun k hk => .inr hk))⟩
   have HCH : Hid (Calls Tryz.prog 50 #[iP a, .int .i64 r] (w3.setCell ⟨c, 82, none⟩ (.int .i64 1)) fun e w' => e = .returned (.int .i64 0) ∧ w' = w3.setCell ⟨c, 82, none⟩ (.int .i64 1)) := hidden (by
    obtain ⟨_, vb, vs, hp⟩ := HL4.out
    exact child_leaf _ _ a vb vs cs r hp)
   obtain ⟨c0, c1, c2, c3, c4, c5⟩ := HC3.out.cells
   have f82 := HC3.out.free 82
   clear HC2 HL2 HR2 HF2 HC3 HF3 HC4 HF4 HL4
   go_wp2_with (first | (go_at_call 50; refine same_call HCH.out ?_))
   go_roundw
   case rel => exact .inr ⟨rfl, HD4⟩
   case measure => simp [intOf]
  ·go_wp2
   go_ret
   exact ⟨rfl, HD⟩
end Go.Proofs.YtjpmfgoodcldcaaGreatDoor
