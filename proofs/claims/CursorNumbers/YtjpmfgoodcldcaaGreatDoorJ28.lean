import Derived.Test.YtjpmfgoodcldcaaGreatDoorJ27
namespace Go.Proofs.YtjpmfgoodcldcaaGreatDoor
set_option maxRecDepth 100000
open Go.RowKit
theorem box_at (w : World) (v : Value) (t : TypeId) (n : Nat) (hn : w.heap.size = n) : (w.alloc (.cells #[v] t)).cell? ⟨n, 0, none⟩ = some v := by subst hn; simp
theorem cell_lt13 {w : World} {a : Addr} {v : Value} (h : w.cell? a = some v) : a.block < w.heap.size := by
 rcases Nat.lt_or_ge a.block w.heap.size with h' | h'
 ·exact h'
 ·simp [World.cell?, Array.getElem?_eq_none h'] at h
theorem box_go {w u : World} {p : Addr} {v : Value} (h : w.cell? p = some v) (hb : Below w.heap.size w u) : u.cell? p = some v := (hb.cell (cell_lt13 h)).trans h
theorem box_old {w : World} {p : Addr} {v : Value} (h : w.cell? p = some v) (o : Obj) : (w.alloc o).cell? p = some v := box_go h (bl_al (Below.refl _ _) (Nat.le_refl _) o)
theorem box_cf {w u : World} {p : Addr} {v : Value} {F : Nat → Prop} (h : w.cell? p = some v) (hc : Cf F w u) (hF : ¬ F p.block) : u.cell? p = some v := (World.cell?_of_block (hc.block _ (cell_lt13 h) hF)).trans h
def Sn13 (b m E0 E c : Nat) (r rd : Int) (cs : List Cl) (u : World) : Prop := ∃ a B, c < B ∧ Cu u c b 5 (iP a) r 1 0 ∧ Lf u B a cs ∧ R5 u b m E0 E rd cs ∧ E ≤ c
def S0 (b m E0 E c : Nat) (rd : Int) (cs : List Cl) (u : World) : Prop := Cu u c b 5 .nilIface 0 0 0 ∧ R5 u b m E0 E rd cs ∧ E ≤ c
theorem Sn13.on {b m E0 E c : Nat} {r rd : Int} {cs : List Cl} {u v : World} (h : Sn13 b m E0 E c r rd cs u) (hb : Below u.heap.size u v) : Sn13 b m E0 E c r rd cs v := by
 obtain ⟨a, B, h1, h2, h3, h4, h5⟩ := h
 exact ⟨a, B, h1, h2.on hb, h3.on hb, h4.on hb, h5⟩
theorem S0.on {b m E0 E c : Nat} {rd : Int} {cs : List Cl} {u v : World} (h : S0 b m E0 E c rd cs u) (hb : Below u.heap.size u v) : S0 b m E0 E c rd cs v := ⟨h.1.on hb, h.2.1.on hb, h.2.2⟩
abbrev Bc13 (b m c : Nat) (k : Nat) : Prop := Bo b m k ∨ k = c
theorem Dn.sn {w u v : World} {b m E0 E c : Nat} {r rd : Int} {cs : List Cl} (h : Dn w b m E0 E c r rd cs u) (hc : c < w.heap.size) (hE : E ≤ c) (hv : ∀ a, Cu u c b 5 (iP a) r 1 0 → Cu v c b 5 (iP a) r 1 0) (hf : Cf (· = c) u v) : Sn13 b m E0 E c r rd cs v ∧ Cf (Bc13 b m c) w v := by
 obtain ⟨a, h1, h2, h3, h4⟩ := h
 exact ⟨⟨a, _, hc, hv a h1, h2.cf hf (fun k hk e => by omega), h3.cf hf (fun k hk => by omega), hE⟩, h4.go (hf.wd13 (fun k hk => .inr hk))⟩
theorem toward_s (u : World) (kb a B : Nat) (cs : List Cl) (hl : Lf u B a cs) (g : Gd1 cs) (ko : Option Addr) (kn kc : Nat) (q : List Int) (hk : u.cell? ⟨kb, 0, none⟩ = some (.slice ko kn kc)) (hq : Sl u ko kn kc q) (r : Nat) (hf : Fnd cs q r) :
  Calls Tryz.prog 29 #[iP a, pB kb] u fun e u' => e = .returned (.int .i64 (r : Int)) ∧ Hid (Below u.heap.size u u') := by
 have HT : Hid (Calls Tryz.prog 30 #[iP a, .slice ko kn kc] u fun e w' => ∃ r : Nat, e = .returned (.int .i64 (r : Int)) ∧ Hid (Fnd cs q r) ∧ Hid (Below u.heap.size u w')) := hidden (by
  obtain ⟨_, vb, vs, hp⟩ := hl
  exact toward_leaf u B a vb vs cs hp g ko kn kc q hq)
 have HF := hidden hf
 clear hl g hq hf
 go_enter Tryz.func29, Tryz.ntmps29
 go_wp2_with (first | (go_at_call 30; refine HT.out.mono ?_; rintro e w1 ⟨s, rfl, HS, HB⟩))
 go_ret
 have e : s = r := HS.out.one HF.out
 exact ⟨by subst e; rfl, HB⟩
theorem turn_l (u : World) (a B : Nat) (cs : List Cl) (hl : Lf u B a cs) (hn : cs.length < 100000) : Calls Tryz.prog 53 #[iP a] u fun e u' => e = .returned (.int .i64 ((cs.length : Int) - 1)) ∧ Hid (Below u.heap.size u u') := by
 have HL := hidden (len_if hl)
 have hnI : (cs.length : Int) < 100000 := by omega
 clear hl
 go_enter Tryz.func53, Tryz.ntmps53
 go_wp2_with (first | (go_at_call 80; refine same_call HL.out ?_))
 go_ret
 exact ⟨by go_num, hidden (Below.refl _ _)⟩
theorem downLast_0 (c : Nat) (w : World) : Calls Tryz.prog 41 #[pB c, .int .i64 0] w fun e u => e = .returned (.int .i64 0) ∧ u = w := by
 go_enter Tryz.func41, Tryz.ntmps41
 go_wp2_with (first | (go_at_call 33; refine same_call (down_0 _ _ _) ?_))
 go_ret
 exact ⟨rfl, rfl⟩
section
variable {w : World} {c b m E0 E : Nat} {rd : Int} {cs : List Cl}
theorem downLast_5 (h : S0 b m E0 E c rd cs w) (g : Gd1 cs) (hn : 0 < cs.length) (hrd : rd < 4611686018427387904) (hr0 : 0 ≤ rd) (hln : cs.length < 100000) :
  Calls Tryz.prog 41 #[pB c, .int .i64 5] w fun e u => e = .returned (.int .i64 0) ∧ Hid (Dn w b m E0 E c ((cs.length : Int) - 1) (rd + 1) cs u) := by
 have HD := hidden (down_5l h.1 h.2.1 h.2.2 g hn hrd hr0 (fun u a _ hl => turn_l u a _ cs hl hln))
 clear h g hn hrd hr0 hln
 go_enter Tryz.func41, Tryz.ntmps41
 go_wp2_with (first | (go_at_call 33; refine HD.out.mono ?_; rintro e u ⟨rfl, HQ⟩))
 go_ret
 exact ⟨rfl, HQ⟩
theorem seek2_5 {p2 p5 kb : Nat} {ko : Option Addr} {kn kc : Nat} {q : List Int} {r : Nat} (h : S0 b m E0 E c rd cs w) (g : Gd1 cs) (hn : 0 < cs.length) (hrd : rd < 4611686018427387904) (hr0 : 0 ≤ rd)
  (h2 : w.cell? ⟨p2, 0, none⟩ = some (pB c)) (h5 : w.cell? ⟨p5, 0, none⟩ = some (.func (.func 29) #[] #[pB kb])) (hk : w.cell? ⟨kb, 0, none⟩ = some (.slice ko kn kc)) (hkb : ¬ Bo b m kb) (hq : Sl w ko kn kc q) (hqb : kn = 0 ∨ ∀ p, ko = some p → ¬ Bo b m p.block) (hf : Fnd cs q r) :
  Calls Tryz.prog 32 #[.int .i64 5, pB p2, pB p5] w fun e u => e = .returned (.int .i64 0) ∧ Hid (Dn w b m E0 E c (r : Int) (rd + 1) cs u) := by
 have HD := hidden (down_5s (kb := kb) h.1 h.2.1 h.2.2 g hn hrd hr0 (fun u a hc hl => toward_s u kb a _ cs hl g ko kn kc q (box_cf hk hc hkb) (hq.cf hc hqb) r hf))
 clear h g hn hrd hr0 hk hkb hq hqb hf
 go_enter Tryz.func32, Tryz.ntmps32
 go_wp2_with (first | (go_at_call 33; refine HD.out.mono ?_; rintro e u ⟨rfl, HQ⟩))
 go_ret
 exact ⟨rfl, HQ⟩
theorem anew_s {p2 p5 : Nat} {r : Int} (h : S0 b m E0 E c rd cs w) (HS : Calls Tryz.prog 32 #[.int .i64 5, pB p2, pB p5] w fun e u => e = .returned (.int .i64 0) ∧ Hid (Dn w b m E0 E c r (rd + 1) cs u)) :
  Calls Tryz.prog 31 #[pB c, .func (.func 32) #[] #[pB p2, pB p5]] w fun e u => e = .returned (.bool true) ∧ Hid (Sn13 b m E0 E c r (rd + 1) cs u ∧ Cf (Bc13 b m c) w u) := by
 have HL := hidden (leave_0 h.1)
 have HH := hidden HS
 have HE := hidden (And.intro h.1.lt h.2.2)
 obtain ⟨c0, c1, c2, c3, c4, c5⟩ := h.1.cells
 clear h HS
 go_enter Tryz.func31, Tryz.ntmps31
 go_wp2_with (first | (go_at_call 47; refine same_call HL.out ?_) | (go_at_call 32; refine HH.out.mono ?_; rintro e w1 ⟨rfl, HQ⟩; refine Hid.out ?_))
 apply hidden
 obtain ⟨a, q1, q2, q3, q4⟩ := HQ.out
 have HST := hidden (stand_1 q1)
 clear HL HH c0 c1 c2 c3 c4 c5 q2 q3 q4
 go_wp2_with (first | (go_at_call 48; refine HST.out.mono ?_; rintro e w2 ⟨rfl, HR⟩))
 go_ret
 refine ⟨rfl, hidden (HQ.out.sn HE.out.1 HE.out.2 (fun a' h' => ?_) HR.out.2)⟩
 have e : a' = a := by
  have h1 := h'.cells.2.2.1
  rw [q1.cells.2.2.1] at h1
  injection h1 with h1
  injection h1 with _ h2
  injection h2 with h3
  injection h3 with h4
  injection h4 with h5
  exact h5.symm
 rw [e]
 exact HR.out.1
theorem anew_l  {r : Int} (h : S0 b m E0 E c rd cs w) (HS : Calls Tryz.prog 41 #[pB c, .int .i64 5] w fun e u => e = .returned (.int .i64 0) ∧ Hid (Dn w b m E0 E c r (rd + 1) cs u)) :
  Calls Tryz.prog 31 #[pB c, .func (.func 41) #[pB c] #[]] w fun e u => e = .returned (.bool true) ∧ Hid (Sn13 b m E0 E c r (rd + 1) cs u ∧ Cf (Bc13 b m c) w u) := by
 have HL := hidden (leave_0 h.1)
 have HH := hidden HS
 have HE := hidden (And.intro h.1.lt h.2.2)
 obtain ⟨c0, c1, c2, c3, c4, c5⟩ := h.1.cells
 clear h HS
 go_enter Tryz.func31, Tryz.ntmps31
 go_wp2_with (first | (go_at_call 47; refine same_call HL.out ?_) | (go_at_call 41; refine HH.out.mono ?_; rintro e w1 ⟨rfl, HQ⟩; refine Hid.out ?_))
 apply hidden
 obtain ⟨a, q1, q2, q3, q4⟩ := HQ.out
 have HST := hidden (stand_1 q1)
 clear HL HH c0 c1 c2 c3 c4 c5 q2 q3 q4
 go_wp2_with (first | (go_at_call 48; refine HST.out.mono ?_; rintro e w2 ⟨rfl, HR⟩))
 go_ret
 refine ⟨rfl, hidden (HQ.out.sn HE.out.1 HE.out.2 (fun a' h' => ?_) HR.out.2)⟩
 have e : a' = a := by
  have h1 := h'.cells.2.2.1
  rw [q1.cells.2.2.1] at h1
  injection h1 with h1
  injection h1 with _ h2
  injection h2 with h3
  injection h3 with h4
  injection h4 with h5
  exact h5.symm
 rw [e]
 exact HR.out.1
theorem last_5 (h : S0 b m E0 E c rd cs w) (g : Gd1 cs) (hn : 0 < cs.length) (hrd : rd < 4611686018427387904) (hr0 : 0 ≤ rd) (hln : cs.length < 100000) :
  Calls Tryz.prog 39 #[pB c] w fun e u => e = .returned (.bool true) ∧ Hid (Sn13 b m E0 E c ((cs.length : Int) - 1) (rd + 1) cs u ∧ Cf (Bc13 b m c) w u) := by
 have HA := hidden (anew_l h (downLast_5 h g hn hrd hr0 hln))
 clear h g hn hrd hr0 hln
 go_enter Tryz.func39, Tryz.ntmps39
 go_wp2_with (first | (go_at_call 31; refine HA.out.mono ?_; rintro e u ⟨rfl, HQ⟩))
 go_ret
 exact ⟨rfl, HQ⟩
set_option maxHeartbeats 1000000 in
theorem seek_5 {ko : Option Addr} {kn kc : Nat} {q : List Int} {r : Nat} (h : S0 b m E0 E c rd cs w) (g : Gd1 cs) (hrd : rd < 4611686018427387904) (hr0 : 0 ≤ rd) (hq : Sl w ko kn kc q) (hqb : kn = 0 ∨ ∀ p, ko = some p → ¬ Bo b m p.block) (hf : Fnd cs q r) (hrl : r < cs.length) (hln : cs.length < 100000) :
  Calls Tryz.prog 11 #[pB c, .slice ko kn kc] w fun e u => e = .returned (.bool true) ∧ Hid (Sn13 b m E0 E c (r : Int) (rd + 1) cs u ∧ Cf (Bc13 b m c) w u) := by
 have HA : Hid (∀ x p2 p5 kb, Below w.heap.size w x → x.cell? ⟨p2, 0, none⟩ = some (pB c) → x.cell? ⟨p5, 0, none⟩ = some (.func (.func 29) #[] #[pB kb]) → x.cell? ⟨kb, 0, none⟩ = some (.slice ko kn kc) → w.heap.size ≤ kb →
   Calls Tryz.prog 31 #[pB c, .func (.func 32) #[] #[pB p2, pB p5]] x fun e u => e = .returned (.bool true) ∧ Hid (Sn13 b m E0 E c (r : Int) (rd + 1) cs u ∧ Cf (Bc13 b m c) x u)) :=
  hidden fun x p2 p5 kb hb h2 h5 hk hkb => anew_s (h.on hb) (seek2_5 (h.on hb) g (by omega) hrd hr0 h2 h5 hk (by have := h.2.1.bm; have := h.2.2; have := h.1.lt; rintro (e | e) <;> omega) (hq.on (Nat.le_refl _) hb) hqb hf)
 have HE := hidden (And.intro h.2.1.bm (And.intro h.1.lt h.2.2))
 have hrI : (r : Int) < (cs.length : Int) := by omega
 clear h g hrd hr0 hq hqb hf
 go_enter Tryz.func11, Tryz.ntmps11
 go_wp2_with (first | (go_at_call 31; refine Hid.out ?_))
 apply hidden
 refine (HA.out _ _ _ (w.heap.size + 1) (bl_al (bl_al (bl_al (Below.refl _ _) (Nat.le_refl _) _) (Nat.le_refl _) _) (Nat.le_refl _) _) (box_old (box_old (box_at _ _ _ _ rfl) _) _) (box_at _ _ _ _ (by simp)) (box_old (box_at _ _ _ _ (by simp)) _) (by omega)).mono ?_
 rintro e w2 ⟨rfl, HQ⟩
 have hcf : Cf (Bc13 b m c) w w2 := Cf.go (Cf.of_below (bl_al (bl_al (bl_al (Below.refl _ _) (Nat.le_refl _) _) (Nat.le_refl _) _) (Nat.le_refl _) _)) HQ.out.2
 have hp2 : w2.cell? ⟨w.heap.size, 0, none⟩ = some (pB c) := box_cf (box_old (box_old (box_at w (pB c) _ _ rfl) _) _) HQ.out.2 (by
  obtain ⟨⟨h1, h2, h3, h4⟩, h5, h6⟩ := HE.out
  rintro ((e | e) | e) <;> simp only at e <;> omega)
 have HC := hidden hcf
 obtain ⟨a, B, g1, g2, g3, g4, g5⟩ := HQ.out.1
 have HSN := hidden HQ.out.1
 have HEN := hidden (end_1 g2)
 have HTH : Hid (∀ q, Calls Tryz.prog 35 #[.pointer (some ⟨c, 2, none⟩)] (w2.drewN q) fun e u => e = .returned (.bool true) ∧ ∃ q', u = (w2.drewN q).drewN q') := hidden fun q => isThere_any (g2.drewN q) (g3.on (bl_dr (Below.refl _ _) q)) true (by simp [hrI])
 clear HA HQ hcf g1 g2 g3 g4 g5
 go_wp2_with (first | (go_at_call 34; refine HEN.out.mono ?_; rintro e w3 ⟨rfl, q3, rfl⟩) | (go_at_call 35; refine (HTH.out _).mono ?_; rintro e w4 ⟨rfl, q4, rfl⟩))
 go_ret
 exact ⟨rfl, hidden ⟨HSN.out.on (bl_dr (Below.refl _ _) _), HC.out.go (Cf.drew _ _ _)⟩⟩
end
end Go.Proofs.YtjpmfgoodcldcaaGreatDoor
