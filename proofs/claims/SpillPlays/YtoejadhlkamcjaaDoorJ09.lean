import Derived.Test.YtoejadhlkamcjaaDoorJ08
namespace Go.Proofs.YtoejadhlkamcjaaDoor
set_option maxRecDepth 100000
open Go.RowKit Go.Maps
def IV (l : List Int) : List Value := l.map (Value.int .i64)
theorem info64 : (Tryd.prog.info? 3).map (fun i => (i.zero, i.size, i.bytes)) = some (some (.int .i64 0), 1, 8) := by kernel_rfl
def OwnJ (w : World) (B : Nat) (v : Value) (l : List Int) : Prop := w.ownsRow B 3 1 v l.length (IV l)
theorem OwnJ.nil (w : World) (B : Nat) : OwnJ w B (.slice none 0 0) [] := World.ownsRow_nil w B 3 1
theorem OwnJ.gr {w w' : World} {B : Nat} {v : Value} {l : List Int} {u u' : Value} (h : OwnJ w B v l) (hg : Gr w u w' u') (hne : v.ownBlock = none ∨ v.ownBlock ≠ u.ownBlock) : OwnJ w' B v l := World.ownsRow.kept h hg.grow hne
theorem OwnJ.below {w w' : World} {B : Nat} {v : Value} {l : List Int} (h : OwnJ w B v l) (hb : Below w.heap.size w w') : OwnJ w' B v l := h.gr (Gr.ofBelow (.slice none 0 0) hb) (by
 cases hv : v.ownBlock with
 | none => exact .inl rfl
 | some k => exact .inr (by simp [Value.ownBlock]))
theorem OwnJ.cf {w w' : World} {B : Nat} {v : Value} {l : List Int} {F : Nat → Prop} (h : OwnJ w B v l) (hc : Cf F w w') (hf : ∀ k, v.ownBlock = some k → ¬ F k) : OwnJ w' B v l := by
 unfold OwnJ at *
 rcases h.2 with h2 | ⟨g, cap, cur, e, hg, hh, rest⟩
 ·exact ⟨h.1, .inl h2⟩
 ·refine ⟨h.1, .inr ⟨g, cap, cur, e, hg, ?_, rest⟩⟩
  rw [hc.block g (lt_some hh) (hf g (by rw [e]; rfl))]
  exact hh
theorem OwnJ.lt {w : World} {B : Nat} {v : Value} {l : List Int} (h : OwnJ w B v l) {k : Nat} (hk : v.ownBlock = some k) : B ≤ k ∧ k < w.heap.size := by
 unfold OwnJ at h
 exact h.lt k hk
structure SlJ (w : World) (ao : Option Addr) (n cap : Nat) (l : List Int) : Prop where
 hlen : l.length = n
 hcap : n ≤ cap
 hat : n = 0 ∨ ∃ b, ao = some ⟨b, 0, none⟩ ∧ b < w.heap.size ∧ ∀ i, i < n → w.cell? ⟨b, i, none⟩ = some (.int .i64 (l.getD i 0))
theorem OwnJ.sl {w : World} {B : Nat} {v : Value} {l : List Int} (h' : OwnJ w B v l) : ∃ ao cap, v = .slice ao l.length cap ∧ SlJ w ao l.length cap l := by
 obtain ⟨n, hl⟩ : ∃ n, l.length = n := ⟨_, rfl⟩
 have h : w.ownsRow B 3 1 v n (IV l) := by rw [← hl]; exact h'
 rw [hl]
 rcases h.2 with ⟨rfl, rfl⟩ | ⟨g, cap, cur, rfl, hg, hh, hnc, hm, hs, ht⟩
 ·exact ⟨none, 0, rfl, hl, Nat.le_refl _, .inl rfl⟩
 ·refine ⟨some ⟨g, 0, none⟩, cap, rfl, hl, hnc, .inr ⟨g, rfl, lt_some hh, ?_⟩⟩
  intro i hi
  have := h.cellAt i (by omega)
  rw [this]
  simp [IV, List.getD, List.getElem?_eq_getElem (show i < l.length by omega)]
theorem app_j {ops : Array Oper} {rest : List Oper} {o : Oper} {a : Act} {Q : Exit → Act → World → Prop} (w : World) (hgd : o.guard = none) (s x : Operand)
  (ho : o.op = .call { callee := .builtin .append, args := #[s, x], argTypes := #[27, 27] }) (B : Nat) (l : List Int) (y : Int) (v : Value) (g : Nat) (hs : a.eval s = v) (hx : a.eval x = .slice (some ⟨g, 0, none⟩) 1 1)
  (hown : OwnJ w B v l) (hy : w.cell? ⟨g, 0, none⟩ = some (.int .i64 y)) (hb : l.length + 1 ≤ 4000000) (hbase : B ≤ w.heap.size)
  (h : ∀ v' w', OwnJ w' B v' (l ++ [y]) → Gr w v w' v' → wpList Tryd.prog ops Q rest (a.put o.dst v') w') : wpList Tryd.prog ops Q (o :: rest) a w := by
 obtain ⟨i0, hi, hz0, hz1, hz2⟩ := info_parts info64
 refine wpList_append_own_at w hgd s x 27 ho B 3 i0 (.int .i64 0) 1 8 Tryd.underlying27 hi hz0 hz1 hz2 rfl (by decide) v l.length (IV l) hs hown ⟨g, 0, none⟩ 1 1 (IV [y]) hx rfl
  (fun j u hu => by
   have hj : j = 0 := by
    have := (List.getElem?_eq_some_iff.1 hu).1
    simp [IV] at this
    omega
   subst hj
   simp [IV] at hu
   rw [← hu]
   simpa [Addr.add] using hy) (by simp [IV, Value.oneCell']) (by unfold maxLen; omega) (by omega) hbase ?_
 intro v' w' h1 h2 _ h4
 refine h v' w' ?_ ⟨h2, h4.imp id fun e => ⟨_, e, Nat.le_refl _⟩⟩
 unfold OwnJ
 rw [show IV (l ++ [y]) = IV l ++ IV [y] from by simp [IV], List.length_append]
 exact h1
theorem wf64 (k : Int) (h0 : -9223372036854775808 ≤ k) (h1 : k ≤ 9223372036854775807) : (Lit.int .i64 k).wf = true := by
 have e1 : IntKind.i64.min = -9223372036854775808 := by rfl
 have e2 : IntKind.i64.max = 9223372036854775807 := by rfl
 simp [Lit.wf, e1, e2]
 omega
def tkL (M : Int → Option Pf) : Nat → List Int
 | 0 => []
 | j + 1 => tkL M j ++ (if (M ((j : Int) + 2)).isSome then [(j : Int) + 2] else [])
theorem tkL_length (M : Int → Option Pf) : ∀ j, (tkL M j).length ≤ j
 | 0 => Nat.le_refl _
 | j + 1 => by
  have := tkL_length M j
  unfold tkL
  split <;> simp <;> omega
set_option maxHeartbeats 1000000 in
theorem taken_list {w : World} {b m : Nat} {en pg ps rd : Int} {M : Int → Option Pf} {ct : Nat} (h : Bn w b m en pg ps rd M ct) (h1 : 2 ≤ ps) (h2 : ps ≤ 65536) :
  Calls Tryd.prog 8 #[pB b] w fun e u => ∃ v, e = .returned v ∧ Hid (OwnJ u w.heap.size v (tkL M (ps - 2).toNat)) ∧ Hid (Below w.heap.size w u) := by
 have HB := hidden h
 obtain ⟨T, hT⟩ : ∃ T : Nat, ps = (T : Int) + 2 := ⟨(ps - 2).toNat, by omega⟩
 have hTt : (ps - 2).toNat = T := by omega
 rw [hTt]
 have hT2 : (T : Int) ≤ 65534 := by omega
 clear h hTt
 go_enter Tryd.func8, Tryd.ntmps8
 go_wp2_with fail
 go_loopw [3, 4] (fun v i wr => ∃ j : Nat, j ≤ T ∧ i = .int .i64 ((j : Int) + 2) ∧ Hid (OwnJ wr w.heap.size v (tkL M j)) ∧ Hid (Below w.heap.size w wr)) (fun _ i _ => T + 2 - (intOf i).toNat)
 case atStart => exact ⟨0, by omega, rfl, hidden (OwnJ.nil _ _), hidden (Below.refl _ _)⟩
 case round =>
  obtain ⟨j, hj, rfl, HO, HW⟩ := hrel
  have HBR := hidden (HB.out.on HW.out)
  obtain ⟨c0, c1, c2, c3, c4, f4⟩ := HBR.out.cells
  by_cases hlt : j < T
  ·have hltI : (j : Int) + 2 < ps := by omega
   have hwf : (Lit.int .i64 ((j : Int) + 2)).wf = true := wf64 _ (by omega) (by omega)
   rcases HBR.out.look ((j : Int) + 2) hwf with ⟨hM, hlk⟩ | ⟨f, hM, hlk⟩
   ·have HT1 : Hid (tkL M (j + 1) = tkL M j) := hidden (by simp [tkL, hM])
    clear hM
    go_wp2
    go_roundw
    case rel => exact ⟨j + 1, by omega, by go_num, by rw [HT1.out]; exact HO, HW⟩
    case measure => simp [intOf]; omega
   ·have HT1 : Hid (tkL M (j + 1) = tkL M j ++ [(j : Int) + 2]) := hidden (by simp [tkL, hM])
    have hlen := tkL_length M j
    obtain ⟨x, hx⟩ : ∃ x, wr.alloc (.cells #[.int .i64 ((j : Int) + 2)] 3) = x := ⟨_, rfl⟩
    have hbx : Below wr.heap.size wr x := by rw [← hx]; exact bl_al (Below.refl _ _) (Nat.le_refl _) _
    have hcx : x.cell? ⟨wr.heap.size, 0, none⟩ = some (.int .i64 ((j : Int) + 2)) := by rw [← hx]; simp
    have HOX := hidden (HO.out.below hbx)
    have hxs : w.heap.size ≤ x.heap.size := Nat.le_trans HW.out.size hbx.size
    have HBX := hidden (bl_go HW.out (Nat.le_refl _) hbx)
    unfold pfV at hlk
    clear hM hbx
    go_wp2_with (at_builtin; refine app_j _ rfl _ _ rfl w.heap.size (tkL M j) ((j : Int) + 2) _ wr.heap.size rfl rfl HOX.out hcx (by omega) hxs ?_; refine Hid.out ?_)
    apply hidden
    intro v' w' ho hg
    have HO2 : Hid (OwnJ w' w.heap.size v' (tkL M (j + 1))) := hidden (by rw [HT1.out]; exact ho)
    have HW2 : Hid (Below w.heap.size w w') := hidden (HBX.out.trans (own_below HOX.out hxs hg.grow))
    clear ho hg hx hcx
    go_wp2
    go_roundw
    case rel => exact ⟨j + 1, by omega, by go_num, HO2, HW2⟩
    case measure => simp [intOf]; omega
  ·obtain rfl : j = T := by omega
   have hq : ¬ (j : Int) + 2 < ps := by omega
   go_wp2
   go_ret
   exact ⟨_, rfl, HO, HW⟩
set_option maxHeartbeats 1000000 in
theorem alloc_yes {w : World} {b m : Nat} {en pg ps rd : Int} {M : Int → Option Pf} {ct : Nat} (h : Bn w b m en pg ps rd M ct) (hp : pw pg) (h2 : ps ≤ 65536) (a : Int) (ha : 2 ≤ a) (hap : a < ps) (hM : M a = none) (hall : ∀ k, 2 ≤ k → k < a → (M k).isSome = true) (hct : ct < 1000000) :
  Calls Tryd.prog 62 #[pB b] w fun e u => e = .returned (.tuple #[.int .i64 a, .int .i64 0]) ∧ Hid (∃ f : Pf, f.l = zs pg.toNat ∧ w.heap.size ≤ f.g ∧ Bn u b m en pg ps rd (putM M a f) (ct + 1) ∧ Cf (· = m) w u) := by
 have HB := hidden h
 have hpl := pw_le hp
 obtain ⟨c0, c1, c2, c3, c4, f4⟩ := h.cells
 have HA := hidden hall
 have HM := hidden hM
 clear h hp hall
 go_enter Tryd.func62, Tryd.ntmps62
 go_wp2_with fail
 go_loop [4] (fun i => ∃ j : Int, 2 ≤ j ∧ j ≤ a ∧ i = .int .i64 j) (fun i => (a - intOf i).toNat)
 case atStart => exact ⟨2, by omega, by omega, rfl⟩
 case round =>
  obtain ⟨j, hj2, hja, rfl⟩ := hrel
  have hjp : j < ps := by omega
  by_cases hlt : j < a
  ·rcases HB.out.look j (wf64 _ (by omega) (by omega)) with ⟨hM', hlk⟩ | ⟨f, hM', hlk⟩
   ·have := HA.out j hj2 hlt
    rw [hM'] at this
    cases this
   ·unfold pfV at hlk
    clear hM' hM
    go_wp2
    go_round
    case rel => exact ⟨j + 1, by omega, by omega, by go_num⟩
    case measure => simp [intOf]; omega
  ·obtain rfl : j = a := by omega
   rcases HB.out.look j (wf64 _ (by omega) (by omega)) with ⟨_, hlk⟩ | ⟨f, hM', hlk⟩
   ·obtain ⟨P, rfl⟩ : ∃ P : Nat, pg = P := ⟨pg.toNat, by omega⟩
    have hmk := made_full P (by omega)
    obtain ⟨y, hy⟩ : ∃ y, (w.drew).alloc (.cells (madeCells #[.int .u8 0] P) 5) = y := ⟨_, rfl⟩
    have hwy : Below w.heap.size w y := by rw [← hy]; exact bl_al (Below.refl _ w).drew (Nat.le_refl _) _
    have HBY := hidden (HB.out.on hwy)
    have hk : Bk y w.heap.size (zs P) := by rw [← hy]; exact made_zs w.drew P
    have hs := hk.sl (zs_length P) (zs_wf P) (by omega)
    have l1 := HB.out.lt
    have l2 := HB.out.mlt
    obtain ⟨u2, hst, hb2, hc2⟩ := HBY.out.store j (wf64 _ (by omega) (by omega)) ⟨w.heap.size, P, zs P⟩ (by simpa [zs_length] using hs) (by show w.heap.size ≠ b; omega) (by show w.heap.size ≠ m; omega) hct
    rw [HM.out] at hb2
    have HX : Hid (∃ f : Pf, f.l = zs P ∧ w.heap.size ≤ f.g ∧ Bn u2 b m en (P : Int) ps rd (putM M j f) (ct + 1) ∧ Cf (· = m) w u2) := hidden ⟨⟨w.heap.size, P, zs P⟩, rfl, Nat.le_refl _, hb2, (Cf.of_below hwy).go hc2⟩
    have c3y := HBY.out.cells.c3
    have c1y := HBY.out.cells.c1
    unfold pfV at hst
    simp only [zs_length] at hst
    have hPI : (P : Int) ≤ 65536 := by omega
    clear hb2 hc2 hs hk hM hwy
    go_wp2_with fail
    go_region_law (fail)
    all_goals
     clear hst hmk
     go_wp2
     go_ret2
     exact ⟨rfl, HX⟩
   ·rw [HM.out] at hM'
    cases hM'
end Go.Proofs.YtoejadhlkamcjaaDoor

namespace Go.Proofs.YtoejadhlkamcjaaDoor
set_option maxRecDepth 100000
open Go.RowKit Go.Maps
def pgN (p n : Int) : Int := if ¬ pw p ∨ n < 1 then 0 else (n - 1) / (p - 16) + 1
theorem pgN_pos {p n : Int} (hp : pw p) (hn : 1 ≤ n) : pgN p n = (n - 1) / (p - 16) + 1 := by unfold pgN; rw [if_neg (by simp [hp]; omega)]
theorem pages_any (p n : Int) (hn : n ≤ 9223372036854775807) (w : World) : Calls Tryd.prog 18 #[.int .i64 p, .int .i64 n] w fun e u => e = .returned (.int .i64 (pgN p n)) ∧ u = w := by
 have HI := fun u => isSize_any p u
 by_cases hp : pw p
 ·have e1 : decide (pw p) = true := by simpa using hp
  have hpl := pw_le hp
  by_cases h1 : n < 1
  ·have he : pgN p n = 0 := by unfold pgN; rw [if_pos (.inr h1)]
   rw [he]
   have h2 : decide (n < 1) = true := by simpa using h1
   clear hp
   go_enter Tryd.func18, Tryd.ntmps18
   go_wp2_with (first | (go_at_call 37; refine same_call (HI _) ?_; rw [e1]))
   go_ret
   exact ⟨rfl, rfl⟩
  ·have he := pgN_pos hp (show 1 ≤ n by omega)
   rw [he]
   have h2 : decide (n < 1) = false := by simpa using h1
   have HH := fun u => hold_any p u (by omega) (by omega)
   obtain ⟨q, hq⟩ : ∃ q : Nat, n - 1 = (q : Int) := ⟨(n - 1).toNat, by omega⟩
   obtain ⟨h, hh⟩ : ∃ h : Nat, p - 16 = (h : Int) := ⟨(p - 16).toNat, by omega⟩
   have hdv : (q : Int) / (h : Int) ≤ (q : Int) := Int.ediv_le_self _ (by omega)
   have hdp : 0 ≤ (q : Int) / (h : Int) := Int.ediv_nonneg (by omega) (by omega)
   have htd : Int.tdiv (q : Int) (h : Int) = (q : Int) / (h : Int) := Int.tdiv_eq_ediv_of_nonneg (by omega)
   rw [hq, hh]
   have hh0 : ¬ (h : Int) = 0 := by omega
   have hh1 : ¬ h = 0 := by omega
   have hh2 : ((h : Int) == 0) = false := by rw [beq_eq_false_iff_ne]; exact hh0
   rw [hh] at HH
   have HQ := hidden hq
   obtain ⟨z, hz⟩ : ∃ z, (q : Int) / (h : Int) = z := ⟨_, rfl⟩
   rw [hz] at hdv hdp htd ⊢
   have hwz : IntKind.i64.wrap (z + 1) = z + 1 := by rw [IntKind.wrap_i64]; omega
   have hwz2 : IntKind.i64.wrap z = z := by rw [IntKind.wrap_i64]; omega
   clear hp he hh
   go_enter Tryd.func18, Tryd.ntmps18
   go_wp2_with (first
    | (go_at_call 37; refine same_call (HI _) ?_; rw [e1])
    | (go_at_call 39; refine same_call (HH _) ?_))
   go_ret
   exact ⟨rfl, rfl⟩
 ·have e1 : decide (pw p) = false := by simpa using hp
  have he : pgN p n = 0 := by unfold pgN; rw [if_pos (.inl hp)]
  rw [he]
  clear hp
  go_enter Tryd.func18, Tryd.ntmps18
  go_wp2_with (first | (go_at_call 37; refine same_call (HI _) ?_; rw [e1]))
  go_ret
  exact ⟨rfl, rfl⟩
theorem share_any (p n : Int) (hp : 0 ≤ p) (hp2 : p ≤ 65536) (w : World) : Calls Tryd.prog 55 #[.int .i64 p, .int .i64 n] w fun e u => e = .returned (.int .i64 (min (p - 16) n)) ∧ u = w := by
 have HH := fun u => hold_any p u hp hp2
 go_enter Tryd.func55, Tryd.ntmps55
 go_wp2_with (first | (go_at_call 39; refine same_call (HH _) ?_))
 go_ret
 exact ⟨ret_int (by omega), rfl⟩
abbrev iB (b : Nat) : Value := .iface 25 (pB b)
theorem pgN_gt (p n : Int) : decide (0 < pgN p n) = decide (pw p ∧ 1 ≤ n) := by
 rw [decide_eq_decide]
 unfold pgN
 split
 ·rename_i h
  constructor
  ·omega
  ·rintro ⟨h1, h2⟩
   rcases h with h | h
   ·exact absurd h1 h
   ·omega
 ·rename_i h
  rw [not_or, Decidable.not_not] at h
  have := pw_le h.1
  have : 0 ≤ (n - 1) / (p - 16) := Int.ediv_nonneg (by omega) (by omega)
  constructor
  ·intro _
   exact ⟨h.1, by omega⟩
  ·intro _
   omega
theorem mayLie_any {w : World} {b m : Nat} {en pg ps rd : Int} {M : Int → Option Pf} {ct : Nat} (h : Bn w b m en pg ps rd M ct) (hp : pw pg) (n : Int) :
  Calls Tryd.prog 32 #[iB b, .int .i64 n] w fun e u => e = .returned (.bool (decide (1 ≤ n ∧ n ≤ 65536))) ∧ u = w := by
 have HS := hidden (size_any h)
 by_cases hn : n ≤ 65536
 ·have HP := fun u => pages_any pg n (by omega) u
  have hd : decide (n ≤ 65536) = true := by simpa using hn
  have hg : decide (0 < pgN pg n) = decide (1 ≤ n ∧ n ≤ 65536) := by
   rw [pgN_gt, decide_eq_decide]
   constructor
   ·rintro ⟨_, h⟩
    exact ⟨h, hn⟩
   ·rintro ⟨h, _⟩
    exact ⟨hp, h⟩
  rw [← hg]
  clear h hp hg
  generalize pgN pg n = z at *
  go_enter Tryd.func32, Tryd.ntmps32
  go_wp2_with (first
   | (go_at_call 49; refine same_call HS.out ?_)
   | (go_at_call 18; refine same_call (HP _) ?_))
  go_ret
  exact ⟨rfl, rfl⟩
 ·have hd : decide (n ≤ 65536) = false := by simpa using hn
  have he : decide (1 ≤ n ∧ n ≤ 65536) = false := by simp; omega
  rw [he]
  clear h hp
  go_enter Tryd.func32, Tryd.ntmps32
  go_wp2
  go_ret
  exact ⟨rfl, rfl⟩
def ldM (M : Int → Option Pf) (pg : Int) (n : Int) : Int ⊕ (Int × List Int) :=
 match M n with
 | none => .inl 30
 | some f => if (f.l.length : Int) ≠ pg then .inl 60 else match spD f.l with
  | none => .inl 60
  | some x => .inr x
def isM (M : Int → Option Pf) (n : Int) : Int := if (M n).isSome then 1 else 0
set_option maxHeartbeats 1000000 in
theorem load_any {w : World} {b m : Nat} {en pg ps rd : Int} {M : Int → Option Pf} {ct : Nat} (h : Bn w b m en pg ps rd M ct) (n : Int) (hn : (Lit.int .i64 n).wf = true) (hrd : rd < 4611686018427387904) (hr0 : 0 ≤ rd) (ht : Tab w) (h0 : 0 < w.heap.size) (hb0 : b ≠ 0) :
  Calls Tryd.prog 56 #[iB b, .int .i64 n] w fun e u => ∃ nx ao dn c k, e = .returned (.tuple #[.int .i64 nx, .slice ao dn c, .int .i64 k]) ∧ Hid (Bn u b m en pg ps (rd + isM M n) M ct ∧ Cf (· = b) w u) ∧
   Hid ((ldM M pg n = .inl k ∧ k ≠ 0 ∧ nx = 0 ∧ ao = none ∧ dn = 0 ∧ c = 0) ∨ ∃ d, ldM M pg n = .inr (nx, d) ∧ k = 0 ∧ dn = d.length ∧ ∃ g, ao = some ⟨g, 0, none⟩ ∧ w.heap.size ≤ g ∧ OwnB u w.heap.size (.slice ao dn c) d) := by
 have HR := hidden (bread_any h n hn hrd hr0)
 have HB := hidden h
 have HT := hidden ht
 clear h ht
 go_enter Tryd.func56, Tryd.ntmps56
 go_wp2_with (first
  | (go_at_call 9; refine HR.out.mono ?_; rintro e w1 ⟨ao, sn, c, k, rfl, HK⟩; refine Hid.out ?_))
 apply hidden
 clear HR
 rcases HK.out with ⟨hM, rfl, rfl, rfl, rfl, rfl⟩ | ⟨f, hM, rfl, rfl, ho, hbn, hcf⟩
 ·have HL : Hid (ldM M pg n = .inl 30) := hidden (by unfold ldM; rw [hM])
  have HI : Hid (isM M n = 0) := hidden (by unfold isM; rw [hM]; rfl)
  clear HK hM
  go_wp2
  go_returns
  refine ⟨_, _, _, _, _, rfl, hidden ⟨?_, Cf.refl _ _⟩, hidden (.inl ⟨HL.out, by decide, rfl, rfl, rfl, rfl⟩)⟩
  rw [HI.out, Int.add_zero]
  exact HB.out
 ·have HI : Hid (isM M n = 1) := hidden (by unfold isM; rw [hM]; rfl)
  have HS1 := hidden (size_any hbn)
  have HBN := hidden hbn
  have HCF := hidden hcf
  have hwl := (HB.out.pgs n f hM).1.wf
  have hrl := (HB.out.pgs n f hM).1.hroom
  have HM := hidden hM
  have hsl : Sl w1 ao f.l.length c f.l := by
   obtain ⟨ao', c', e, hs, _⟩ := ho.sl hwl hrl
   injection e with e1 e2 e3
   subst e1 e3
   exact hs
  have HSL := hidden hsl
  have HTB : Hid (Tab w1) := hidden (fun i hi => (World.cell?_of_block (hcf.block 0 h0 (fun e => hb0 e.symm))).trans (HT.out i hi))
  have h01 : 0 < w1.heap.size := Nat.lt_of_lt_of_le h0 hcf.size
  clear HK hM hbn hcf ho hsl
  by_cases hp : (f.l.length : Int) = pg
  ·have hp2 : ((f.l.length : Int) == pg) = true := by rw [beq_iff_eq]; exact hp
   have HD := hidden (decS_any ao _ c f.l w1 HSL.out HTB.out h01)
   have HP := hidden hp
   clear hp
   go_wp2_with (first
    | (go_at_call 49; refine same_call HS1.out ?_)
    | (go_at_call 16; refine HD.out.mono ?_; rintro e w2 ⟨nx, ao2, dn, c2, k, rfl, HB2, HQ⟩))
   go_returns
   refine ⟨_, _, _, _, _, rfl, hidden ⟨by rw [HI.out]; exact HBN.out.on HB2.out, HCF.out.go (Cf.of_below HB2.out)⟩, hidden ?_⟩
   rcases HQ.out with ⟨h1, rfl, rfl, rfl, rfl, rfl⟩ | ⟨d, h1, rfl, rfl, g, rfl, hg, hown⟩
   ·left
    refine ⟨?_, by decide, rfl, rfl, rfl, rfl⟩
    unfold ldM
    rw [HM.out]
    simp [HP.out, h1]
   ·right
    refine ⟨d, ?_, rfl, rfl, g, rfl, Nat.le_trans HCF.out.size hg, hown.low HCF.out.size⟩
    unfold ldM
    rw [HM.out]
    simp [HP.out, h1]
  ·have hp2 : ((f.l.length : Int) == pg) = false := by rw [beq_eq_false_iff_ne]; exact hp
   have HP := hidden hp
   clear hp
   go_wp2_with (first
    | (go_at_call 49; refine same_call HS1.out ?_))
   go_returns
   refine ⟨_, _, _, _, _, rfl, hidden ⟨by rw [HI.out]; exact HBN.out, HCF.out⟩, hidden (.inl ⟨?_, by decide, rfl, rfl, rfl, rfl⟩)⟩
   unfold ldM
   rw [HM.out]
   simp [HP.out]
end Go.Proofs.YtoejadhlkamcjaaDoor
