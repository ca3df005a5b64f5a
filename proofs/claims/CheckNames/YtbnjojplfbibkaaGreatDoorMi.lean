/- meta.written, followed as its text goes; meta.Encode. -/
import Derived.Test.YtbnjojplfbibkaaGreatDoorMh
namespace Go.Proofs.YtbnjojplfbibkaaGreatDoor
open Go.RowKit

/-- A row of bytes. -/
def Bk (w : World) (g : Nat) (l : List Int) : Prop := w.heap[g]? = some (.cells (By l).toArray 5 (0, 0))
set_option maxRecDepth 100000 in
theorem Bk.on {w w' : World} {g : Nat} {l : List Int} (h : Bk w g l) (hb : Below w.heap.size w w') : Bk w' g l := (hb.block _ (lt_some h)).trans h
set_option maxRecDepth 100000 in
theorem set_row {w : World} {a i : Nat} {cs : List Value} {t : TypeId} {u : Value} (h : w.heap[a]? = some (.cells cs.toArray t (0, 0))) : (w.setCell ⟨a, i, none⟩ u).heap[a]? = some (.cells (cs.set i u).toArray t (0, 0)) := by
  have := setCell_eq_setRow w a i cs.toArray t (0, 0) u h
  rw [this, setRow_heap w a _ _ t _ h]
  simp
set_option maxRecDepth 100000 in
theorem Bk.cell {w : World} {g : Nat} {l : List Int} (h : Bk w g l) (k : Nat) (hk : k < l.length) : w.cell? ⟨g, k, none⟩ = some (.int .u8 (l.getD k 0)) := by
  rw [cell_of_row _ _ k _ _ _ h]
  simp [By, List.getElem?_eq_getElem hk, List.getD]
set_option maxRecDepth 100000 in
theorem Bk.free {w : World} {g : Nat} {l : List Int} (h : Bk w g l) (k : Nat) : w.frozen? ⟨g, k, none⟩ = false := by
  unfold Bk at h
  simp [World.frozen?, h]
set_option maxRecDepth 100000 in
theorem Bk.sl {w : World} {g n : Nat} {l : List Int} (h : Bk w g l) (hl : l.length = n) (hw : Wf l) (hn : n ≤ 140737488355328) : Sl w (some ⟨g, 0, none⟩) n n l :=
  ⟨hl, Nat.le_refl _, hn, hw, (by intro h; cases h), .inr ⟨g, 0, rfl, lt_some h, fun i hi => by rw [Nat.zero_add]; exact h.cell i (by omega)⟩⟩

set_option maxRecDepth 100000 in
theorem Sl.alloc5 {w : World} {ao : Option Addr} {n cap : Nat} {l : List Int} (h : Sl w ao n cap l) (o : Obj) : Sl (w.alloc o) ao n cap l := h.on (Nat.le_refl _) ((Below.refl _ _).alloc (Nat.le_refl _) o)
set_option maxRecDepth 100000 in
theorem lit_cell5 (w : World) (cs : Array Value) (t : TypeId) (f : Nat × Nat) (i B : Nat) (hB : w.heap.size = B) : (w.alloc (.cells cs t f)).cell? ⟨B, i, none⟩ = cs[i]? := by
  subst hB
  unfold World.cell?
  rw [show (w.alloc (.cells cs t f)).heap[w.heap.size]? = some (.cells cs t f) from heap_alloc_new w _]
  rfl
set_option maxRecDepth 100000 in
theorem sls_one5 (w : World) (a : Option Addr) (n c : Nat) (la : List Int) (ha : Sl w a n c la) (B : Nat) (hB : w.heap.size = B) : SlS (w.alloc (.cells #[.slice a n c] 28)) (some ⟨B, 0, none⟩) 1 1 [la] := by
  refine ⟨rfl, Nat.le_refl _, by omega, (by intro h; cases h), .inr ⟨B, 0, rfl, by simp; omega, fun i hi => ?_⟩⟩
  obtain rfl : i = 0 := by omega
  exact ⟨a, n, c, lit_cell5 _ _ _ _ _ _ hB, ha.alloc5 _⟩
set_option maxRecDepth 100000 in
theorem SlS.drew5 {w : World} {ao : Option Addr} {n cap : Nat} {ls : List (List Int)} (h : SlS w ao n cap ls) : SlS w.drew ao n cap ls := by
  refine ⟨h.hlen, h.hcap, h.hroom, h.hnil, ?_⟩
  rcases h.hat with h0 | ⟨b, off, e, hb, hc⟩
  · exact .inl h0
  · refine .inr ⟨b, off, e, hb, fun i hi => ?_⟩
    obtain ⟨a, m, c, h1, h2⟩ := hc i hi
    exact ⟨a, m, c, h1, h2.on (Nat.le_refl _) (Below.refl _ _).drew⟩
set_option maxRecDepth 100000 in
/-- What one number of a meta may be. -/
theorem nth_ok (m : Mt) (h : m.ok) (k : Nat) (hk : k < 8) : 0 ≤ m.nth k ∧ m.nth k ≤ 1099511627776 := by
  have h1 := h.inM k hk
  have h2 : 0 ≤ leastN k ∧ mostN k ≤ 1099511627776 := by
    rcases eight hk with rfl | rfl | rfl | rfl | rfl | rfl | rfl | rfl <;> simp [leastN, mostN]
  omega
set_option maxRecDepth 100000 in
theorem place_ok (k : Nat) (hk : k < 8) : 1 ≤ wdN k ∧ wdN k ≤ 8 ∧ atN k + wdN k ≤ 40 := by
  rcases eight hk with rfl | rfl | rfl | rfl | rfl | rfl | rfl | rfl <;> simp [wdN, atN]
set_option maxRecDepth 100000 in
theorem first_laid (m : Mt) (P : Nat) (hP : m.pg.toNat = P) (h : 512 ≤ P) : List.take 4 ((By (zs P)).set 0 (Value.int IntKind.u8 1)) ++ (Lib.byteCells [69, 83, 80, 76] ++ List.drop 8 ((By (zs P)).set 0 (Value.int IntKind.u8 1))) = By (lay5 m 0) := by
  have e : zs P = [0, 0, 0, 0, 0, 0, 0, 0] ++ zs (P - 8) := by
    conv => lhs; rw [show P = 8 + (P - 8) by omega, zs_add]
    rfl
  show _ = By ([1, 0, 0, 0, 69, 83, 80, 76] ++ zs (m.pg.toNat - 8))
  rw [e, By_append, By_append, hP]
  generalize By (zs (P - 8)) = Z
  simp [By, Lib.byteCells]

set_option maxRecDepth 100000 in
set_option maxHeartbeats 2000000 in
theorem written_any (m : Mt) (hm : m.ok) (w : World) (ht : Tab w) (h0 : 0 < w.heap.size) :
    Calls Tryz.prog 81 #[mtV m] w fun e w' => ∃ g, e = .returned (.slice (some ⟨g, 0, none⟩) m.pg.toNat m.pg.toNat) ∧ w.heap.size ≤ g ∧ Bk w' g (pageB m) ∧ Below w.heap.size w w' := by
  obtain ⟨i0, hi, hz0, hz1, hz2⟩ := info_parts info5
  have hsz : (Tryz.prog.info? 5).map (·.size) = some 1 := by rw [hi]; simp [hz1]
  have hp := pw_le hm.pg
  obtain ⟨P, hP⟩ : ∃ P : Nat, m.pg = (P : Int) := ⟨m.pg.toNat, by omega⟩
  have hPt : m.pg.toNat = P := by omega
  have hv : mtV m = .agg #[.int .i64 m.en, .int .i64 (P : Int), .int .i64 m.tx, .int .i64 m.ro, .int .i64 m.co, .int .i64 m.fr, .int .i64 m.li, .int .i64 m.hi] := by rw [mtV_eq, hP]
  have hp2 : 512 ≤ P ∧ P ≤ 65536 := by omega
  have HM := hidden hm
  have HT := hidden ht
  have HV := hidden hv
  have HPT := hidden hPt
  have HPE := hidden hP
  rw [hPt, hv]
  clear hp hm ht hP hPt hv
  go_enter Tryz.func81, Tryz.ntmps81
  go_wp2_with (at_make; refine wpList_make_full _ rfl _ _ 28 rfl w.heap.size 5 i0 (.int .u8 0) 1 Tryz.underlying28 hi hz0 hz1 .i64 .i64 P P P rfl rfl rfl rfl (by rw [hz2]; omega) (by unfold maxLen; omega) (by simp) ?_; refine Hid.out ?_)
  apply hidden
  intro w1 hown1 hg1
  have hb1 : Below (w.heap.size + 1) (w.alloc (.cells #[.int .i64 m.en, .int .i64 (P : Int), .int .i64 m.tx, .int .i64 m.ro, .int .i64 m.co, .int .i64 m.fr, .int .i64 m.li, .int .i64 m.hi] 45)) w1 := (Below.refl _ _).grown hg1 (by simp) (fun k hk => by cases hk)
  have hrow : Bk w1 (w.heap.size + 1) (zs P) := by
    rcases hown1.2 with ⟨h, _⟩ | ⟨g, c, cur, h, _, hh, _, _, hs, hx⟩
    · cases h
    · cases h
      unfold Bk
      rw [hh]
      congr 2
      apply Array.toList_inj.1
      rw [toList_madeCells_one] at hx
      simp only [Nat.mul_one] at hs hx
      rw [List.take_of_length_le (by simp [hs])] at hx
      simpa [By, zs] using hx
  have hbox : w1.heap[w.heap.size]? = some (.cells #[.int .i64 m.en, .int .i64 (P : Int), .int .i64 m.tx, .int .i64 m.ro, .int .i64 m.co, .int .i64 m.fr, .int .i64 m.li, .int .i64 m.hi] 45 (0, 0)) := (hb1.block _ (by omega)).trans (heap_alloc_last w _)
  have hbw1 : Below w.heap.size w w1 := (bl_al (Below.refl _ w) (Nat.le_refl _) _).trans (hb1.mono (by omega))
  clear hown1 hg1 hb1
  obtain ⟨g, hg⟩ : ∃ g, w.heap.size + 1 = g := ⟨_, rfl⟩
  rw [hg] at hrow ⊢
  have hgw : w.heap.size ≠ g := by omega
  have hgw2 : w.heap.size ≤ g := by omega
  have hc0 := hrow.cell 0 (by rw [zs_length]; omega)
  have hf0 := hrow.free 0
  obtain ⟨y0, hc0⟩ : ∃ y, w1.cell? ⟨g, 0, none⟩ = some y := ⟨_, hc0⟩
  have hrow2 : (w1.setCell ⟨g, 0, none⟩ (.int .u8 1)).heap[g]? = some (.cells ((By (zs P)).set 0 (.int .u8 1)).toArray 5 (0, 0)) := set_row hrow
  have HCR := hidden (Lib.run_copy_row_string (P := Tryz.prog) (w1.setCell ⟨g, 0, none⟩ (.int .u8 1)) 28 9 3 5 g 4 (P - 4) (P - 4) ⟨#[69, 83, 80, 76]⟩ _ 5 Tryz.underlying28 hsz hrow2 (show 4 ≤ P - 4 by omega) (show 4 + 4 ≤ _ by simp [By_length, zs_length]; omega))
  have HR2 := hidden hrow2
  have HBW := hidden (hbw1.setCell (p := ⟨g, 0, none⟩) hgw2 (.int .u8 1))
  have HBX : Hid ((w1.setCell ⟨g, 0, none⟩ (.int .u8 1)).heap[w.heap.size]? = some (.cells #[.int .i64 m.en, .int .i64 (P : Int), .int .i64 m.tx, .int .i64 m.ro, .int .i64 m.co, .int .i64 m.fr, .int .i64 m.li, .int .i64 m.hi] 45 (0, 0))) := (Below.heap_setCell _ _ _ _ (by exact hgw)).trans hbox
  clear hrow hrow2 hbox hbw1 hg
  go_wp2_with (refine Lib.wpList_copy_run _ rfl _ _ 28 9 rfl _ _ rfl rfl HCR.out ?_; refine Hid.out ?_)
  apply hidden
  obtain ⟨u2, hu2⟩ : ∃ u, u = ((w1.setCell ⟨g, 0, none⟩ (Value.int IntKind.u8 1)).setRow g (List.take 4 ((By (zs P)).set 0 (Value.int IntKind.u8 1)) ++ (Lib.byteCells [69, 83, 80, 76] ++ List.drop 8 ((By (zs P)).set 0 (Value.int IntKind.u8 1)))).toArray) := ⟨_, rfl⟩
  rw [← hu2]
  have hB2 : Bk u2 g (lay5 m 0) := by
    unfold Bk
    rw [hu2, setRow_heap _ _ _ _ _ _ HR2.out, first_laid m P HPT.out hp2.1]
  have hX2 : u2.heap[w.heap.size]? = some (.cells (mtC m) 45 (0, 0)) := by
    rw [hu2, setRow_other _ _ _ _ hgw, HBX.out, mtC, HPE.out]
  have HBW2 : Hid (Below w.heap.size w u2) := by
    rw [hu2]
    exact below_setRow HBW.out hgw2 _
  obtain ⟨c0, c1, c2, c3, c4, c5, c6, c7⟩ := row8 hX2
  rw [HPE.out] at c1
  have HB2 := hidden hB2
  clear HBW HBX HR2 HCR hu2 hc0 hf0 hB2 hX2
  go_wp2_with (first
    | (go_at_call 115; rw [← HV.out]; refine (numbers_any m _).mono ?_; rintro e w3 ⟨rfl, hb3⟩; have HB3 := hidden hb3; clear hb3; rw [HV.out])
    | (go_at_call 109; refine (places_any _).mono ?_; rintro e w4 ⟨rfl, hb4⟩; have HB4 := hidden hb4; clear hb4))
  have hbw4 : Below w.heap.size w w4 := bl_go (bl_al (bl_go HBW2.out (Nat.le_refl _) HB3.out) (Nat.le_refl _) _) (Nat.le_refl _) HB4.out
  obtain ⟨gl, hgl⟩ : ∃ gl, w3.heap.size = gl := ⟨_, rfl⟩
  have hl4 : w4.heap[gl]? = some (.cells (mtC m) 178 (0, 0)) := by
    rw [← hgl]
    refine (HB4.out.block _ (by simp)).trans ((heap_alloc_last w3 _).trans ?_)
    rw [mtC, HPE.out]
  have hgg : gl ≠ g := by
    have h1 := lt_some HB2.out
    have h2 := HB3.out.size
    omega
  have hk4 : Bk w4 g (lay5 m 0) := by
    have h3 := HB2.out.on HB3.out
    exact Bk.on (w := w3.alloc _) ((Below.heap_alloc _ _ _ (lt_some h3)).trans h3) HB4.out
  rw [hgl]
  clear hgl c0 c1 c2 c3 c4 c5 c6 c7 HB2 HB3 HB4 HBW2
  go_loopw [19] (fun i wr => ∃ k : Nat, k ≤ 8 ∧ i = .int .i64 k ∧ Hid (Bk wr g (lay5 m k)) ∧ Hid (wr.heap[gl]? = some (.cells (mtC m) 178 (0, 0))) ∧ Hid (Below w.heap.size w wr)) (fun i _ => 8 - (intOf i).toNat)
  case atStart => exact ⟨0, by omega, rfl, hk4, hl4, hbw4⟩
  case round =>
    obtain ⟨k, hk, rfl, HK, HL, HB⟩ := hrel
    clear hk4 hl4 hbw4
    by_cases hlt : k < 8
    · have hix := fun u => plIx k hlt u
      have hkc : (k : Int) < 8 := by omega
      obtain ⟨hn0, hn1⟩ := nth_ok m HM.out k hlt
      obtain ⟨hd1, hd8, had⟩ := place_ok k hlt
      have hcx := fun o => cell_mt (w := wr.alloc o) (g := gl) ((Below.heap_alloc _ _ _ (lt_some HL.out)).trans HL.out) k hlt
      have HS5 : Hid (lay5 m (k + 1) = splice (lay5 m k) (atN k) (fB (wdN k) (m.nth k))) := rfl
      have HLEN := hidden ((lay5_length m HM.out k hk).trans HPT.out)
      obtain ⟨L, hL⟩ : ∃ L, lay5 m k = L := ⟨_, rfl⟩
      obtain ⟨L2, hL2⟩ : ∃ L, lay5 m (k + 1) = L := ⟨_, rfl⟩
      have HL2 := hidden hL2
      rw [hL2] at HS5
      rw [hL] at HS5 HLEN HK
      clear hL hL2
      generalize m.nth k = n at *
      generalize atN k = a at *
      generalize wdN k = d at *
      generalize leastN k = le at *
      generalize mostN k = mo at *
      have hap : a ≤ P := by omega
      have hap3 : ¬ P = a := by omega
      have hap' : (a : Int) ≤ (P : Int) := by omega
      have hwn : IntKind.u64.wrap n = n := by rw [IntKind.wrap_u64]; omega
      obtain ⟨x, hxw⟩ : ∃ x, wr.alloc (.cells #[.int .i64 (a : Int), .int .i64 (d : Int), .int .i64 le, .int .i64 mo] 180) = x := ⟨_, rfl⟩
      have x0 : x.cell? ⟨wr.heap.size, 0, none⟩ = some (.int .i64 (a : Int)) := by rw [← hxw]; simp
      have x1 : x.cell? ⟨wr.heap.size, 1, none⟩ = some (.int .i64 (d : Int)) := by rw [← hxw]; simp
      have x2 := hcx (.cells #[.int .i64 (a : Int), .int .i64 (d : Int), .int .i64 le, .int .i64 mo] 180)
      rw [hxw] at x2
      have HBx : Hid (Below w.heap.size w x) := by rw [← hxw]; exact bl_al HB.out (Nat.le_refl _) _
      have HKx : Hid (Bk x g L) := by rw [← hxw]; exact (Below.heap_alloc _ _ _ (lt_some HK.out)).trans HK.out
      have HLx : Hid (x.heap[gl]? = some (.cells (mtC m) 178 (0, 0))) := by rw [← hxw]; exact (Below.heap_alloc _ _ _ (lt_some HL.out)).trans HL.out
      have HF : Hid (∀ v, Below x.heap.size x v → Calls Tryz.prog 105 #[.int .u64 n, .int .i64 (d : Int)] v fun e v2 => ∃ b off c, e = .returned (.slice (some ⟨b, off, none⟩) d c) ∧ Hid (Sl v2 (some ⟨b, off, none⟩) d c (fB d n)) ∧ Hid (Bk v2 g L) ∧ Hid (v2.heap[gl]? = some (.cells (mtC m) 178 (0, 0))) ∧ Hid (Below w.heap.size w v2) ∧ v2.cell? ⟨wr.heap.size, 0, none⟩ = some (.int .i64 (a : Int))) := by
        have hxl : wr.heap.size < x.heap.size := by rw [← hxw]; simp
        refine hidden fun v hv => (fixed_row n (d : Int) v (by omega) (by omega) (by omega)).mono ?_
        rintro e v2 ⟨b, off, c, rfl, hs, hb⟩
        rw [Int.toNat_natCast] at hs ⊢
        exact ⟨b, off, c, rfl, hs, (HKx.out.on hv).on hb.out, box_on (box_on HLx.out hv) hb.out, bl_go (bl_go HBx.out (Nat.le_refl _) hv) (Nat.le_refl _) hb.out, (hb.out.cell (p := ⟨wr.heap.size, 0, none⟩) (Nat.lt_of_lt_of_le hxl hv.size)).trans ((hv.cell (p := ⟨wr.heap.size, 0, none⟩) hxl).trans x0)⟩
      have HMIN : Hid ((By (fB d n)).length = Nat.min d (P - a)) := hidden (by rw [By_length, fB_length]; exact (Nat.min_eq_left (by omega)).symm)
      have HFIT : Hid (a + (By (fB d n)).length ≤ (By L).length) := hidden (by rw [By_length, By_length, HLEN.out, fB_length]; omega)
      clear hcx HKx HLx HBx HK HL HB
      go_wp2_with fail
      try rw [hxw]
      clear hix
      go_region_law (first
        | (go_simp; go_at_call 105; refine (HF.out _ ?_).mono ?_; (repeat (first | exact Below.refl _ _ | apply Below.drew)); rintro e v2 ⟨b, off, c, rfl, HS, HKv, HLv, HBv, xv0⟩)
        | (refine step_copy_rw rfl _ _ 28 28 rfl 5 Tryz.underlying28 hsz g a (P - a) (P - a) ⟨b, off, none⟩ d c rfl rfl (By L) 5 HKv.out (By (fB d n)) HMIN.out (sl_src5 HS.out) HFIT.out (By_one _) ?_; intro u3 HU))
      all_goals
        have HK3 : Hid (Bk u3 g L2) := hidden (by
          unfold Bk
          rw [HU.out, setRow_heap _ _ _ _ _ _ HKv.out, By_splice5, HS5.out])
        have HL3 : Hid (u3.heap[gl]? = some (.cells (mtC m) 178 (0, 0))) := hidden (by rw [HU.out, setRow_other _ _ _ _ hgg]; exact HLv.out)
        have HB3 : Hid (Below w.heap.size w u3) := hidden (by rw [HU.out]; exact below_setRow HBv.out hgw2 _)
        clear HU HS HKv HLv HBv HF HMIN HFIT hxw x0 x1 x2
        go_wp2
        go_roundw
        case rel => exact ⟨k + 1, by omega, by go_num, by rw [HL2.out]; exact HK3, HL3, HB3⟩
        case measure => simp [intOf]; omega
    · obtain rfl : k = 8 := by omega
      have HLEN := hidden ((lay5_length m HM.out 8 (Nat.le_refl _)).trans HPT.out)
      have hs4 : (P : Int) - 4 = ((P - 4 : Nat) : Int) := by omega
      obtain ⟨Q, hQ⟩ : ∃ Q, P - 4 = Q := ⟨_, rfl⟩
      rw [hQ] at hs4
      have hq1 : (Q : Int) ≤ (P : Int) := by omega
      have hq2 : Q ≤ P := by omega
      have hq3 : ¬ P = Q := by omega
      have hq4 : P - Q = 4 := by omega
      have HBD := hidden (lay5_body m HM.out)
      have HPG := hidden (lay5_page m HM.out)
      rw [HPT.out, hQ] at HBD HPG
      obtain ⟨L, hL⟩ : ∃ L, lay5 m 8 = L := ⟨_, rfl⟩
      rw [hL] at HLEN HK HBD HPG
      have hwb := lay5_wf m 8
      rw [hL] at hwb
      have hslb : Sl wr (some ⟨g, 0, none⟩) Q P (bodyB m) := by
        refine ⟨by rw [← HBD.out, List.length_take, HLEN.out]; omega, by omega, by omega, bodyB_wf m, (by intro h; cases h), .inr ⟨g, 0, rfl, lt_some HK.out, fun i hi => ?_⟩⟩
        rw [Nat.zero_add, HK.out.cell i (by rw [HLEN.out]; omega), ← HBD.out]
        simp [List.getD, hi]
      have HSL := hidden hslb
      have hs32 := sumN_lt (bodyB m) (bodyB_wf m)
      generalize hS : sumN [bodyB m] = S at *
      have HSS := hidden hS
      have hws : IntKind.u64.wrap ((S : Nat) : Int) = (S : Int) := by rw [IntKind.wrap_u64]; omega
      have HTR : Hid (Tab wr) := HT.out.on HB.out h0
      have h0r : 0 < wr.heap.size := Nat.lt_of_lt_of_le h0 HB.out.size
      have HSUM : Hid (Calls Tryz.prog 106 #[.slice (some ⟨wr.heap.size, 0, none⟩) 1 1] (wr.alloc (.cells #[.slice (some ⟨g, 0, none⟩) Q P] 28)).drew fun e v2 => e = .returned (.int .u32 (S : Int)) ∧ Hid (Bk v2 g L) ∧ Hid (Below w.heap.size w v2)) := by
        have hss : SlS (wr.alloc (.cells #[.slice (some ⟨g, 0, none⟩) Q P] 28)).drew (some ⟨wr.heap.size, 0, none⟩) 1 1 [bodyB m] := (sls_one5 wr _ _ _ _ HSL.out _ rfl).drew5
        refine hidden ((sum_any _ _ _ _ _ hss (HTR.out.on ((Below.refl _ _).alloc (Nat.le_refl _) _).drew h0r)).mono ?_)
        rintro e v2 ⟨rfl, q, rfl⟩
        rw [HSS.out]
        exact ⟨rfl, (Below.heap_alloc _ _ _ (lt_some HK.out)).trans HK.out, bl_dr (bl_al HB.out (Nat.le_refl _) _).drew q⟩
      have HF : Hid (∀ v, Hid (Bk v g L) → Hid (Below w.heap.size w v) → Calls Tryz.prog 105 #[.int .u64 (S : Int), .int .i64 4] v fun e v2 => ∃ b off c, e = .returned (.slice (some ⟨b, off, none⟩) 4 c) ∧ Hid (Sl v2 (some ⟨b, off, none⟩) 4 c (fB 4 (S : Int))) ∧ Hid (Bk v2 g L) ∧ Hid (Below w.heap.size w v2)) := by
        refine hidden fun v hk hv => (fixed_row (S : Int) 4 v (by omega) (by omega) (by omega)).mono ?_
        rintro e v2 ⟨b, off, c, rfl, hs, hb⟩
        exact ⟨b, off, c, rfl, hs, hk.out.on hb.out, bl_go hv.out (Nat.le_refl _) hb.out⟩
      have HMIN : Hid ((By (fB 4 (S : Int))).length = Nat.min 4 4) := hidden (by rw [By_length, fB_length]; rfl)
      have HFIT : Hid (Q + (By (fB 4 (S : Int))).length ≤ (By L).length) := hidden (by rw [By_length, By_length, HLEN.out, fB_length]; omega)
      clear hslb hs32 hwb HLEN HL hL hS
      go_wp2_with fail
      go_region_law (first
        | (go_simp; go_at_call 106; refine HSUM.out.mono ?_; rintro e v2 ⟨rfl, HK1, HB1⟩)
        | (go_simp; go_at_call 105; refine (HF.out _ HK1 HB1).mono ?_; rintro e v3 ⟨b, off, c, rfl, HS, HKv, HBv⟩)
        | (refine step_copy_rw rfl _ _ 28 28 rfl 5 Tryz.underlying28 hsz g Q 4 4 ⟨b, off, none⟩ 4 c rfl rfl (By L) 5 HKv.out (By (fB 4 (S : Int))) HMIN.out (sl_src5 HS.out) HFIT.out (By_one _) ?_; intro u3 HU))
      all_goals
        have HK3 : Hid (Bk u3 g (pageB m)) := hidden (by
          unfold Bk
          rw [HU.out, setRow_heap _ _ _ _ _ _ HKv.out, By_splice5, HPG.out])
        have HB3 : Hid (Below w.heap.size w u3) := hidden (by rw [HU.out]; exact below_setRow HBv.out hgw2 _)
        clear HU HS HKv HBv HF HMIN HFIT HSUM HK1 HB1 HK HSL HTR HBD HPG
        go_wp2
        go_ret
        exact ⟨g, rfl, hgw2, HK3.out, HB3.out⟩

/-- What Encode answers. -/
def Enc5 (m : Mt) (w : World) (e : Ending) (w' : World) : Prop :=
  (m.ok ∧ ∃ g, e = .returned (.tuple #[.slice (some ⟨g, 0, none⟩) m.pg.toNat m.pg.toNat, .int .i64 0]) ∧ w.heap.size ≤ g ∧ Bk w' g (pageB m) ∧ Below w.heap.size w w') ∨
  (¬ m.ok ∧ e = .returned (.tuple #[.slice none 0 0, .int .i64 1]) ∧ Below w.heap.size w w')
end Go.Proofs.YtbnjojplfbibkaaGreatDoor
