/- meta.read, followed as its text goes. -/
import Derived.Test.YtbnjojplfbibkaaGreatDoorMi
import Derived.Laws.ResultCell
namespace Go.Proofs.YtbnjojplfbibkaaGreatDoor
open Go.RowKit

set_option maxRecDepth 100000 in
theorem rd_small (l : List Int) (h : Wf l) (p w : Nat) (hw : w ≤ 4) : IntKind.i64.wrap (rdN l p w) = rdN l p w := by
  have h1 := rdN_bound l h p w
  have h2 : w = 0 ∨ w = 1 ∨ w = 2 ∨ w = 3 ∨ w = 4 := by omega
  rcases h2 with rfl | rfl | rfl | rfl | rfl <;> simp only [Int.reducePow, Int.pow_zero] at h1 <;> exact wrap_small _ h1.1 (by omega)
set_option maxRecDepth 100000 in
theorem rdM_nth (l : List Int) (h : Wf l) (k : Nat) (hk : k < 8) : (rdM l).nth k = IntKind.i64.wrap (rdN l (atN k) (wdN k)) := by
  rcases eight hk with rfl | rfl | rfl | rfl | rfl | rfl | rfl | rfl
  · exact (rd_small l h _ _ (by decide)).symm
  · exact (rd_small l h _ _ (by decide)).symm
  · rfl
  · exact (rd_small l h _ _ (by decide)).symm
  · exact (rd_small l h _ _ (by decide)).symm
  · exact (rd_small l h _ _ (by decide)).symm
  · exact (rd_small l h _ _ (by decide)).symm
  · exact (rd_small l h _ _ (by decide)).symm
set_option maxRecDepth 100000 in
theorem results_row2 {P : Program} {fn : Func} {p u : Tmp} {ty : TypeId} (h : fn.results = #[.cell p ty, .tmp u]) (tmps : Array Value) (w : World) (g : Nat) (t : TypeId) (cs : Array Value) (fr : Nat × Nat) (d : TypeDesc) (v : Value)
    (hp : tmps.getD p undef = .pointer (some ⟨g, 0, none⟩)) (hv : tmps.getD u undef = v) (hg : w.heap[g]? = some (.cells cs t fr))
    (hu : P.underlying ty = some d) (hd : (match d with | .struct _ | .array _ _ => true | _ => false) = true) (hi : (P.info? ty).map (·.size) = some cs.size) :
    (results fn tmps).run P w = .ok (.tuple #[.agg cs, v]) w := by
  subst hv
  rw [results_cell_tmp h, hp]
  simp [asAddr, run_loadVar_row w g t ty cs fr d hg hu hd hi, Result.andThen]
set_option maxRecDepth 100000 in
theorem results_row3 {P : Program} {fn : Func} {p u q : Tmp} {ty : TypeId} (h : fn.results = #[.cell p ty, .tmp u, .tmp q]) (tmps : Array Value) (w : World) (g : Nat) (t : TypeId) (cs : Array Value) (fr : Nat × Nat) (d : TypeDesc) (v v2 : Value)
    (hp : tmps.getD p undef = .pointer (some ⟨g, 0, none⟩)) (hv : tmps.getD u undef = v) (hv2 : tmps.getD q undef = v2) (hg : w.heap[g]? = some (.cells cs t fr))
    (hu : P.underlying ty = some d) (hd : (match d with | .struct _ | .array _ _ => true | _ => false) = true) (hi : (P.info? ty).map (·.size) = some cs.size) :
    (results fn tmps).run P w = .ok (.tuple #[.agg cs, v, v2]) w := by
  subst hv hv2
  have hp' : tmps[p]?.getD undef = .pointer (some ⟨g, 0, none⟩) := by simpa using hp
  simp [results, h, hp', asAddr, run_loadVar_row w g t ty cs fr d hg hu hd hi]
set_option maxRecDepth 100000 in
theorem mtC_one (m : Mt) : (mtC m).all (·.oneCell') = true := by simp [mtC, Value.oneCell']
set_option maxRecDepth 100000 in
theorem mtC_size (m : Mt) : (Tryz.prog.info? 45).map (·.size) = some (mtC m).size := by
  show _ = some 8
  kernel_rfl
/-- The numbers read so far. -/
def rdC (l : List Int) (k : Nat) : List Value := (List.range 8).map fun j => .int .i64 (if j < k then (rdM l).nth j else 0)
set_option maxRecDepth 100000 in
theorem rdC_zero (l : List Int) : rdC l 0 = [.int .i64 0, .int .i64 0, .int .i64 0, .int .i64 0, .int .i64 0, .int .i64 0, .int .i64 0, .int .i64 0] := rfl
set_option maxRecDepth 100000 in
theorem rdC_all (l : List Int) : (rdC l 8).toArray = mtC (rdM l) := rfl
set_option maxRecDepth 100000 in
theorem rdC_set (l : List Int) (k : Nat) (hk : k < 8) : (rdC l k).set k (.int .i64 ((rdM l).nth k)) = rdC l (k + 1) := by
  rcases eight hk with rfl | rfl | rfl | rfl | rfl | rfl | rfl | rfl <;> rfl
set_option maxRecDepth 100000 in
theorem rdC_at (l : List Int) (k : Nat) (hk : k < 8) : ∃ y, (rdC l k)[k]? = some y := by
  rcases eight hk with rfl | rfl | rfl | rfl | rfl | rfl | rfl | rfl <;> exact ⟨_, rfl⟩
/-- No meta. -/
def Mt.z : Mt := ⟨0, 0, 0, 0, 0, 0, 0, 0⟩

set_option maxRecDepth 100000 in
/-- ReadFixed, whatever stands there. -/
theorem readFixed_any (ao : Option Addr) (n cap : Nat) (l : List Int) (p d : Nat) (w : World) (hs : Sl w ao n cap l) (h1 : 1 ≤ d) (h2 : d ≤ 8) :
    Calls Tryz.prog 103 #[.slice ao n cap, .int .i64 (p : Int), .int .i64 (d : Int)] w fun e w' => ∃ x c, e = .returned (.tuple #[.int .u64 x, .int .i64 c]) ∧ (p + d ≤ n ∧ x = rdN l p d ∧ c = 0 ∨ n < p + d ∧ c ≠ 0) ∧ w' = w := by
  by_cases h : p + d ≤ n
  · refine (readFixed_ok ao n cap l (p : Int) (d : Int) w hs (by omega) (by omega) (by omega) (by omega)).mono ?_
    rintro e w' ⟨rfl, rfl⟩
    rw [Int.toNat_natCast, Int.toNat_natCast]
    exact ⟨_, _, rfl, .inl ⟨h, rfl, rfl⟩, rfl⟩
  · by_cases h3 : p ≤ n
    · refine (readFixed_short ao n cap (p : Int) (d : Int) w (by omega) (by omega) (by omega) (by omega) (by omega)).mono ?_
      rintro e w' ⟨rfl, rfl⟩
      exact ⟨_, _, rfl, .inr ⟨by omega, by decide⟩, rfl⟩
    · refine (readFixed_arg ao n cap (p : Int) (d : Int) w (.inr (.inr (by omega)))).mono ?_
      rintro e w' ⟨rfl, rfl⟩
      exact ⟨_, _, rfl, .inr ⟨by omega, by decide⟩, rfl⟩

/-- What read answers. -/
def Rd5 (l : List Int) (w : World) (e : Ending) (w' : World) : Prop :=
  ∃ m c, e = .returned (.tuple #[mtV m, .int .i64 c]) ∧ (40 ≤ l.length ∧ m = rdM l ∧ c = 0 ∨ l.length < 40 ∧ c ≠ 0) ∧ Below w.heap.size w w'
set_option maxRecDepth 100000 in
theorem Rd5.no {l : List Int} {w w' : World} {c : Int} (h : l.length < 40) (hc : c ≠ 0) (hb : Below w.heap.size w w') : Rd5 l w (.returned (.tuple #[.agg #[.int .i64 0, .int .i64 0, .int .i64 0, .int .i64 0, .int .i64 0, .int .i64 0, .int .i64 0, .int .i64 0], .int .i64 c])) w' :=
  ⟨Mt.z, c, rfl, .inr ⟨h, hc⟩, hb⟩
set_option maxRecDepth 100000 in
theorem Rd5.yes {l : List Int} {w w' : World} (h : 40 ≤ l.length) (hb : Below w.heap.size w w') : Rd5 l w (.returned (.tuple #[mtV (rdM l), .int .i64 0])) w' :=
  ⟨rdM l, 0, rfl, .inl ⟨h, rfl, rfl⟩, hb⟩
set_option maxRecDepth 100000 in
theorem place_end (k n : Nat) (hk : k < 8) (h : n < atN k + wdN k) : n < 40 := by
  rcases eight hk with rfl | rfl | rfl | rfl | rfl | rfl | rfl | rfl <;> simp [atN, wdN] at h <;> omega

set_option maxRecDepth 100000 in
set_option maxHeartbeats 2000000 in
theorem read_any (ao : Option Addr) (n cap : Nat) (l : List Int) (w : World) (hs : Sl w ao n cap l) : Calls Tryz.prog 79 #[.slice ao n cap] w fun e w' => Rd5 l w e w' := by
  have HS := hidden hs
  clear hs
  go_enter Tryz.func79, Tryz.ntmps79
  go_wp2_with (go_at_call 109; refine (places_any _).mono ?_; rintro e w2 ⟨rfl, hb2⟩; have HB2 := hidden hb2; clear hb2)
  have hr0 : w2.heap[w.heap.size]? = some (.cells (mtC Mt.z) 45 (0, 0)) := (HB2.out.block _ (by simp; omega)).trans (heap_alloc2_old w _ _)
  have hl0 : w2.heap[w.heap.size + 1]? = some (.cells (rdC l 0).toArray 178 (0, 0)) := (HB2.out.block _ (by simp)).trans (heap_alloc2_new w _ _)
  have hbw : Below w.heap.size w w2 := bl_go (bl_al (bl_al (Below.refl _ w) (Nat.le_refl _) _) (Nat.le_refl _) _) (Nat.le_refl _) HB2.out
  clear HB2
  obtain ⟨gl, hgl⟩ : ∃ gl, w.heap.size + 1 = gl := ⟨_, rfl⟩
  rw [hgl] at hl0 ⊢
  have hgr : ¬ w.heap.size = gl := by omega
  have hgr2 : w.heap.size ≤ gl := by omega
  clear hgl
  go_loopw [10] (fun i wr => ∃ k : Nat, k ≤ 8 ∧ i = .int .i64 k ∧ (∀ j, j < k → atN j + wdN j ≤ n) ∧ Hid (wr.heap[w.heap.size]? = some (.cells (mtC Mt.z) 45 (0, 0))) ∧ Hid (wr.heap[gl]? = some (.cells (rdC l k).toArray 178 (0, 0))) ∧ Hid (Below w.heap.size w wr)) (fun i _ => 8 - (intOf i).toNat)
  case atStart => exact ⟨0, by omega, rfl, fun j h => by omega, hr0, hl0, hbw⟩
  case round =>
    obtain ⟨k, hk, rfl, hin, HR, HL, HB⟩ := hrel
    have HIN := hidden hin
    clear hr0 hl0 hbw hin
    by_cases hlt : k < 8
    · have hix := fun u => plIx k hlt u
      have hkc : (k : Int) < 8 := by omega
      obtain ⟨hd1, hd8, had⟩ := place_ok k hlt
      have HN := hidden (rdM_nth l HS.out.wf k hlt)
      have HE := hidden (place_end k n hlt)
      have HI2 : Hid (atN k + wdN k ≤ n → ∀ j, j < k + 1 → atN j + wdN j ≤ n) := hidden fun h j hj => by
        by_cases e : j = k
        · subst e; exact h
        · exact HIN.out j (by omega)
      have HRF := fun v hv => hidden (readFixed_any ao n cap l (atN k) (wdN k) v hv hd1 hd8)
      have HX : Hid (∀ o, (wr.alloc o).heap[w.heap.size]? = some (.cells (mtC Mt.z) 45 (0, 0)) ∧ (wr.alloc o).heap[gl]? = some (.cells (rdC l k).toArray 178 (0, 0)) ∧ Below w.heap.size w (wr.alloc o) ∧ Sl (wr.alloc o) ao n cap l) :=
        hidden fun o => ⟨(Below.heap_alloc _ _ _ (lt_some HR.out)).trans HR.out, (Below.heap_alloc _ _ _ (lt_some HL.out)).trans HL.out, bl_al HB.out (Nat.le_refl _) _, HS.out.on (Nat.le_refl _) (bl_al HB.out (Nat.le_refl _) _)⟩
      generalize atN k = a at *
      generalize wdN k = d at *
      generalize leastN k = le at *
      generalize mostN k = mo at *
      obtain ⟨x, hxw⟩ : ∃ x, wr.alloc (.cells #[.int .i64 (a : Int), .int .i64 (d : Int), .int .i64 le, .int .i64 mo] 180) = x := ⟨_, rfl⟩
      have hx := HX.out (.cells #[.int .i64 (a : Int), .int .i64 (d : Int), .int .i64 le, .int .i64 mo] 180)
      have x0 : x.cell? ⟨wr.heap.size, 0, none⟩ = some (.int .i64 (a : Int)) := by rw [← hxw]; simp
      have x1 : x.cell? ⟨wr.heap.size, 1, none⟩ = some (.int .i64 (d : Int)) := by rw [← hxw]; simp
      rw [hxw] at hx
      have hRF := HRF x hx.2.2.2
      have HXX := hidden hx
      clear HX hx HRF HR HL HB
      go_wp2_with fail
      try rw [hxw]
      go_wp2_with (go_at_call 103; refine hRF.out.mono ?_; rintro e w3 ⟨y, c, rfl, hy, hw3⟩; have HY := hidden hy; have HW3 := hidden hw3; clear hy hw3; refine Hid.out ?_)
      apply hidden
      obtain rfl := HW3.out
      clear HW3 hRF
      rcases HY.out with ⟨h1, h2, rfl⟩ | ⟨h1, hc⟩
      · have HN2 := hidden (HI2.out h1)
        have HNY : Hid (IntKind.i64.wrap y = (rdM l).nth k) := hidden (by rw [HN.out, h2])
        obtain ⟨z, hz⟩ := rdC_at l k hlt
        have xc : w3.cell? ⟨gl, k, none⟩ = some z := by
          rw [cell_of_row _ _ k _ _ _ HXX.out.2.1]
          simpa using hz
        have xf : w3.frozen? ⟨gl, k, none⟩ = false := by
          have := HXX.out.2.1
          simp [World.frozen?, this]
        have HL3 : Hid ((w3.setCell ⟨gl, k, none⟩ (.int .i64 ((rdM l).nth k))).heap[gl]? = some (.cells (rdC l (k + 1)).toArray 178 (0, 0))) := hidden (by
          rw [← rdC_set l k hlt]
          exact set_row HXX.out.2.1)
        have HR3 : Hid (∀ v, (w3.setCell ⟨gl, k, none⟩ v).heap[w.heap.size]? = some (.cells (mtC Mt.z) 45 (0, 0))) := hidden fun v => (Below.heap_setCell _ _ _ _ (by exact hgr)).trans HXX.out.1
        have HB3 : Hid (∀ v, Below w.heap.size w (w3.setCell ⟨gl, k, none⟩ v)) := hidden fun v => HXX.out.2.2.1.setCell (p := ⟨gl, k, none⟩) hgr2 v
        generalize (rdM l).nth k = N at *
        have hwy := HNY.out
        clear HY h2 HN hz hxw HXX
        go_wp2
        go_roundw
        case rel => exact ⟨k + 1, by omega, by go_num, HN2.out, HR3.out _, HL3, HB3.out _⟩
        case measure => simp [intOf]; omega
      · have hc2 : (c == 0) = false := by simpa using hc
        have HC := hidden hc
        have H40 := hidden (HE.out h1)
        have HXR := hidden HXX.out.1
        have HBR := hidden (below_setRow HXX.out.2.2.1 (Nat.le_refl _) (mtC Mt.z))
        have HXS : Hid ((w3.setRow w.heap.size (mtC Mt.z)).heap[w.heap.size]? = some (.cells (mtC Mt.z) 45 (0, 0))) := hidden (setRow_heap _ _ _ _ _ _ HXR.out)
        clear HY HXX hc HE h1 HI2 HIN
        go_wp2_with (refine wpList_store_row rfl _ _ _ rfl w.heap.size (mtC Mt.z) (by rfl) (by rfl) 45 _ HXR.out (mtC_size _) (by rfl) (mtC_one _) ?_)
        refine bodyPost_ret (results_row2 rfl _ _ w.heap.size 45 (mtC Mt.z) (0, 0) _ (.int .i64 c) (by rfl) (by rfl) HXS.out Tryz.underlying45 rfl (mtC_size _)) rfl ?_
        exact Rd5.no (by rw [HS.out.hlen]; exact H40.out) HC.out HBR.out
    · obtain rfl : k = 8 := by omega
      have H40 : Hid (40 ≤ n) := hidden (HIN.out 7 (by omega))
      rw [rdC_all] at HL
      obtain ⟨c0, c1, c2, c3, c4, c5, c6, c7⟩ := row8 HL.out
      clear HIN
      go_wp2_with (go_at_call 110; rw [← mtV_eq]; refine (metaOf_any (rdM l) _).mono ?_; rintro e w3 ⟨rfl, hb3⟩; have HB3 := hidden hb3; clear hb3; rw [mtV_eq]; refine Hid.out ?_)
      apply hidden
      have HXR := hidden (box_on HR.out HB3.out)
      have HBR := hidden (below_setRow (bl_go HB.out (Nat.le_refl _) HB3.out) (Nat.le_refl _) (mtC (rdM l)))
      have HXS : Hid ((w3.setRow w.heap.size (mtC (rdM l))).heap[w.heap.size]? = some (.cells (mtC (rdM l)) 45 (0, 0))) := hidden (setRow_heap _ _ _ _ _ _ HXR.out)
      clear c0 c1 c2 c3 c4 c5 c6 c7 HR HL HB HB3
      go_wp2_with (refine wpList_store_row rfl _ _ _ rfl w.heap.size (mtC (rdM l)) (by rfl) (by rfl) 45 _ HXR.out (mtC_size _) (by rfl) (mtC_one _) ?_)
      refine bodyPost_ret (results_row2 rfl _ _ w.heap.size 45 (mtC (rdM l)) (0, 0) _ (.int .i64 0) (by rfl) (by rfl) HXS.out Tryz.underlying45 rfl (mtC_size _)) rfl ?_
      exact Rd5.yes (by rw [HS.out.hlen]; exact H40.out) HBR.out
end Go.Proofs.YtbnjojplfbibkaaGreatDoor
