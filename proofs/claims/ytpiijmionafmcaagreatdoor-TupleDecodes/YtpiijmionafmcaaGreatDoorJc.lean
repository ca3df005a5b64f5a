/- The law's lists: the rows of items that are owned, in order. -/
import Derived.Test.YtpiijmionafmcaaGreatDoorJb
import Derived.Test.YtpiijmionafmcaaGreatDoorTuY
namespace Go.Proofs.YtpiijmionafmcaaGreatDoor
open Go.RowKit
namespace Om

set_option maxRecDepth 100000 in
theorem Its.len_sz : ∀ l : Its, l.len ≤ l.sz
  | .nil => Nat.le_refl _
  | .cons _ _ _ s r => by
    have := Its.len_sz r
    simp only [Its.len, Its.sz]
    omega
set_option maxRecDepth 100000 in
/-- Items that were read are no more than the bytes that they were read of. -/
theorem rdL_sz (V : ByteArray → Bool) (l : List Int) (hw : Wf l) (hl : l.length ≤ 140737488355328) : ∀ (N p : Nat) (d : Int) (j : Nat), p ≤ l.length → j ≤ 64 → 2 * (l.length - p) + 2 ≤ N → (rdL V l N p d j).1.sz ≤ l.length - p ∧ ((rdL V l N p d j).2.2 = 0 → (((rdL V l N p d j).1.sz + p : Nat) : Int) ≤ (rdL V l N p d j).2.1)
  | 0, _, _, _, _, _, h => by omega
  | N + 1, p, d, j, hp, hj, hN => by
    rw [rdL]
    split
    · split
      · exact ⟨Nat.zero_le _, fun h => by simp at h⟩
      · exact ⟨Nat.zero_le _, fun _ => by simp only [Its.sz]; omega⟩
    · rename_i h1
      split
      · exact ⟨Nat.zero_le _, fun _ => by simp only [Its.sz]; omega⟩
      · split
        · exact ⟨Nat.zero_le _, fun h => by simp at h⟩
        · rename_i h2 h3
          split
          · exact ⟨Nat.zero_le _, fun h => by simp at h⟩
          · rename_i h4
            have hx := rdX_ok V (fun p d => rdL V l N p d 0) l (p + 1) (l.getD p 0 - 16) d hw (by omega) (fun _ => (rdL_ok V l hw hl N (p + 1) (d + 1) 0 (by omega) (by omega) (by omega)).1)
            have hy : (rdX V (fun p d => rdL V l N p d 0) l (p + 1) (l.getD p 0 - 16) d).2.2 = 0 → (((rdX V (fun p d => rdL V l N p d 0) l (p + 1) (l.getD p 0 - 16) d).1.2.2.sz + (p + 1) : Nat) : Int) ≤ (rdX V (fun p d => rdL V l N p d 0) l (p + 1) (l.getD p 0 - 16) d).2.1 := by
              intro he
              have hq := hx.2.2.2.2.1 he
              revert he hq
              unfold rdX
              split
              · intro _ hq; simp only [Its.sz] at hq ⊢; omega
              · split
                · intro _ hq; simp only [Its.sz] at hq ⊢; omega
                · split
                  · intro _ hq; simp only [Its.sz] at hq ⊢; omega
                  · split
                    · intro he _
                      exact (rdL_sz V l hw hl N (p + 1) (d + 1) 0 (by omega) (by omega) (by omega)).2 he
                    · intro _ hq; simp only [Its.sz] at hq ⊢; omega
            generalize rdX V (fun p d => rdL V l N p d 0) l (p + 1) (l.getD p 0 - 16) d = x at *
            obtain ⟨x1, x2, x3, x4, x5, x6⟩ := hx
            split
            · rename_i h5
              exact ⟨Nat.zero_le _, fun h => absurd h h5⟩
            · rename_i h5
              have h6 : x.2.2 = 0 := Decidable.not_not.1 h5
              have hq := x5 h6
              have hr := rdL_sz V l hw hl N x.2.1.toNat d (j + 1) (by omega) (by omega) (by omega)
              have hro := (rdL_ok V l hw hl N x.2.1.toNat d (j + 1) (by omega) (by omega) (by omega)).1
              generalize rdL V l N x.2.1.toNat d (j + 1) = r at *
              split
              · rename_i h7
                exact ⟨Nat.zero_le _, fun h => absurd h h7⟩
              · rename_i h7
                have h8 : r.2.2 = 0 := Decidable.not_not.1 h7
                have hq2 := hr.2 h8
                have hq3 := hro.2.2.1 h8
                have hy1 := hy h6
                refine ⟨?_, fun _ => ?_⟩ <;> simp only [Its.sz] <;> omega
set_option maxRecDepth 100000 in
theorem dcR_sz (V : ByteArray → Bool) (l : List Int) (hw : Wf l) : (dcR V l).1.sz ≤ 65536 := by
  unfold dcR
  split
  · exact Nat.zero_le _
  · have := (rdL_sz V l hw (by omega) (2 * l.length + 3) 0 0 0 (by omega) (by omega) (by omega)).1
    simp only
    omega
/-- Rows of items that are owned, none twice, their blocks among F. -/
structure Lst (w : World) (B : Nat) (LV : List Value) (F : List Nat) : Prop where
  own : ∀ u ∈ LV, ∃ n vs, n ≤ 65536 ∧ w.ownsRow B 36 4 u n vs
  nod : (LV.filterMap Value.ownBlock).Nodup
  sub : ∀ g ∈ LV.filterMap Value.ownBlock, g ∈ F
set_option maxRecDepth 100000 in
theorem Lst.nil (w : World) (B : Nat) (F : List Nat) : Lst w B [] F := ⟨fun _ h => (by cases h), List.nodup_nil, fun _ h => (by cases h)⟩
set_option maxRecDepth 100000 in
theorem Lst.more {w : World} {B : Nat} {LV : List Value} {F G : List Nat} (h : Lst w B LV F) (hs : ∀ g ∈ F, g ∈ G) : Lst w B LV G := ⟨h.own, h.nod, fun g hg => hs g (h.sub g hg)⟩
set_option maxRecDepth 100000 in
theorem Lst.app {w : World} {B : Nat} {LV LV' : List Value} {F G : List Nat} (h : Lst w B LV F) (k : Lst w B LV' G) (hn : ∀ g ∈ F, g ∈ G → False) : Lst w B (LV ++ LV') (F ++ G) := by
  refine ⟨fun u hu => ?_, ?_, fun g hg => ?_⟩
  · rcases List.mem_append.1 hu with hu | hu
    · exact h.own u hu
    · exact k.own u hu
  · rw [List.filterMap_append]
    refine List.nodup_append.2 ⟨h.nod, k.nod, fun a ha b hb e => ?_⟩
    subst e
    exact hn a (h.sub a ha) (k.sub a hb)
  · rw [List.filterMap_append, List.mem_append] at hg
    rw [List.mem_append]
    rcases hg with hg | hg
    · exact .inl (h.sub g hg)
    · exact .inr (k.sub g hg)
set_option maxRecDepth 100000 in
theorem Lst.keep {w w' : World} {B : Nat} {LV : List Value} {F : List Nat} (h : Lst w B LV F) (hk : ∀ g ∈ F, w'.heap[g]? = w.heap[g]?) : Lst w' B LV F :=
  ⟨fun u hu => by
    obtain ⟨n, vs, h1, h2⟩ := h.own u hu
    exact ⟨n, vs, h1, row_keep h2 fun g hg => hk g (h.sub g (List.mem_filterMap.2 ⟨u, hu, hg⟩))⟩, h.nod, h.sub⟩
set_option maxRecDepth 100000 in
theorem Lst.lift {w : World} {B C : Nat} {LV : List Value} {F : List Nat} (h : Lst w B LV F) (hC : C ≤ B) : Lst w C LV F :=
  ⟨fun u hu => by
    obtain ⟨n, vs, h1, h2⟩ := h.own u hu
    exact ⟨n, vs, h1, row_lift h2 hC⟩, h.nod, h.sub⟩
set_option maxRecDepth 100000 in
theorem Lst.one {w : World} {B n : Nat} {v : Value} {vs : List Value} {F : List Nat} (h : w.ownsRow B 36 4 v n vs) (hn : n ≤ 65536) (hF : ∀ g, v.ownBlock = some g → g ∈ F) : Lst w B [v] F := by
  refine ⟨fun u hu => ?_, ?_, fun g hg => ?_⟩
  · rw [List.mem_singleton] at hu
    subst hu
    exact ⟨n, vs, hn, h⟩
  · cases e : v.ownBlock <;> simp [List.filterMap, e]
  · rw [List.mem_filterMap] at hg
    obtain ⟨u, hu, hg⟩ := hg
    rw [List.mem_singleton] at hu
    subst hu
    exact hF g hg
set_option maxRecDepth 100000 in
theorem row_ty {w : World} {B n : Nat} {v : Value} {xs : List Value} (h : w.ownsRow B 36 4 v n xs) {g : Nat} (hg : v.ownBlock = some g) : ∃ cs fz, w.heap[g]? = some (.cells cs 36 fz) := by
  rcases h.2 with ⟨rfl, _⟩ | ⟨g', c, cur, rfl, _, hh, _⟩
  · cases hg
  · injection hg with hg
    have hg' : g' = g := hg
    rw [← hg']
    exact ⟨_, _, hh⟩
set_option maxRecDepth 100000 in
theorem Ow_ty {w : World} {B : Nat} : ∀ (l : Its) (xs : List Value) (F : List Nat), l.Ow w B xs F → ∀ g ∈ F, ∃ cs fz, w.heap[g]? = some (.cells cs 36 fz)
  | .nil, _, _, h, g, hg => by rw [h.2] at hg; cases hg
  | .cons k n t sub r, xs, F, h, g, hg => by
    obtain ⟨sv, ys, xs', F1, F2, e, h1, h2, h3, rfl⟩ := h
    simp only [List.mem_append, Option.mem_toList] at hg
    rcases hg with (hg | hg) | hg
    · exact row_ty h1 hg
    · exact Ow_ty sub ys F1 h2 g hg
    · exact Ow_ty r xs' F2 h3 g hg
set_option maxRecDepth 100000 in
theorem OwI_ty {w : World} {B : Nat} {v : Value} {l : Its} {F : List Nat} (h : OwI w B v l F) : ∀ g ∈ F, ∃ cs fz, w.heap[g]? = some (.cells cs 36 fz) := by
  obtain ⟨ys, F1, h1, h2, rfl, h4⟩ := h
  intro g hg
  simp only [List.mem_append, Option.mem_toList] at hg
  rcases hg with hg | hg
  · exact row_ty h1 hg
  · exact Ow_ty l ys F1 h2 g hg
set_option maxRecDepth 100000 in
/-- Owned items stay where rows of rows grow. -/
theorem OwI_grow {w w' : World} {B C : Nat} {v vo vo' : Value} {l : Its} {F : List Nat} {xs : List Value} (h : OwI w B v l F) (hY : OwnY w C vo xs) (hg : Gr w vo w' vo') : OwI w' B v l F := h.keep fun g hgm => by
  obtain ⟨cs, fz, e⟩ := OwI_ty h g hgm
  exact hg.grow.block g (lt_some e) (fun e2 => hY.noty e c_neY e2.symm)
set_option maxRecDepth 100000 in
theorem Lst_grow {w w' : World} {B C : Nat} {vo vo' : Value} {LV : List Value} {F : List Nat} {xs : List Value} (h : Lst w B LV F) (hY : OwnY w C vo xs) (hg : Gr w vo w' vo') : Lst w' B LV F :=
  ⟨fun u hu => by
    obtain ⟨n, vs, h1, h2⟩ := h.own u hu
    refine ⟨n, vs, h1, row_keep h2 fun g hgm => ?_⟩
    obtain ⟨cs, fz, e⟩ := row_ty h2 hgm
    exact hg.grow.block g (lt_some e) (fun e2 => hY.noty e c_neY e2.symm), h.nod, h.sub⟩
set_option maxRecDepth 100000 in
theorem drop4 (a b c d : Value) (xs : List Value) : ([a, b, c, d] ++ xs).drop 4 = xs := rfl
/-- What lists answers. -/
def LsTo (w : World) (B C : Nat) (vo : Value) (xs : List Value) (l : Its) (F : List Nat) (e : Ending) (w' : World) : Prop :=
  ∃ vo' LV, e = .returned vo' ∧ OwnY w' C vo' (xs ++ LV) ∧ Gr w vo w' vo' ∧ Lst w B LV F ∧ LV.length = l.sz + 1
set_option maxHeartbeats 4000000 in
set_option maxRecDepth 100000 in
theorem lists_all : ∀ (K : Nat) (l : Its), l.sz < K → ∀ (v vo : Value) (F : List Nat) (xs : List Value) (w : World) (B C : Nat), OwI w B v l F → OwnY w C vo xs → l.sz ≤ 65536 → xs.length + l.sz + 1 ≤ 10000000 → C ≤ w.heap.size →
    Calls Tryz.prog 8 #[v, vo] w (LsTo w B C vo xs l F)
  | 0, _, h, _, _, _, _, _, _, _, _, _, _, _, _ => by omega
  | K + 1, l, hK, v, vo, F, xs, w, B, C, hO, hY, hsz, hxl, hC => by
    obtain ⟨ys, F1, hrow, how, hFe, hnd⟩ := hO
    have hll := Its.len_sz l
    obtain ⟨so, sc, rfl⟩ := OwI.form' (⟨ys, F1, hrow, how, hFe, hnd⟩ : OwI w B v l F)
    have HROW := hidden hrow
    have HOW := hidden how
    have HFE := hidden hFe
    have HND := hidden hnd
    have HY := hidden hY
    have HC := hidden hC
    obtain ⟨ln, hln⟩ : ∃ ln, l.len = ln := ⟨_, rfl⟩
    rw [hln] at HROW HFE hll ⊢
    have HLN := hidden hln
    have hlnI : (ln : Int) ≤ 65536 := by omega
    have hvs : ∃ zo z1 z2, vo = .slice zo z1 z2 := by
      obtain ⟨ao, c, e, _⟩ := hY.cells
      exact ⟨_, _, _, e⟩
    obtain ⟨zo, z1, z2, rfl⟩ := hvs
    clear hrow how hFe hnd hY hC hln
    go_enter Tryz.func8, Tryz.ntmps8
    go_wp2_with fail
    go_loopw [1, 5] (fun vx x wr => ∃ (i : Nat) (LV : List Value) (Fa Fb : List Nat) (ao : Option Addr) (m c : Nat), i ≤ ln ∧ x = .int .i64 (i : Int) ∧ vx = .slice ao m c ∧ Hid (F1 = Fa ++ Fb) ∧ Hid ((l.drop i).Ow w B (ys.drop (4 * i)) Fb) ∧ Hid (OwnY wr C (.slice ao m c) (xs ++ LV)) ∧ Hid (Gr w (.slice zo z1 z2) wr (.slice ao m c)) ∧ Hid (Lst w B LV Fa) ∧ Hid (LV.length + (l.drop i).sz = l.sz)) (fun _ x _ => ln - (intOf x).toNat)
    case atStart => exact ⟨0, [], [], F1, zo, z1, z2, by omega, rfl, rfl, hidden rfl, hidden (by simpa [Its.drop] using HOW.out), hidden (by simpa using HY.out), hidden (Gr.refl _ _), hidden (Lst.nil _ _ _), hidden (by simp [Its.drop])⟩
    case round =>
      obtain ⟨i, LV, Fa, Fb, ao, m, c, hi, rfl, rfl, HF, HOb, HYb, HG, HL, HLL⟩ := hrel
      by_cases hlt : i < ln
      · have hltI : (i : Int) < (ln : Int) := by omega
        obtain ⟨k0, n0, t0, sub, r, hd, hd1⟩ := Its.drop_cons l i (by rw [HLN.out]; exact hlt)
        have hob := HOb.out
        rw [hd] at hob
        obtain ⟨sv, ys', xs', G1, G2, he, hs1, hs2, hs3, hFb⟩ := hob
        have hnd0 : (F1).Nodup := by
          have := HND.out
          rw [HFE.out] at this
          exact (List.nodup_append.1 this).2.1
        have hsubnd : (sv.ownBlock.toList ++ G1).Nodup := by
          rw [HF.out, hFb] at hnd0
          exact (List.nodup_append.1 (List.nodup_append.1 hnd0).2.1).1
        have hcross : ∀ g ∈ Fa, g ∈ sv.ownBlock.toList ++ G1 → False := fun g h1 h2 => by
          rw [HF.out, hFb] at hnd0
          exact (List.nodup_append.1 hnd0).2.2 g h1 g (List.mem_append.2 (.inl h2)) rfl
        have hOs : OwI w B sv sub (sv.ownBlock.toList ++ G1) := ⟨ys', G1, hs1, hs2, rfl, hsubnd⟩
        have hssz := HLL.out
        rw [hd] at hssz
        simp only [Its.sz] at hssz
        have hcell : ∃ R, so = some ⟨R, 0, none⟩ ∧ wr.cell? ⟨R, i * 4 + 3, none⟩ = some sv := by
          have hr := HROW.out
          rcases hr.2 with ⟨_, h0⟩ | ⟨R, cap, cur, e, _, hh, _⟩
          · omega
          · injection e with e1 _ _
            subst e1
            refine ⟨R, rfl, ?_⟩
            have e2 : ys[i * 4 + 3]? = some sv := by
              have : (ys.drop (4 * i))[3]? = some sv := by rw [he]; rfl
              rw [List.getElem?_drop] at this
              rw [show i * 4 + 3 = 4 * i + 3 by omega]
              exact this
            have e3 := World.ownsRow.cells hr rfl (i * 4 + 3) sv e2
            rw [row_add, Nat.zero_add] at e3
            exact (HG.out.cell ⟨R, i * 4 + 3, none⟩ (heap_lt hh) (fun e4 => HY.out.noty hh c_neY e4.symm)).trans e3
        obtain ⟨R, rfl, cR⟩ := hcell
        have HCL := hidden (lists_all K sub (by omega) sv (.slice ao m c) (sv.ownBlock.toList ++ G1) (xs ++ LV) wr B C (OwI_grow hOs HY.out HG.out) HYb.out (by omega) (by rw [List.length_append]; omega) (Nat.le_trans HC.out HG.out.grow.size))
        obtain ⟨s0, s1, s2, rfl⟩ := hOs.form
        have HCR := hidden hcross
        have HOs := hidden hOs
        have HSS := hidden hssz
        have HHD := hidden hd1
        have HHS := hidden hs3
        have HFB := hidden hFb
        have HYE : Hid (ys.drop (4 * (i + 1)) = xs') := hidden (by
          rw [show 4 * (i + 1) = 4 * i + 4 by omega, ← List.drop_drop, he, drop4])
        clear hnd0 hsubnd hcross hOs hssz hd hd1 hs1 hs2 hs3 he hFb
        go_wp2_with (go_at_call 8; refine HCL.out.mono ?_; rintro e w1 ⟨v1, LV1, rfl, hy1, hg1, hl1, hn1⟩; obtain ⟨a1, c1, rfl, _⟩ := hy1.cells; obtain ⟨L1, hL1⟩ : ∃ L1, (xs ++ LV ++ LV1).length = L1 := ⟨_, rfl⟩; rw [hL1] at hy1 hg1 ⊢; clear hL1; have HY1 := hidden hy1; have HG1 := hidden hg1; have HL1 := hidden hl1; have HN1 := hidden hn1; clear hy1 hg1 hl1 hn1)
        go_roundw
        case rel =>
          refine ⟨i + 1, LV ++ LV1, Fa ++ ((Value.slice s0 s1 s2).ownBlock.toList ++ G1), G2, _, _, _, by omega, by go_num, rfl, hidden (by rw [HF.out, HFB.out]; simp only [List.append_assoc]), hidden (by rw [HHD.out, HYE.out]; exact HHS.out), hidden (by have := HY1.out; rwa [List.append_assoc] at this), hidden (HG.out.trans HG1.out), hidden (HL.out.app ?_ HCR.out), hidden ?_⟩
          · have h1 := HL1.out
            exact ⟨fun u hu => by
              obtain ⟨n, vs, h2, h3⟩ := h1.own u hu
              refine ⟨n, vs, h2, row_keep h3 fun g hg => ?_⟩
              have hgm := h1.sub g (List.mem_filterMap.2 ⟨u, hu, hg⟩)
              obtain ⟨cs, fz, e⟩ := OwI_ty HOs.out g hgm
              exact (HG.out.grow.block g (lt_some e) (fun e2 => HY.out.noty e c_neY e2.symm)).symm, h1.nod, h1.sub⟩
          · rw [List.length_append, HN1.out, HHD.out]
            have := HSS.out
            omega
        case measure => simp [intOf]; omega
      · obtain rfl : i = ln := by omega
        have hltI : ¬ (i : Int) < (i : Int) := by omega
        have hd : l.drop i = .nil := by rw [← HLN.out, Its.drop_all]
        have hLl : LV.length = l.sz := by
          have := HLL.out
          rw [hd] at this
          simpa [Its.sz] using this
        have hFb : Fb = [] := by
          have := HOb.out
          rw [hd] at this
          exact this.2
        obtain ⟨y, hy⟩ : ∃ y, wr.alloc (.cells #[.slice so i sc] 25) = y := ⟨_, rfl⟩
        have hby : Below wr.heap.size wr y := by rw [← hy]; exact (Below.refl _ _).alloc (Nat.le_refl _) _
        have hcy : y.cell? ⟨wr.heap.size, 0, none⟩ = some (.slice so i sc) := by rw [← hy]; simp
        have HYY := hidden (HYb.out.on hby)
        have hBy : C ≤ y.heap.size := Nat.le_trans HC.out (Nat.le_trans HG.out.grow.size hby.size)
        have HBY := hidden hby
        have hxl2 : (xs ++ LV).length + 1 ≤ 100000000 := by rw [List.length_append]; omega
        have HLL2 := hidden hLl
        have HFB := hidden hFb
        clear hd hLl hFb hby
        go_wp2_with (at_builtin; refine app_y _ rfl _ _ rfl C (xs ++ LV) _ (.slice so i sc) rfl rfl HYY.out wr.heap.size rfl hcy hxl2 hBy ?_; refine Hid.out ?_)
        apply hidden
        intro v2 w2 hy2 hg2
        obtain ⟨a2, c2, rfl, _⟩ := hy2.cells
        have hass : xs ++ LV ++ [Value.slice so i sc] = xs ++ (LV ++ [Value.slice so i sc]) := List.append_assoc _ _ _
        try rw [hass] at hy2 hg2 ⊢
        obtain ⟨L2, hL2⟩ : ∃ L2, (xs ++ (LV ++ [Value.slice so i sc])).length = L2 := ⟨_, rfl⟩
        rw [hL2] at hy2 hg2 ⊢
        clear hL2 hass
        have HY2 := hidden hy2
        have HG2 := hidden hg2
        clear hy2 hg2 hcy hy
        go_wp2
        go_ret
        refine ⟨.slice a2 L2 c2, LV ++ [.slice so i sc], rfl, HY2.out, HG.out.trans ((Gr.ofBelow _ HBY.out).trans HG2.out), ?_, by rw [List.length_append, HLL2.out]; rfl⟩
        have hF1 : F1 = Fa := by rw [HF.out, HFB.out, List.append_nil]
        have hA : Lst w B [.slice so i sc] (Value.slice so i sc).ownBlock.toList := Lst.one HROW.out (by omega) (fun g hg => by rw [Option.mem_toList]; exact hg)
        refine (HL.out.app hA (fun g h1 h2 => ?_)).more (fun g hg => ?_)
        · have := HND.out
          rw [HFE.out] at this
          exact (List.nodup_append.1 this).2.2 g h2 g (by rw [hF1]; exact h1) rfl
        · rw [HFE.out, hF1]
          rw [List.mem_append] at hg ⊢
          exact hg.symm
end Om
end Go.Proofs.YtpiijmionafmcaaGreatDoor

/- The law's items, of the rows that lists tells. -/

namespace Go.Proofs.YtpiijmionafmcaaGreatDoor
open Go.RowKit
namespace Om

set_option maxRecDepth 100000 in
theorem nod_ne : ∀ (LV : List Value), (LV.filterMap Value.ownBlock).Nodup → ∀ (t t' : Nat) (u u' : Value), LV[t]? = some u → LV[t']? = some u' → t ≠ t' → u.ownBlock = none ∨ u.ownBlock ≠ u'.ownBlock
  | [], _, _, _, _, _, h, _, _ => by simp at h
  | v :: r, hn, t, t', u, u', ht, ht', hne => by
    have hr : (r.filterMap Value.ownBlock).Nodup := by
      cases e : v.ownBlock with
      | none => rwa [List.filterMap_cons_none e] at hn
      | some g =>
        rw [List.filterMap_cons_some e] at hn
        exact (List.nodup_cons.1 hn).2
    have hv : ∀ (s : Nat) (y : Value), r[s]? = some y → ∀ g, v.ownBlock = some g → y.ownBlock ≠ some g := fun s y hy g hg e => by
      rw [List.filterMap_cons_some hg] at hn
      exact (List.nodup_cons.1 hn).1 (List.mem_filterMap.2 ⟨y, List.mem_of_getElem? hy, e⟩)
    cases t with
    | zero =>
      cases t' with
      | zero => exact absurd rfl hne
      | succ s =>
        simp only [List.getElem?_cons_zero, Option.some.injEq] at ht
        simp only [List.getElem?_cons_succ] at ht'
        subst ht
        cases e : v.ownBlock with
        | none => exact .inl rfl
        | some g => exact .inr fun e2 => hv s u' ht' g e e2.symm
    | succ s =>
      simp only [List.getElem?_cons_succ] at ht
      cases t' with
      | zero =>
        simp only [List.getElem?_cons_zero, Option.some.injEq] at ht'
        subst ht'
        cases e : u.ownBlock with
        | none => exact .inl rfl
        | some g => exact .inr fun e2 => hv s u ht g e2.symm e
      | succ s' =>
        simp only [List.getElem?_cons_succ] at ht'
        exact nod_ne r hr s s' u u' ht ht' (by omega)
/-- How long the list at a place is. -/
def nnOf (LV : List Value) (t : Nat) : Nat :=
  match LV[t]? with
  | some (.slice _ n _) => if n ≤ 65536 then n else 0
  | _ => 0
set_option maxRecDepth 100000 in
theorem nnOf_le (LV : List Value) (t : Nat) : nnOf LV t ≤ 100000 := by
  unfold nnOf
  split
  · split <;> omega
  · omega
set_option maxRecDepth 100000 in
theorem Lst.at {w : World} {B : Nat} {LV : List Value} {F : List Nat} (h : Lst w B LV F) (t : Nat) (u : Value) (ht : LV[t]? = some u) : OwnP w B u (nnOf LV t) 0 t := by
  obtain ⟨n, vs, h1, h2⟩ := h.own u (List.mem_of_getElem? ht)
  have e : nnOf LV t = n := by
    unfold nnOf
    rw [ht]
    rcases h2.2 with ⟨rfl, h0⟩ | ⟨g, cap, cur, rfl, _⟩
    · simp [h0]
    · simp [h1]
  rw [e]
  exact ⟨vs, h2, fun _ hx => by omega⟩
set_option maxRecDepth 100000 in
theorem items_lst (w : World) (B N : Nat) (lo : Option Addr) (lc : Nat) (LV : List Value) (F : List Nat) (hY : OwnY w B (.slice lo N lc) LV) (hN : LV.length = N) (hN2 : N ≤ 400000) (hL : Lst w B LV F) (hB : B ≤ w.heap.size) :
    Calls Tryz.prog 9 #[.slice lo N lc] w fun e u => e = .returned (.bool true) ∧ Hid (Below B w u) :=
  items_any w B N lo lc LV (nnOf LV) hY hN hN2 (fun t u ht => hL.at t u ht) (nod_ne LV hL.nod) (nnOf_le LV) hB
end Om
end Go.Proofs.YtpiijmionafmcaaGreatDoor
