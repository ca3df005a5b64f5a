import Derived.Test.YtoejadhlkamcjaaDoorJ44
import Derived.BigQuiet
import Derived.Test.YtoejadhlkamcjaaDoorJ23
import Derived.Test.YtoejadhlkamcjaaDoorJ37
import Derived.Test.YtoejadhlkamcjaaDoorJ25
import Derived.Test.YtoejadhlkamcjaaDoorJ27
namespace Go.Proofs.YtoejadhlkamcjaaDoor
set_option maxRecDepth 100000
open Go.RowKit Go.Maps
set_option maxHeartbeats 4000000 in
theorem alike9 {w : World} {B x b m b2 m2 P T t : Nat} (h : Pp9 w B x b m b2 m2 P T t) (hT : T ≤ 65534) :
  Calls Tryd.prog 7 #[.pointer (some ⟨x, 0, none⟩)] w fun e u => e = .returned (.bool true) ∧ Hid (Below w.heap.size w u) := by
 obtain ⟨rd, M, N, ct, K, rb, R, FL, its, lss, hs, hco, hrest⟩ := h
 obtain ⟨c0, c1⟩ := hs.cells
 have hxl := lt_some hs.row
 have hT2 : ((T : Int) + 2 - 2).toNat = T := by omega
 have HT2' := hidden hT2
 obtain ⟨L, hL⟩ : ∃ L, tkL M T = L := ⟨_, rfl⟩
 have hLN : tkL N T = L := by rw [← hL]; exact (tkL_iso (con_iso hco) _).symm
 have hll : L.length ≤ 65536 := by have := tkL_length M T; rw [hL] at this; omega
 obtain ⟨ln, hln⟩ : ∃ ln, L.length = ln := ⟨_, rfl⟩
 rw [hln] at hll
 have HLN := hidden (And.intro hLN hln)
 have HT1 := hidden (taken_list hs.br (by omega) (by omega))
 rw [hT2, hL] at HT1
 have HS := hidden hs
 have HCO := hidden hco
 have HXL := hidden hxl
 clear hs hco hrest hxl hL hLN hln hT2
 go_enter Tryd.func7, Tryd.ntmps7
 go_upto_region 2 with (first
  | (go_at_call 8; refine HT1.out.mono ?_; rintro e w1 ⟨v, rfl, HO1, HW1⟩; refine Hid.out ?_; apply hidden))
 clear HT1
 have c1' : w1.cell? ⟨x, 1, none⟩ = some (pB b2) := (HW1.out.cell (p := ⟨x, 1, none⟩) HXL.out).trans c1
 have c0' : w1.cell? ⟨x, 0, none⟩ = some (pB b) := (HW1.out.cell (p := ⟨x, 0, none⟩) HXL.out).trans c0
 have HXL1 : Hid (x < w1.heap.size) := hidden (Nat.lt_of_lt_of_le HXL.out HW1.out.size)
 have HT2 := hidden (taken_list (HS.out.bd.on HW1.out) (by omega) (by omega))
 rw [HT2'.out, HLN.out.1] at HT2
 obtain ⟨ao, ac, rfl, hj1⟩ := HO1.out.sl
 rw [HLN.out.2] at HO1 hj1 ⊢
 clear c0 c1 HXL
 go_upto_region 3 with (first
  | (go_at_call 8; refine HT2.out.mono ?_; rintro e w2 ⟨v2, rfl, HO2, HW2⟩; refine Hid.out ?_; apply hidden))
 clear HT2
 have d1 : w2.cell? ⟨x, 1, none⟩ = some (pB b2) := (HW2.out.cell (p := ⟨x, 1, none⟩) HXL1.out).trans c1'
 have d0 : w2.cell? ⟨x, 0, none⟩ = some (pB b) := (HW2.out.cell (p := ⟨x, 0, none⟩) HXL1.out).trans c0'
 obtain ⟨bo, bc, rfl, hj2⟩ := HO2.out.sl
 have hj3 : SlJ w2 ao ln ac L := (HO1.out.below HW2.out).slj
 have HBW : Hid (Below w.heap.size w w2) := hidden (bl_go HW1.out (Nat.le_refl _) HW2.out)
 have HS2 := hidden (HS.out.on HBW.out)
 rw [HLN.out.2] at hj2 ⊢
 have HSM := fun (u : World) (hu : Below w2.heap.size w2 u) => same9d u ao bo ln ac bc L (hj3.on9 hu) (hj2.on9 hu) (by omega)
 have HRD := fun (u : World) (hu : Below w2.heap.size w2 u) => reads_any (HS2.out.br.on hu)
 have HRE := fun (u : World) (hu : Below w2.heap.size w2 u) => reads_any (HS2.out.bd.on hu)
 have HSMH := hidden HSM
 have HRDH := hidden HRD
 have HREH := hidden HRE
 have hrd : (rd == rd) = true := by simp
 clear HSM HRD HRE hj1 hj2 hj3 HO1 HO2 HS HS2 HLN HT2' c0' c1' HW1 HW2 HXL1
 refine wp_region_quiet_lit (by kernel_rfl) (by kernel_rfl) ?_
 iterate 4 (quiet_step (fail))
 refine wpQuiet_step (fun K hK => ?_)
 go_simp
 apply Exists.intro
 refine ⟨fun _ => ?_, hK _ ?_⟩
 ·go_at_call 29
  exact Calls.quiet_of_same (HRDH.out _ (bl_drw9 (Below.refl _ _) _))
 clear hK K
 iterate 4 (quiet_step (fail))
 refine wpQuiet_step (fun K hK => ?_)
 go_simp
 apply Exists.intro
 refine ⟨fun _ => ?_, hK _ ?_⟩
 ·go_at_call 29
  exact Calls.quiet_of_same (HREH.out _ (bl_drw9 (Below.refl _ _) _))
 clear hK K
 iterate 2 (quiet_step (fail))
 iterate 2 (quiet_step (fail))
 refine wpQuiet_step (fun K hK => ?_)
 go_simp
 apply Exists.intro
 refine ⟨fun _ => ?_, hK _ ?_⟩
 ·go_at_call 25
  exact Calls.quiet_of (HSMH.out _ (bl_drw9 (Below.refl _ _) _))
 clear hK K
 iterate 2 (quiet_step (fail))
 refine wpQuiet_nil ?_
 intro _ hw'
 obtain ⟨nq, hw''⟩ := hw'
 subst hw''
 go_wp2
 go_ret
 exact ⟨rfl, hidden (bl_drw9 HBW.out _)⟩
end Go.Proofs.YtoejadhlkamcjaaDoor

namespace Go.Proofs.YtoejadhlkamcjaaDoor
set_option maxRecDepth 100000
open Go.RowKit Go.Maps
theorem old_at9 {w : World} (B : Nat) (t ty e : TypeId) (i : TypeInfo) (z : Value) (bytes : Nat) (ht : Tryd.prog.underlying t = some (.slice e)) (hi : Tryd.prog.info? e = some i) (hz : i.zero = some z)
  (hs1 : i.size = 1) (hby : i.bytes = bytes) (v : Value) (n : Nat) (xs : List Value) (hown : w.ownsRow B e 1 v n xs) (a : Addr) (y : Value) (hc : ∀ j u, [y][j]? = some u → w.cell? (a.add j) = some u) (h1 : ∀ u ∈ [y], u.oneCell' = true)
  (h63 : n + 1 ≤ maxLen) (hbytes : ((n + 1) + (n + 1) / 4 + 192) * bytes ≤ 281474976710656) {v' : Value} {w' : World} (hr : (Builtin.append_ #[t, t] ty #[v, .slice (some a) 1 1]).run Tryd.prog w = .ok v' w') (h2 : w'.ownsRow B e 1 v' (n + 1) (xs ++ [y])) :
  w'.ownsRow B e 1 v n xs := by
 have hm : maxLen ≤ 9223372036854775807 := by unfold maxLen; omega
 have hxs := hown.1
 subst hby
 rcases hown.2 with ⟨rfl, rfl⟩ | ⟨g, cap, cur, rfl, hbg, hg, hnc, hcm, hcs, htake⟩
 ·exact ⟨hown.1, .inl ⟨rfl, rfl⟩⟩
 ·by_cases hroom : n + 1 ≤ cap
  ·rw [run_append_room (P := Tryd.prog) w t ty e i ht hi g n cap cur hg a 1 1 [y] (by simp [hs1]) hc h1 hroom (by simp [hs1, hcs]; omega)] at hr
   injection hr with e1 e2
   rw [← e1] at h2
   rcases h2.2 with ⟨e3, _⟩ | ⟨g', cap', cur', e3, hg', hh', hnc', hm', hs', ht'⟩
   ·cases e3
   ·injection e3 with e4 e5 e6
    injection e4 with e4
    injection e4 with e4
    subst e4 e6
    refine ⟨hown.1, .inr ⟨g, cap, cur', rfl, hbg, hh', hnc, hcm, hs', ?_⟩⟩
    have h5 : (cur'.toList.take ((n + 1) * 1)).take (n * 1) = cur'.toList.take (n * 1) := by
     rw [List.take_take]
     congr 1
     omega
    rw [← h5, ht', ← hxs]
    exact List.take_left' rfl
  ·rw [run_append_grow (P := Tryd.prog) w t ty e i z ht hi hz ⟨g, 0, none⟩ n cap xs (by rw [hs1]; exact hown.1) (hown.cells (g := g) rfl) a 1 1 [y] (by simp [hs1]) hc (by omega) (by omega) (growslice_fits_wide (by omega) hbytes)] at hr
   injection hr with e1 e2
   rw [← e2]
   exact ⟨hown.1, .inr ⟨g, cap, cur, rfl, hbg, (Below.heap_alloc _ _ _ (lt_some hg)).trans hg, hnc, hcm, hcs, htake⟩⟩
theorem app_j2 {ops : Array Oper} {rest : List Oper} {o : Oper} {a : Act} {Q : Exit → Act → World → Prop} (w : World) (hgd : o.guard = none) (s x : Operand)
  (ho : o.op = .call { callee := .builtin .append, args := #[s, x], argTypes := #[27, 27] }) (B : Nat) (l : List Int) (y : Int) (v : Value) (g : Nat) (hs : a.eval s = v) (hx : a.eval x = .slice (some ⟨g, 0, none⟩) 1 1)
  (hown : OwnJ w B v l) (hy : w.cell? ⟨g, 0, none⟩ = some (.int .i64 y)) (hb : l.length + 1 ≤ 4000000) (hbase : B ≤ w.heap.size)
  (h : ∀ v' w', OwnJ w' B v' (l ++ [y]) → Gr w v w' v' → OwnJ w' B v l → wpList Tryd.prog ops Q rest (a.put o.dst v') w') : wpList Tryd.prog ops Q (o :: rest) a w := by
 obtain ⟨i0, hi, hz0, hz1, hz2⟩ := info_parts info64
 have hcs : ∀ j u, [Value.int .i64 y][j]? = some u → w.cell? ((⟨g, 0, none⟩ : Addr).add j) = some u := fun j u hu => by
   have hj : j = 0 := by
    have := (List.getElem?_eq_some_iff.1 hu).1
    simpa using this
   subst hj
   simp at hu
   subst hu
   simpa [Addr.add_lit] using hy
 have h1' : ∀ u ∈ [Value.int .i64 y], u.oneCell' = true := fun u hu => by simp at hu; subst hu; rfl
 have h63 : l.length + 1 ≤ maxLen := by unfold maxLen; omega
 have hby : ((l.length + 1) + (l.length + 1) / 4 + 192) * 8 ≤ 281474976710656 := by omega
 refine wpList_plain hgd fun K hK => ?_
 obtain ⟨v', w', hr, h2, h3, h4⟩ := run_append_own_wide (P := Tryd.prog) w B 27 o.type 3 i0 (.int .i64 0) 1 8 Tryd.underlying27 hi hz0 hz1 hz2 rfl (by decide) v l.length (IV l) hown ⟨g, 0, none⟩ 1 1 [.int .i64 y] rfl hcs h1' h63 hby hbase
 have h5 := own_at9 B 27 o.type 3 i0 (.int .i64 0) 8 Tryd.underlying27 hi hz0 hz1 hz2 v l.length (IV l) hown ⟨g, 0, none⟩ (.int .i64 y) hcs h1' h63 hby hr
 have h6 := old_at9 B 27 o.type 3 i0 (.int .i64 0) 8 Tryd.underlying27 hi hz0 hz1 hz2 v l.length (IV l) hown ⟨g, 0, none⟩ (.int .i64 y) hcs h1' h63 hby hr h2
 unfold Oper.wp execOp
 simp only [ho, resolve, invoke, builtin, Sem.run_bind, Sem.run_pure, Result.andThen_ok, List.map_toArray, List.map_cons, List.map_nil, hs, hx, hr]
 refine hK _ _ (h v' w' ?_ ⟨h3, h5.imp id fun e => ⟨_, e, Nat.le_refl _⟩⟩ h6)
 unfold OwnJ
 rw [List.length_append]
 simpa [IV] using h2
end Go.Proofs.YtoejadhlkamcjaaDoor

namespace Go.Proofs.YtoejadhlkamcjaaDoor
set_option maxRecDepth 100000
open Go.RowKit Go.Maps
def dOf (its : List (Value × List Int)) (t : Nat) : List Int := ((its[t]?).map (·.2)).getD []
theorem dOf_at {its : List (Value × List Int)} {t : Nat} {y : Value × List Int} (h : its[t]? = some y) : dOf its t = y.2 := by
 unfold dOf
 rw [h]
 rfl
def Bk9 (w wr : World) (B s : Nat) (its : List (Value × List Int)) (i : Nat) : Prop :=
 ∃ bv, Bo9 wr B s bv ((its.take i).map (·.1)) (dOf its) ∧ Below w.heap.size w wr ∧ ∀ g, bv.ownBlock = some g → w.heap.size ≤ g
theorem map_at {its : List (Value × List Int)} {t : Nat} {u : Value} {i : Nat} (h : ((its.take i).map (·.1))[t]? = some u) : ∃ y, its[t]? = some y ∧ y.1 = u ∧ t < i := by
 rw [List.getElem?_map] at h
 by_cases e : t < i
 ·rw [List.getElem?_take_of_lt e] at h
  cases h2 : its[t]? with
  | none => rw [h2] at h; cases h
  | some y => rw [h2] at h; exact ⟨y, rfl, by simpa using h, e⟩
 ·rw [List.getElem?_eq_none (by simp; omega)] at h
  cases h
theorem take_snoc9 {its : List (Value × List Int)} {i : Nat} {y : Value × List Int} (h : its[i]? = some y) : (its.take (i + 1)).map (·.1) = (its.take i).map (·.1) ++ [y.1] := by
 rw [List.take_add_one, h]
 simp
theorem u8_neJ : 5 ≠ 3 := by decide
theorem OwnJ.row9 {w : World} {B : Nat} {v : Value} {l : List Int} (h : OwnJ w B v l) {g : Nat} (hg : v.ownBlock = some g) : ∃ cs fz, w.heap[g]? = some (.cells cs 3 fz) := by
 unfold OwnJ at h
 rcases h.2 with ⟨rfl, _⟩ | ⟨g', cap, cur, rfl, _, hh, _⟩
 ·cases hg
 ·cases hg
  exact ⟨_, _, hh⟩
theorem OwnJ.set {w : World} {B : Nat} {n c g k : Nat} {l : List Int} (h : OwnJ w B (.slice (some ⟨g, 0, none⟩) n c) l) (hk : k < n) (y : Int) :
  (w.cell? ⟨g, k, none⟩).isSome = true ∧ w.frozen? ⟨g, k, none⟩ = false ∧ OwnJ (w.setCell ⟨g, k, none⟩ (.int .i64 y)) B (.slice (some ⟨g, 0, none⟩) n c) (l.set k y) := by
 have h1 : w.ownsRow B 3 1 (.slice (some ⟨g, 0, none⟩) n c) l.length (IV l) := h
 obtain ⟨ao', c', e, hsl⟩ := h.sl
 injection e with e1 e2 e3
 subst e1 e2 e3
 have hcell : w.cell? ⟨g, k, none⟩ = some (.int .i64 (l.getD k 0)) := by
  rcases hsl.hat with h0 | ⟨b, e, hb, hc⟩
  ·omega
  ·cases e
   exact hc k hk
 refine ⟨by rw [hcell]; rfl, ?_, ?_⟩
 ·rcases h1.2 with ⟨e, _⟩ | ⟨g', cap, cur, e, _, hh, _⟩
  ·cases e
  ·injection e with e1 _ _
   injection e1 with e1
   injection e1 with e1
   subst e1
   simp [World.frozen?, hh]
 ·have h2 := (World.ownsRow.stored h1 k (.int .i64 y)).1
  unfold OwnJ
  rw [List.length_set, show IV (l.set k y) = (IV l).set k (.int .i64 y) from by simp [IV, List.map_set]]
  exact h2
structure Lw (w wr : World) (B s : Nat) (its : List (Value × List Int)) (lss : List (Value × Value × List Int)) (C : Nat → List Int) : Prop where
 book : ∃ bv, Bo9 wr B s bv (its.map (·.1)) (dOf its) ∧ ∀ g, bv.ownBlock = some g → w.heap.size ≤ g
 cf : Cf (fun k => ∃ (t : Nat) (y : Value × Value × List Int), lss[t]? = some y ∧ y.1.ownBlock = some k) w wr
 own : ∀ (t : Nat) (y : Value × Value × List Int), lss[t]? = some y → OwnJ wr B y.1 (C t) ∧ (C t).length = y.2.2.length
theorem Bo9.cf9 {w u : World} {B s : Nat} {v : Value} {V : List Value} {D : Nat → List Int} {F : Nat → Prop} (h : Bo9 w B s v V D) (hc : Cf F w u) (h1 : ¬ F s) (h2 : ∀ k, v.ownBlock = some k → ¬ F k) (h3 : ∀ (t : Nat) (y : Value), V[t]? = some y → ∀ k, y.ownBlock = some k → ¬ F k) : Bo9 u B s v V D :=
 ⟨(hc.block s (lt_some h.box) h1).trans h.box, rows_cf h.row hc h2, fun t y ht => by
  obtain ⟨a1, a2, a3⟩ := h.own t y ht
  exact ⟨a1.cf hc (h3 t y ht), a2, a3⟩, h.ne⟩
theorem Lw.upd {w wr u : World} {B s : Nat} {its : List (Value × List Int)} {lss : List (Value × Value × List Int)} {C : Nat → List Int} {K : Nat → Prop} {R : Nat → List Value} {FL : List Int}
  (h : Lw w wr B s its lss C) (hit : It9 w B K R FL its lss) (hs : s = w.heap.size) {i : Nat} {y : Value × Value × List Int} (hi : lss[i]? = some y) (hc : Cf (fun k => y.1.ownBlock = some k) wr u) {l' : List Int} (ho : OwnJ u B y.1 l') (hl : l'.length = y.2.2.length) {C' : Nat → List Int} (hC : ∀ t, C' t = if t = i then l' else C t) : Lw w u B s its lss C' := by
 have hym := List.mem_of_getElem? hi
 have hlt : ∀ k, y.1.ownBlock = some k → k < w.heap.size := fun k e => ((hit.l1 y hym).1.lt e).2
 obtain ⟨bv, hb, hbv⟩ := h.book
 refine ⟨⟨bv, hb.cf9 hc (fun e => by have := hlt s e; omega) (fun k e q => by have := hlt k q; have := hbv k e; omega) (fun t z hz k e q => ?_), hbv⟩, h.cf.go (hc.wide fun k e => ⟨i, y, hi, e⟩), fun t z hz => ?_⟩
 ·obtain ⟨cs, fz, h2⟩ := (h.own i y hi).1.row9 q
  obtain ⟨a1, _⟩ := hb.own t z hz
  exact a1.noty h2 (fun e => u8_neJ e.symm) e
 ·rw [hC]
  by_cases e : t = i
  ·subst e
   rw [hi] at hz
   cases hz
   rw [if_pos rfl]
   exact ⟨ho, hl⟩
  ·rw [if_neg e]
   obtain ⟨a1, a2⟩ := h.own t z hz
   refine ⟨a1.cf hc fun k h1 h2 => ?_, a2⟩
   rcases (hit.lN t i z y hz hi).1 e with e2 | e2
   ·rw [e2] at h1; cases h1
   ·exact e2 (h1.trans h2.symm)
theorem Lw.cong {w wr : World} {B s : Nat} {its : List (Value × List Int)} {lss : List (Value × Value × List Int)} {C C' : Nat → List Int} (h : Lw w wr B s its lss C) (hC : ∀ (t : Nat) (y : Value × Value × List Int), lss[t]? = some y → C' t = C t) : Lw w wr B s its lss C' :=
 ⟨h.book, h.cf, fun t y ht => by rw [hC t y ht]; exact h.own t y ht⟩
theorem Lw.dr {w wr : World} {B s : Nat} {its : List (Value × List Int)} {lss : List (Value × Value × List Int)} {C : Nat → List Int} (h : Lw w wr B s its lss C) {u : World} (hb : Below wr.heap.size wr u) : Lw w u B s its lss C := by
 obtain ⟨bv, h1, h2⟩ := h.book
 exact ⟨⟨bv, h1.on hb, h2⟩, h.cf.go (Cf.of_below hb), fun t y ht => ⟨(h.own t y ht).1.below hb, (h.own t y ht).2⟩⟩
theorem Lw.oth {w wr : World} {B s : Nat} {its : List (Value × List Int)} {lss : List (Value × Value × List Int)} {C : Nat → List Int} {K : Nat → Prop} {R : Nat → List Value} {FL : List Int} (h : Lw w wr B s its lss C) (hit : It9 w B K R FL its lss) {t : Nat} {y : Value × Value × List Int} (ht : lss[t]? = some y) : OwnJ wr B y.2.1 y.2.2 :=
 (hit.l1 y (List.mem_of_getElem? ht)).2.1.cf h.cf fun k h1 ⟨t', y', h2, h3⟩ => by
  rcases (hit.lN t' t y' y h2 ht).2 with e | e
  ·rw [e] at h3; cases h3
  ·exact e (h3.trans h1.symm)
theorem Lw.cell {w wr : World} {B s : Nat} {its : List (Value × List Int)} {lss : List (Value × Value × List Int)} {C : Nat → List Int} {b : Nat} (h : Lw w wr B s its lss C) (hb : b < w.heap.size) (hn : ∀ (t : Nat) (y : Value × Value × List Int), lss[t]? = some y → y.1.ownBlock ≠ some b) (i : Nat) : wr.cell? ⟨b, i, none⟩ = w.cell? ⟨b, i, none⟩ :=
 World.cell?_of_block (h.cf.block b hb fun ⟨t, y, h1, h2⟩ => hn t y h1 h2)
def cL (lss : List (Value × Value × List Int)) (i : Nat) (k : Nat) (t : Nat) : List Int :=
 if t < i then List.replicate (((lss[t]?).map (·.2.2)).getD []).length (1000 + (t : Int))
 else if t = i then List.replicate k (1000 + (t : Int)) ++ (((lss[t]?).map (·.2.2)).getD []).drop k
 else ((lss[t]?).map (·.2.2)).getD []
theorem cL_zero (lss : List (Value × Value × List Int)) {t : Nat} {y : Value × Value × List Int} (h : lss[t]? = some y) : cL lss 0 0 t = y.2.2 := by
 unfold cL
 rw [h]
 by_cases e : t = 0
 ·subst e; simp
 ·rw [if_neg (by omega), if_neg e]; rfl
theorem cL_at {lss : List (Value × Value × List Int)} {i k : Nat} {y : Value × Value × List Int} (h : lss[i]? = some y) : cL lss i k i = List.replicate k (1000 + (i : Int)) ++ y.2.2.drop k := by
 unfold cL
 rw [if_neg (by omega), if_pos rfl, h]
 rfl
theorem cL_set {lss : List (Value × Value × List Int)} {i k : Nat} {y : Value × Value × List Int} (h : lss[i]? = some y) (hk : k < y.2.2.length) (t : Nat) : cL lss i (k + 1) t = if t = i then (cL lss i k i).set k (1000 + (i : Int)) else cL lss i k t := by
 by_cases e : t = i
 ·subst e
  rw [if_pos rfl, cL_at h, cL_at h]
  apply List.ext_getElem?
  intro j
  rw [List.getElem?_set]
  by_cases e1 : k = j
  ·subst e1
   rw [if_pos rfl, if_pos (by simp; omega), List.getElem?_append_left (by simp)]
   simp
  ·rw [if_neg e1]
   by_cases e2 : j < k
   ·rw [List.getElem?_append_left (by simp; omega), List.getElem?_append_left (by simp; omega)]
    simp [e2, show j < k + 1 by omega]
   ·rw [List.getElem?_append_right (by simp; omega), List.getElem?_append_right (by simp; omega)]
    simp only [List.length_replicate, List.getElem?_drop]
    congr 1
    omega
 ·rw [if_neg e]
  unfold cL
  rw [if_neg e, if_neg e]
theorem cL_next {lss : List (Value × Value × List Int)} {i : Nat} {y : Value × Value × List Int} (h : lss[i]? = some y) (t : Nat) : cL lss (i + 1) 0 t = cL lss i y.2.2.length t := by
 unfold cL
 by_cases e : t = i
 ·subst e
  rw [if_pos (by omega), if_neg (by omega), if_pos rfl, h]
  simp
 ·by_cases e2 : t < i
  ·rw [if_pos (by omega), if_pos e2]
  ·rw [if_neg (by omega), if_neg e2, if_neg e]
   by_cases e3 : t = i + 1
   ·rw [if_pos e3]; simp
   ·rw [if_neg e3]
theorem cL_done {lss : List (Value × Value × List Int)} {i n : Nat} {y : Value × Value × List Int} (h : lss[i]? = some y) (hi : i < n) : cL lss n 0 i = List.replicate y.2.2.length (1000 + (i : Int)) := by
 unfold cL
 rw [if_pos hi, h]
 rfl
end Go.Proofs.YtoejadhlkamcjaaDoor
