import Derived.Test.YtbkhjeacmmbabaaGreatDoorJ32
namespace Go.Proofs.YtbkhjeacmmbabaaGreatDoor
set_option maxRecDepth 100000
set_option maxHeartbeats 1000000
open Go.RowKit
theorem zel (g : Nat) : ∀ (vs : List Value) (o : Nat) (w : World), w.grownBy (w.setCells g o vs) (some g)
 | [], _, w => World.grownBy.refl w _
 | v :: vs, o, w => by
  have h1 : w.grownBy (w.setCell ⟨g, o, none⟩ v) (some g) := ⟨rfl, rfl, rfl, by simp [World.setCell], fun k _ hk => Below.heap_setCell _ _ _ _ (fun e => hk (by simp [e]))⟩
  have h2 := zel g vs (o + 1) (w.setCell ⟨g, o, none⟩ v)
  exact ⟨h2.os.trans h1.os, h2.tape.trans h1.tape, h2.output.trans h1.output, zN h1.size h2.size, fun i hi hne => (h2.block i (zO hi h1.size) hne).trans (h1.block i hi hne)⟩
theorem OwnB.sets8 {w : World} {B b N j : Nat} {v : Value} {l : List Int} {vs : List Value} (h : OwnB w B v l) (hr : RowC w b N) : OwnB (w.setCells b j vs) B v l := by
 refine World.ownsRow.kept (row := some b) h (zel b vs j w) ?_
 cases e : v.ownBlock with
 | none => exact .inl rfl
 | some z =>
  right
  intro e2
  injection e2 with e2
  subst e2
  obtain ⟨cur, h1, _⟩ := hr
  unfold OwnB at h
  rcases h.2 with ⟨rfl, _⟩ | ⟨q, c, cu, rfl, _, h2, _⟩
  ·simp [Value.ownBlock] at e
  ·simp [Value.ownBlock] at e
   subst e
   rw [h1] at h2
   injection h2 with h2
   injection h2 with _ h3
   exact absurd h3 (by decide)
end Go.Proofs.YtbkhjeacmmbabaaGreatDoor
namespace Go.Proofs.YtbkhjeacmmbabaaGreatDoor
set_option maxRecDepth 100000
set_option maxHeartbeats 1000000
open Go.RowKit
open Six
def DGt (w : World) (lo hi b off : Nat) (c : Cl) : Prop :=
 ∃ a1 c1 a2 c2, w.cell? ⟨b, off, none⟩ = some (.slice a1 c.key.length c1) ∧ w.cell? ⟨b, off + 1, none⟩ = some (.int .i64 c.kd) ∧ w.cell? ⟨b, off + 2, none⟩ = some (.slice a2 c.val.length c2) ∧ w.cell? ⟨b, off + 3, none⟩ = some (.int .i64 c.pg) ∧ w.cell? ⟨b, off + 4, none⟩ = some (.int .i64 c.ct) ∧ OwnB w lo (.slice a1 c.key.length c1) c.key ∧ OwnB w lo (.slice a2 c.val.length c2) c.val ∧ (∀ z, (Value.slice a1 c.key.length c1).ownBlock = some z → z < hi) ∧ (∀ z, (Value.slice a2 c.val.length c2).ownBlock = some z → z < hi) ∧ ((Value.slice a1 c.key.length c1).ownBlock = none ∨ (Value.slice a1 c.key.length c1).ownBlock ≠ (Value.slice a2 c.val.length c2).ownBlock)
theorem DGt.on {w w' : World} {lo hi b off : Nat} {c : Cl} (h : DGt w lo hi b off c) (hb : b < w.heap.size) (hB : Below w.heap.size w w') : DGt w' lo hi b off c := by
 obtain ⟨a1, c1, a2, c2, h0, h1, h2, h3, h4, h5, h6, h7⟩ := h
 exact ⟨a1, c1, a2, c2, (hB.cell (p := ⟨b, off, none⟩) hb).trans h0, (hB.cell (p := ⟨b, off + 1, none⟩) hb).trans h1, (hB.cell (p := ⟨b, off + 2, none⟩) hb).trans h2, (hB.cell (p := ⟨b, off + 3, none⟩) hb).trans h3, (hB.cell (p := ⟨b, off + 4, none⟩) hb).trans h4, h5.on Lr hB, h6.on Lr hB, h7⟩
theorem DGt.put {w : World} {lo hi b N i j : Nat} {c : Cl} {vs : List Value} (h : DGt w lo hi b (i * 5) c) (hr : RowC w b N) (hij : i < j) : DGt (w.setCells b (j * 5) vs) lo hi b (i * 5) c := by
 obtain ⟨a1, c1, a2, c2, h0, h1, h2, h3, h4, h5, h6, h7⟩ := h
 have ho : ∀ d, d < 5 → (w.setCells b (j * 5) vs).cell? ⟨b, i * 5 + d, none⟩ = w.cell? ⟨b, i * 5 + d, none⟩ := fun d hd => World.cell?_setCells_out b _ _ w _ (fun _ _ => .inl (by simp only; omega))
 exact ⟨a1, c1, a2, c2, (ho 0 (by omega)).trans h0, (ho 1 (by omega)).trans h1, (ho 2 (by omega)).trans h2, (ho 3 (by omega)).trans h3, (ho 4 (by omega)).trans h4, h5.sets8 hr, h6.sets8 hr, h7⟩
theorem DGt.new {w : World} {lo hi b N j : Nat} {c : Cl} {a1 a2 : Option Addr} {c1 c2 : Nat} (hr : RowC w b N) (hj : j * 5 + 5 ≤ 5 * N) (h1 : OwnB w lo (.slice a1 c.key.length c1) c.key) (h2 : OwnB w lo (.slice a2 c.val.length c2) c.val) (hh : w.heap.size ≤ hi) (h3 : ∀ z, (Value.slice a1 c.key.length c1).ownBlock = some z → ¬ (Value.slice a2 c.val.length c2).ownBlock = some z) :
  DGt (w.setCells b (j * 5) [.slice a1 c.key.length c1, .int .i64 c.kd, .slice a2 c.val.length c2, .int .i64 c.pg, .int .i64 c.ct]) lo hi b (j * 5) c := by
 have h := World.rangeAt_setCells_same w b (j * 5) [.slice a1 c.key.length c1, .int .i64 c.kd, .slice a2 c.val.length c2, .int .i64 c.pg, .int .i64 c.ct] (hr.there hj)
 refine ⟨a1, c1, a2, c2, h 0 _ rfl, h 1 _ rfl, h 2 _ rfl, h 3 _ rfl, h 4 _ rfl, h1.sets8 hr, h2.sets8 hr, fun z hz => zO (h1.blk hz).2 hh, fun z hz => zO (h2.blk hz).2 hh, ?_⟩
 cases e : (Value.slice a1 c.key.length c1).ownBlock with
 | none => exact .inl rfl
 | some z => exact .inr (fun e2 => h3 z e e2.symm)
theorem DXt.dg {w : World} {lo hi b off : Nat} {c : Cl} (h : DXt w lo hi b off c) (hl : c.key.length ≤ 65536 ∧ c.val.length ≤ 65536) : DGt w lo hi b off c := by
 obtain ⟨g1, g2, h0, h1, h2, h3, h4, b1, b2, q1, q2, q3, q4, q5⟩ := h
 exact ⟨some ⟨g1, 0, none⟩, c.key.length, some ⟨g2, 0, none⟩, c.val.length, h0, h1, h2, h3, h4, Six.Bk.own b1 q1 rfl (by omega), Six.Bk.own b2 q2 rfl (by omega), fun z hz => by injection hz with hz; rw [← hz]; exact q3, fun z hz => by injection hz with hz; rw [← hz]; exact q4, .inr (fun e => by injection e with e; exact q5 e)⟩
theorem KXt.dg {w : World} {lo hi b off : Nat} {c : Cl} (h : KXt w lo hi b off c) (hl : c.val.length ≤ 65536) : DGt w lo hi b off c := by
 obtain ⟨a1, c1, g2, h0, h1, h2, h3, h4, o1, b2, q1, q2, q3, q4⟩ := h
 exact ⟨a1, c1, some ⟨g2, 0, none⟩, c.val.length, h0, h1, h2, h3, h4, o1, Six.Bk.own b2 q2 rfl (by omega), q1, fun z hz => by injection hz with hz; rw [← hz]; exact q3, .inr q4⟩
theorem OwnB.k3 {w w' : World} {C : Nat} {u : Value} {l : List Int} (h : OwnB w C u l) (hk : K3 w w') : OwnB w' C u l := row_k3 h hk u8_ne6 u8_neX u8_neY
structure OwnG (w : World) (B g : Nat) (cs : List Cl) (P : Nat → Nat) : Prop where
 row : RowC w g cs.length
 hg : B ≤ g
 p0 : B ≤ P 0
 up : ∀ i, i < cs.length → P i ≤ P (i + 1)
 top : P cs.length ≤ w.heap.size
 at_ : ∀ i d, cs[i]? = some d → DGt w (P i) (P (i + 1)) g (i * 5) d
theorem OwnG.k3 {w w' : World} {B g : Nat} {cs : List Cl} {P : Nat → Nat} (h : OwnG w B g cs P) (hk : K3 w w') : OwnG w' B g cs P := by
 obtain ⟨cur, hr, hs⟩ := h.row
 have e : w'.heap[g]? = w.heap[g]? := hk.2 g _ _ _ hr c_ne6 c_neX c_neY
 refine ⟨⟨cur, e.trans hr, hs⟩, h.hg, h.p0, h.up, zN h.top hk.1, fun i d hd => ?_⟩
 obtain ⟨a1, c1, a2, c2, h0, h1, h2, h3, h4, h5, h6, h7⟩ := h.at_ i d hd
 exact ⟨a1, c1, a2, c2, (World.cell?_of_block (a := ⟨g, _, none⟩) e).trans h0, (World.cell?_of_block (a := ⟨g, _, none⟩) e).trans h1, (World.cell?_of_block (a := ⟨g, _, none⟩) e).trans h2, (World.cell?_of_block (a := ⟨g, _, none⟩) e).trans h3, (World.cell?_of_block (a := ⟨g, _, none⟩) e).trans h4, h5.k3 hk, h6.k3 hk, h7⟩
theorem OwnG.slc {w : World} {B g : Nat} {cs : List Cl} {P : Nat → Nat} (h : OwnG w B g cs P) (hw : ∀ c ∈ cs, c.Wf) (hl : ∀ c ∈ cs, c.key.length ≤ 65536 ∧ c.val.length ≤ 65536) (hn : cs.length ≤ 140737488355328) : SlC w (some ⟨g, 0, none⟩) cs.length cs.length cs := by
 refine ⟨rfl, Lr, hn, (by intro h; cases h), .inr ⟨g, 0, rfl, h.row.lt, fun i c hi => ?_⟩⟩
 obtain ⟨a1, c1, a2, c2, e0, e1, e2, e3, e4, e5, e6, _⟩ := h.at_ i c hi
 have hm := List.mem_of_getElem? hi
 rw [Nat.zero_add]
 exact ⟨_, _, _, _, e0, e1, e2, e3, e4, e5.sl2 (hw c hm).1 (by have := (hl c hm).1; omega), e6.sl2 (hw c hm).2 (by have := (hl c hm).2; omega)⟩
def Oc9 (w : World) (B : Nat) (ao : Option Addr) (n cap : Nat) (cs : List Cl) (P : Nat → Nat) : Prop := n = cs.length ∧ ((ao = none ∧ n = 0 ∧ cap = 0 ∧ B ≤ P 0) ∨ ∃ g, ao = some ⟨g, 0, none⟩ ∧ cap = n ∧ OwnG w B g cs P)
theorem Oc9.k3 {w w' : World} {B : Nat} {ao : Option Addr} {n cap : Nat} {cs : List Cl} {P : Nat → Nat} (h : Oc9 w B ao n cap cs P) (hk : K3 w w') : Oc9 w' B ao n cap cs P := ⟨h.1, h.2.imp id fun ⟨g, e, c, o⟩ => ⟨g, e, c, OwnG.k3 o hk⟩⟩
theorem Oc9.low {w : World} {B C : Nat} {ao : Option Addr} {n cap : Nat} {cs : List Cl} {P : Nat → Nat} (h : Oc9 w B ao n cap cs P) (hC : C ≤ B) : Oc9 w C ao n cap cs P := ⟨h.1, h.2.imp (fun ⟨a, b, c, d⟩ => ⟨a, b, c, zN hC d⟩) fun ⟨g, e, c, o⟩ => ⟨g, e, c, ⟨o.row, zN hC o.hg, zN hC o.p0, o.up, o.top, o.at_⟩⟩⟩
theorem Oc9.p0 {w : World} {B : Nat} {ao : Option Addr} {n cap : Nat} {cs : List Cl} {P : Nat → Nat} (h : Oc9 w B ao n cap cs P) : B ≤ P 0 := by
 rcases h.2 with ⟨_, _, _, h⟩ | ⟨_, _, _, o⟩
 ·exact h
 ·exact o.p0
theorem Oc9.slc {w : World} {B : Nat} {ao : Option Addr} {n cap : Nat} {cs : List Cl} {P : Nat → Nat} (h : Oc9 w B ao n cap cs P) (hw : ∀ c ∈ cs, c.Wf) (hl : ∀ c ∈ cs, c.key.length ≤ 65536 ∧ c.val.length ≤ 65536) (hn : cs.length ≤ 65536) : SlC w ao n cap cs := by
 obtain ⟨e, h⟩ := h
 rcases h with ⟨rfl, rfl, rfl, _⟩ | ⟨g, rfl, rfl, o⟩
 ·have : cs = [] := List.length_eq_zero_iff.1 e.symm
  subst this
  exact ⟨rfl, Lr, by omega, fun _ => rfl, .inl rfl⟩
 ·subst e
  exact o.slc hw hl (by omega)
theorem Oc9.ownP {w : World} {B t : Nat} {co : Option Addr} {cn cc : Nat} {cs : List Cl} {P : Nat → Nat} (h : Oc9 w B co cn cc cs P) (hl : cs.length ≤ 65536) : OwnP w B (.slice co cn cc) cn 0 t := by
 obtain ⟨e, h⟩ := h
 rcases h with ⟨rfl, rfl, rfl, _⟩ | ⟨g, rfl, rfl, o⟩
 ·exact ⟨[], World.ownsRow_nil _ _ _ _, fun a ha => by omega⟩
 ·obtain ⟨cur, hr, hs⟩ := o.row
  refine ⟨cur.toList, ⟨by rw [Array.length_toList, hs, e]; omega, .inr ⟨g, _, cur, rfl, o.hg, hr, Lr, ?_, by rw [hs, e]; omega, ?_⟩⟩, fun a ha => by omega⟩
  ·unfold maxLen
   omega
  ·rw [List.take_of_length_le]
   rw [Array.length_toList, hs, e]
   omega
def RgG (v : Value) (lo hi : Nat) : Prop := ∀ z, v.ownBlock = some z → lo ≤ z ∧ z < hi
def Got (w : World) (lo hi : Nat) (co : Option Addr) (cn cc : Nat) (cs : List Cl) : Prop := ∃ P, Oc9 w lo co cn cc cs P ∧ P cn ≤ hi ∧ RgG (.slice co cn cc) lo hi
theorem Got.k3 {w w' : World} {lo hi : Nat} {co : Option Addr} {cn cc : Nat} {cs : List Cl} (h : Got w lo hi co cn cc cs) (hk : K3 w w') : Got w' lo hi co cn cc cs := by
 obtain ⟨P, h1, h2⟩ := h
 exact ⟨P, h1.k3 hk, h2⟩
theorem Got.on {w w' : World} {lo hi : Nat} {co : Option Addr} {cn cc : Nat} {cs : List Cl} (h : Got w lo hi co cn cc cs) (hb : Below w.heap.size w w') : Got w' lo hi co cn cc cs := h.k3 (K3.of_below hb)
theorem Got.nil {w : World} {lo hi : Nat} (h : lo ≤ hi) : Got w lo hi none 0 0 [] := ⟨fun _ => lo, ⟨rfl, .inl ⟨rfl, rfl, rfl, Lr⟩⟩, h, fun z hz => by cases hz⟩
theorem Got.low {w : World} {lo hi lo2 : Nat} {co : Option Addr} {cn cc : Nat} {cs : List Cl} (h : Got w lo hi co cn cc cs) (hl : lo2 ≤ lo) : Got w lo2 hi co cn cc cs := by
 obtain ⟨P, h1, h2, h3⟩ := h
 exact ⟨P, h1.low hl, h2, fun z hz => ⟨zN hl (h3 z hz).1, (h3 z hz).2⟩⟩
theorem Got.slc {w : World} {lo hi : Nat} {co : Option Addr} {cn cc : Nat} {cs : List Cl} (h : Got w lo hi co cn cc cs) (hw : ∀ c ∈ cs, c.Wf) (hl : ∀ c ∈ cs, c.key.length ≤ 65536 ∧ c.val.length ≤ 65536) (hn : cs.length ≤ 65536) : SlC w co cn cc cs := by
 obtain ⟨P, h1, _⟩ := h
 exact h1.slc hw hl hn
theorem Got.cf {w w' : World} {F : Nat → Prop} {lo hi : Nat} {co : Option Addr} {cn cc : Nat} {cs : List Cl} (h : Got w lo hi co cn cc cs) (hc : Cf F w w') (hf : ∀ z, F z → z < lo) : Got w' lo hi co cn cc cs := by
 obtain ⟨P, ⟨e, h1⟩, h2⟩ := h
 refine ⟨P, ⟨e, h1.imp id fun ⟨g, e1, c, o⟩ => ⟨g, e1, c, ?_⟩⟩, h2⟩
 obtain ⟨cur, hr, hs⟩ := o.row
 have keep : ∀ k, lo ≤ k → k < w.heap.size → w'.heap[k]? = w.heap[k]? := fun k hk hl => hc.block k hl (fun hF => by have := hf k hF; omega)
 have eg := keep g o.hg (zaf hr)
 have hlow : ∀ i, i ≤ cs.length → lo ≤ P i := by
  intro i
  induction i with
  | zero => intro _; exact o.p0
  | succ i ih => intro hi; exact zN (ih (by omega)) (o.up i (by omega))
 refine ⟨⟨cur, eg.trans hr, hs⟩, o.hg, o.p0, o.up, zN o.top hc.size, fun i d hd => ?_⟩
 obtain ⟨a1, c1, a2, c2, h0, h1, h2, h3, h4, h5, h6, h7⟩ := o.at_ i d hd
 have hil := (zH.1 hd).1
 have hP := hlow i (by omega)
 exact ⟨a1, c1, a2, c2, (World.cell?_of_block (a := ⟨g, _, none⟩) eg).trans h0, (World.cell?_of_block (a := ⟨g, _, none⟩) eg).trans h1, (World.cell?_of_block (a := ⟨g, _, none⟩) eg).trans h2, (World.cell?_of_block (a := ⟨g, _, none⟩) eg).trans h3, (World.cell?_of_block (a := ⟨g, _, none⟩) eg).trans h4, h5.cfX hc (fun z hz hF => by have := (h5.blk hz).1; have := hf z hF; omega), h6.cfX hc (fun z hz hF => by have := (h6.blk hz).1; have := hf z hF; omega), h7⟩
theorem Six.VB.farG {V : List Value} {U : Nat} {v : Value} {w : World} {l : List Int} (h : VB V U) (ho : OwnB w U v l) : ∀ (t : Nat) (u : Value), V[t]? = some u → u.ownBlock = none ∨ u.ownBlock ≠ v.ownBlock := by
 intro t u ht
 cases e : u.ownBlock with
 | none => exact .inl rfl
 | some z =>
  right
  intro e2
  have h1 := h t u ht z e
  have h2 := (ho.blk e2.symm).1
  omega
namespace Six
theorem takeAll9 (w : World) (B bk : Nat) (lv v : Value) (V LV : List Value) (D : Nat → List Int) (U : Nat) (ao : Option Addr) (n cap : Nat) (cs : List Cl) (P : Nat → Nat) (h : Bo9 w B bk lv v V D) (hY : OwnY w B lv LV) (hn : V.length + 2 * n ≤ 4000000) (hn2 : n ≤ 100000) (hL : LV.length ≤ 1000) (hB : B ≤ w.heap.size) (hbk : B ≤ bk)
  (hc : Oc9 w B ao n cap cs P) (hw : ∀ d ∈ cs, d.Wf) (hl : ∀ d ∈ cs, d.key.length ≤ 65536 ∧ d.val.length ≤ 65536) (hV : VB V U) (hU : U ≤ P 0) :
  Calls Tryz.prog 10 #[.pointer (some ⟨bk, 0, none⟩), .slice ao n cap] w fun e w' => e = .returned (.tuple #[]) ∧ ∃ lv' v' V' D', Hid (Bo9 w' B bk lv' v' V' D') ∧ Hid (OwnY w' B lv' (LV ++ [.slice ao n cap])) ∧ Hid (VB V' (P n) ∧ V'.length = V.length + 2 * n) ∧ Hid (Cf (B ≤ ·) w w') ∧ Hid (K3 w w') := by
 have HB0 := zaa h
 have HY := zaa hY
 have HC := zaa hc
 have HW := zaa hw
 have HL := zaa hl
 have HV := zaa (hV.up hU)
 have HN := zaa hn
 have hnI : (n : Int) ≤ 100000 := by omega
 clear h hY hc hw hl hV hU hn
 go_enter Tryz.func10, Tryz.ntmps10
 go_wp2_with fail
 go_loopw [4] (fun x wr => ∃ (k : Nat) (v' : Value) (V' : List Value) (D' : Nat → List Int), k ≤ n ∧ x = .int .i64 (k : Int) ∧ Hid (Bo9 wr B bk lv v' V' D') ∧ Hid (VB V' (P k) ∧ V'.length = V.length + 2 * k) ∧ Hid (Cf (B ≤ ·) w wr) ∧ Hid (KT w wr)) (fun x _ => n - (intOf x).toNat)
 case atStart => exact ⟨0, v, V, D, by omega, rfl, HB0, zaa ⟨HV.out, rfl⟩, zaa (Cf.refl _ _), zaa (KT.of_below Br)⟩
 case round =>
  obtain ⟨k, v1, V1, D1', hk, rfl, HB1, HV1, HC1, HK1⟩ := hrel
  by_cases hlt : k < n
  ·have hltI : (k : Int) < (n : Int) := by omega
   obtain ⟨g, rfl, rfl, hoc⟩ : ∃ g, ao = some ⟨g, 0, none⟩ ∧ cap = n ∧ OwnG w B g cs P := by
    rcases HC.out.2 with ⟨_, h0, _⟩ | h0
    ·omega
    ·exact h0
   have hcl : k < cs.length := by rw [← HC.out.1]; exact hlt
   obtain ⟨d, hd⟩ : ∃ d, cs[k]? = some d := ⟨_, zI hcl⟩
   obtain ⟨x1, k1, x2, k2, c0, c1, c2, c3, c4, b1, b2, q3, q4, q5⟩ := (OwnG.k3 hoc HK1.out.k3).at_ k d hd
   have hmem := List.mem_of_getElem? hd
   obtain ⟨w1, w2⟩ := HW.out d hmem
   obtain ⟨l1, l2⟩ := HL.out d hmem
   have hup := hoc.up k hcl
   have hBP : B ≤ P k := by
    have : ∀ j, j ≤ k → B ≤ P j := by
     intro j
     induction j with
     | zero => intro _; exact hoc.p0
     | succ j ih => intro hj; exact zN (ih (by omega)) (hoc.up j (by omega))
    exact this k Lr
   have hvl := HV1.out.2
   have hvn := HN.out
   have HT := zaa (take6 wr B bk lv v1 V1 D1' x1 x2 d.key.length k1 d.val.length k2 d.kd d.pg d.ct d.key d.val HB1.out (by omega) (zN hB HC1.out.size) hbk (b1.low hBP) w1 l1 (b2.low hBP) w2 l2 (HV1.out.1.farG b1) (fun t u ht => by
    by_cases e : t < V1.length
    ·rw [zL e] at ht
     exact HV1.out.1.farG b2 t u ht
    ·have hlt := (zH.1 ht).1
     rw [zG] at hlt
     simp only [List.length_cons, List.length_nil] at hlt
     obtain rfl : t = V1.length := by omega
     rw [List.getElem?_concat_length] at ht
     cases ht
     exact q5))
   have HVN : Hid (VB (V1 ++ [Value.slice x1 d.key.length k1] ++ [Value.slice x2 d.val.length k2]) (P (k + 1)) ∧ (V1 ++ [Value.slice x1 d.key.length k1] ++ [Value.slice x2 d.val.length k2]).length = V.length + 2 * (k + 1)) := zaa ⟨((HV1.out.1.up hup).snoc q3).snoc q4, by
    rw [zG, zG, hvl]
    simp only [List.length_cons, List.length_nil]
    omega⟩
   obtain ⟨kn, hkn⟩ : ∃ kn, d.key.length = kn := ⟨_, rfl⟩
   obtain ⟨vn, hvn⟩ : ∃ vn, d.val.length = vn := ⟨_, rfl⟩
   obtain ⟨kd', hkd⟩ : ∃ kd', d.kd = kd' := ⟨_, rfl⟩
   obtain ⟨pg, hpg⟩ : ∃ pg, d.pg = pg := ⟨_, rfl⟩
   obtain ⟨ct, hct⟩ : ∃ ct, d.ct = ct := ⟨_, rfl⟩
   rw [hkn] at c0
   rw [hkd] at c1
   rw [hvn] at c2
   rw [hpg] at c3
   rw [hct] at c4
   rw [hkn, hkd, hvn, hpg, hct] at HT
   rw [hkn, hvn] at HVN
   clear hoc hcl hd b1 b2 q3 q4 q5 hmem w1 w2 l1 l2 hup hBP hvl hkn hvn hkd hpg hct
   go_wp2_with (go_at_call 24; refine HT.out.mono ?_; rintro e w2 ⟨rfl, v2, D2', HB2, HC2, HK2⟩; refine Hid.out ?_)
   apply zaa
   have HC3 : Hid (Cf (B ≤ ·) w w2) := zaa (HC1.out.go HC2.out)
   have HK3 : Hid (KT w w2) := zaa (HK1.out.trans HK2.out)
   clear HT HC1 HC2 HK1 HK2 HB1 HV1 c0 c1 c2 c3 c4
   go_wp2
   go_roundw
   case rel => exact ⟨k + 1, v2, _, D2', by omega, by go_num, HB2, HVN, HC3, HK3⟩
   case measure => simp [intOf]; omega
  ·obtain rfl : k = n := by omega
   have hlI : ¬ (k : Int) < (k : Int) := by omega
   have hbx := HB1.out.box
   have c1 : wr.cell? ⟨bk, 1, none⟩ = some lv := by rw [cell_of_row _ _ 1 _ _ _ hbx]; rfl
   obtain ⟨x, hx⟩ : ∃ x, wr.alloc (.cells #[.slice ao k cap] 29) = x := ⟨_, rfl⟩
   have hbx2 : Below wr.heap.size wr x := by rw [← hx]; exact zad Br Lr _
   have hcx : x.cell? ⟨wr.heap.size, 0, none⟩ = some (.slice ao k cap) := by rw [← hx]; simp
   have HX := zaa (HB1.out.on hbx2)
   have HYX : Hid (OwnY x B lv LV) := zaa (OwnY.on (row_kt HY.out HK1.out y_ne6 y_neX) hbx2)
   have hxs : B ≤ x.heap.size := zN hB (zN HC1.out.size hbx2.size)
   have HCX : Hid (Cf (B ≤ ·) w x) := zaa (HC1.out.go (Cf.of_below hbx2))
   have HKX : Hid (K3 w x) := zaa (HK1.out.k3.trans (K3.of_below hbx2))
   clear HB1 HC1 HK1 hbx hbx2 HB0 HY
   go_wp2_with (at_builtin; refine app_y _ rfl _ _ rfl B LV lv (.slice ao k cap) rfl rfl HYX.out wr.heap.size rfl hcx (by omega) hxs ?_; refine Hid.out ?_)
   apply zaa
   intro v' w1 ho1 hg1
   obtain ⟨vo, vn, vc, rfl⟩ : ∃ vo vn vc, v' = .slice vo vn vc := by
    obtain ⟨vo, vc, e, _⟩ := ho1.cells
    exact ⟨vo, _, vc, e⟩
   obtain ⟨z1, z2, z3, z4⟩ := HX.out.lists HYX.out hg1 ho1 hbk
   have HZ1 := zaa z1
   have HZ2 := zaa z2
   have HZ3 := zaa (HKX.out.trans z3)
   have HZ4 := zaa (HCX.out.go z4)
   have hbox1 : w1.heap[bk]? = some (.cells #[v1, lv] 42 (0, 0)) := (hg1.grow.block bk (zaf HX.out.box) (fun e => HYX.out.noty HX.out.box bk_neY e.symm)).trans HX.out.box
   have c2 : ∃ z, w1.cell? ⟨bk, 1, none⟩ = some z := ⟨lv, by rw [cell_of_row _ _ 1 _ _ _ hbox1]; rfl⟩
   obtain ⟨z, c2⟩ := c2
   have f1 : w1.frozen? ⟨bk, 1, none⟩ = false := by simp [World.frozen?, hbox1]
   clear ho1 hg1 hx hcx c1 z1 z2 z3 z4 hbox1 HX HYX HCX HKX
   go_wp2
   go_end0
   exact ⟨rfl, _, v1, V1, D1', HZ1, HZ2, HV1, HZ4, HZ3⟩
end Six
end Go.Proofs.YtbkhjeacmmbabaaGreatDoor
namespace Go.Proofs.YtbkhjeacmmbabaaGreatDoor
set_option maxRecDepth 100000
set_option maxHeartbeats 1000000
open Go.RowKit
theorem Po.low {w : World} {B C a : Nat} {k : Int} {n : Nat} {vb vs : Value} {cs : List Cl} (h : Po w C a k n vb vs cs) (hB : B ≤ C) : Po w B a k n vb vs cs := ⟨h.row, h.body.low hB, h.starts.lowN hB⟩
def NOpenP (l : List Int) (w : World) (e : Ending) (w' : World) : Prop :=
 ∃ v c, e = .returned (.tuple #[v, .int .i64 c]) ∧ Hid (Below w.heap.size w w') ∧ Hid ((v = .nilIface ∧ c = 60 ∧ ¬ ∃ cs, Is (l.getD 0 0) l.length cs l) ∨ ∃ a bo bn bc so sn sc cs, v = iP a ∧ c = 0 ∧ w.heap.size ≤ a ∧ Is (l.getD 0 0) l.length cs l ∧ (∀ c ∈ cs, c.Wf) ∧ Po w' w.heap.size a (l.getD 0 0) l.length (.slice bo bn bc) (.slice so sn sc) cs)
theorem NOpenP.from {l : List Int} {w u w' : World} {e : Ending} (h : NOpenP l u e w') (hb : Below w.heap.size w u) : NOpenP l w e w' := by
 obtain ⟨v, c, rfl, HB, HQ⟩ := h
 refine ⟨v, c, rfl, zaa (zae hb Lr HB.out), zaa ?_⟩
 rcases HQ.out with h | ⟨a, bo, bn, bc, so, sn, sc, cs, h1, h2, h3, h4, h5, h6⟩
 ·exact .inl h
 ·exact .inr ⟨a, bo, bn, bc, so, sn, sc, cs, h1, h2, zN hb.size h3, h4, h5, h6.low hb.size⟩
theorem openP_any (ao : Option Addr) (n cap : Nat) (l : List Int) (w : World) (hs : Sl w ao n cap l) (ht : Tab w) (h0 : 1 < w.heap.size) : Calls Tryz.prog 40 #[.slice ao n cap] w (NOpenP l w) := by
 have HN := zaa (open_po ao n cap l w hs ht h0)
 clear hs ht h0
 go_enter Tryz.func40, Tryz.ntmps40
 go_wp2_with (go_at_call 41; refine HN.out.mono ?_; rintro e w1 ⟨po, c, rfl, HB, HQ⟩; refine Hid.out ?_)
 apply zaa
 clear HN
 rcases HQ.out with ⟨rfl, rfl, hn⟩ | ⟨a, bo, bn, bc, so, sn, sc, cs, rfl, rfl, h1, h2, h3, h4, h5⟩
 ·have H1 := zaa hn
  clear HQ hn
  go_wp2_with (go_at_call 38; refine zac (asP_no _ _ (by decide) _) ?_)
  go_ret2
  exact ⟨_, _, rfl, HB, zaa (.inl ⟨rfl, rfl, H1.out⟩)⟩
 ·have H1 := zaa (And.intro h1 (And.intro h2 (And.intro h3 h5.2)))
  clear HQ h1 h2 h3 h4 h5
  go_wp2_with (go_at_call 38; refine zac (asP_yes _ _) ?_)
  go_ret2
  obtain ⟨h1, h2, h3, h4⟩ := H1.out
  exact ⟨_, _, rfl, HB, zaa (.inr ⟨a, bo, bn, bc, so, sn, sc, cs, rfl, rfl, h1, h2, h3, h4⟩)⟩
theorem nopen_1 (ao : Option Addr) (n cap : Nat) (l : List Int) (w : World) (hs : Sl w ao n cap l) (ht : Tab w) (h0 : 1 < w.heap.size) (he : egO l = 1) : Calls Tryz.prog 5 #[.slice ao n cap] w (NOpenP l w) := by
 have HE := zaa (zds ao n cap l w hs)
 rw [he] at HE
 have HL := zaa (layout_1 w)
 have HM : Hid (∀ u, Below w.heap.size w u → Calls Tryz.prog 40 #[.slice ao n cap] u (NOpenP l u)) := zaa fun u hu => openP_any ao n cap l u (hs.on Lr hu) (ht.on hu h0) (zO h0 hu.size)
 clear hs ht h0 he
 go_enter Tryz.func5, Tryz.ntmps5
 go_wp2_with (first | (go_at_call 18; refine zac HE.out ?_) | (go_at_call 17; refine HL.out.mono ?_; rintro e w1 ⟨rfl, HB1⟩) | (go_at_call 40; refine (HM.out _ (zad HB1.out Lr _)).mono ?_; rintro e w2 ⟨v, c, rfl, HB2, HQ2⟩; refine Hid.out ?_))
 apply zaa
 go_wp2
 go_ret2
 exact NOpenP.from ⟨v, c, rfl, HB2, HQ2⟩ (zad HB1.out Lr _)
theorem nopen_0 (ao : Option Addr) (n cap : Nat) (l : List Int) (w : World) (hs : Sl w ao n cap l) (h1 : ¬ egO l = 1) (h2 : ¬ egO l = 2) : Calls Tryz.prog 5 #[.slice ao n cap] w fun e w' => e = .returned (.tuple #[.nilIface, .int .i64 60]) ∧ Hid (Below w.heap.size w w') := by
 have HE := zaa (zds ao n cap l w hs)
 have HL := zaa (layout_0 w (egO l) h1 h2)
 generalize egO l = x at *
 clear hs h1 h2
 go_enter Tryz.func5, Tryz.ntmps5
 go_wp2_with (first | (go_at_call 18; refine zac HE.out ?_) | (go_at_call 17; refine HL.out.mono ?_; rintro e w1 ⟨rfl, HB1⟩))
 go_ret2
 exact ⟨rfl, zaa (zad HB1.out Lr _)⟩
theorem nmostKey_any (p : Int) (w : World) : Calls Tryz.prog 15 #[.int .i64 p] w fun e w' => e = .returned (.int .i64 (if pw p then p / 8 else 0)) ∧ w' = w := by
 cases h : decide (pw p) with
 | false =>
  rw [if_neg (by simpa using h)]
  go_enter Tryz.func15, Tryz.ntmps15
  go_wp2_with (go_at_call 31; refine zac (zbi _ _) ?_; rw [h])
  go_ret
  exact ⟨rfl, rfl⟩
 | true =>
  have hp : pw p := by simpa using h
  rw [if_pos hp]
  have h1 := pw_le hp
  have HM := zaa (zdg p w (by omega) (by omega))
  clear hp h1
  go_enter Tryz.func15, Tryz.ntmps15
  go_wp2_with (first | (go_at_call 31; refine zac (zbi _ _) ?_; rw [h]) | (go_at_call 32; refine zac HM.out ?_))
  go_ret
  exact ⟨rfl, rfl⟩
theorem nmostValue_any (p : Int) (w : World) : Calls Tryz.prog 16 #[.int .i64 p] w fun e w' => e = .returned (.int .i64 (if pw p then p / 16 * 3 else 0)) ∧ w' = w := by
 cases h : decide (pw p) with
 | false =>
  rw [if_neg (by simpa using h)]
  go_enter Tryz.func16, Tryz.ntmps16
  go_wp2_with (go_at_call 31; refine zac (zbi _ _) ?_; rw [h])
  go_ret
  exact ⟨rfl, rfl⟩
 | true =>
  have hp : pw p := by simpa using h
  rw [if_pos hp]
  have h1 := pw_le hp
  have HM := zaa (zci p w (by omega) (by omega))
  clear hp h1
  go_enter Tryz.func16, Tryz.ntmps16
  go_wp2_with (first | (go_at_call 31; refine zac (zbi _ _) ?_; rw [h]) | (go_at_call 33; refine zac HM.out ?_))
  go_ret
  exact ⟨rfl, rfl⟩
theorem newQ_any (k n : Int) (w : World) : Calls Tryz.prog 47 #[.int .i64 k, .int .i64 n] w fun e w' => NewQ k n w e w' := by
 cases h1 : decide (isKd k) with
 | false =>
  have hk : ¬ isKd k := by simpa using h1
  go_enter Tryz.func47, Tryz.ntmps47
  go_wp2_with (go_at_call 78; refine zac (zbv _ _) ?_; rw [h1])
  go_ret2
  exact ⟨none, 1, rfl, Br, .inl ⟨rfl, rfl, fun h => hk h.1⟩⟩
 | true =>
  have hk : isKd k := by simpa using h1
  cases h2 : decide (pw n) with
  | false =>
   have hn : ¬ pw n := by simpa using h2
   have HN := zaa hn
   have HK := zaa hk
   clear hn hk
   go_enter Tryz.func47, Tryz.ntmps47
   go_wp2_with (first | (go_at_call 78; refine zac (zbv _ _) ?_; rw [h1]) | (go_at_call 31; refine zac (zbi _ _) ?_; rw [h2]))
   go_ret2
   exact ⟨none, 1, rfl, Br, .inl ⟨rfl, rfl, fun h => HN.out h.2⟩⟩
  | true =>
   have hn : pw n := by simpa using h2
   have HN := zaa hn
   have HK := zaa hk
   clear hn hk
   go_enter Tryz.func47, Tryz.ntmps47
   go_wp2_with (first | (go_at_call 78; refine zac (zbv _ _) ?_; rw [h1]) | (go_at_call 31; refine zac (zbi _ _) ?_; rw [h2]))
   go_ret2
   exact ⟨_, 0, rfl, Br.alloc Lr _, .inr ⟨rfl, rfl, HK.out, HN.out, heap_alloc_last w _⟩⟩
def NNewQ (k n : Int) (w : World) (e : Ending) (w' : World) : Prop :=
 ∃ v c, e = .returned (.tuple #[v, .int .i64 c]) ∧ Hid (Below w.heap.size w w') ∧ Hid ((v = .nilIface ∧ c = 1 ∧ ¬ (isKd k ∧ pw n)) ∨ ∃ a, v = iQ a ∧ c = 0 ∧ isKd k ∧ pw n ∧ w.heap.size ≤ a ∧ QR w' a k n (.slice none 0 0) (.slice none 0 0) (.slice none 0 0) 0)
theorem NNewQ.from {k n : Int} {w u w' : World} {e : Ending} (h : NNewQ k n u e w') (hb : Below w.heap.size w u) : NNewQ k n w e w' := by
 obtain ⟨v, c, rfl, HB, HQ⟩ := h
 refine ⟨v, c, rfl, zaa (zae hb Lr HB.out), zaa ?_⟩
 rcases HQ.out with h | ⟨a, h1, h2, h3, h4, h5, h6⟩
 ·exact .inl h
 ·exact .inr ⟨a, h1, h2, h3, h4, zN hb.size h5, h6⟩
theorem makeQ_any (k n : Int) (w : World) : Calls Tryz.prog 45 #[.int .i64 k, .int .i64 n] w (NNewQ k n w) := by
 have HN := zaa (newQ_any k n w)
 go_enter Tryz.func45, Tryz.ntmps45
 go_wp2_with (go_at_call 47; refine HN.out.mono ?_; rintro e w1 ⟨po, c, rfl, HB, HQ⟩; refine Hid.out ?_)
 apply zaa
 clear HN
 rcases HQ.out with ⟨rfl, rfl, hn⟩ | ⟨rfl, rfl, hk, hn, hh⟩
 ·have H1 := zaa hn
  clear HQ hn
  go_wp2_with (go_at_call 46; refine zac (asQ_no _ _ (by decide) _) ?_)
  go_ret2
  exact ⟨_, _, rfl, HB, zaa (.inl ⟨rfl, rfl, H1.out⟩)⟩
 ·have H1 := zaa (And.intro hk (And.intro hn hh))
  clear HQ hk hn hh
  go_wp2_with (go_at_call 46; refine zac (asQ_yes _ _) ?_)
  go_ret2
  obtain ⟨h1, h2, h3⟩ := H1.out
  exact ⟨_, _, rfl, HB, zaa (.inr ⟨_, rfl, rfl, h1, h2, Lr, h3⟩)⟩
theorem nnew_2 (k n : Int) (w : World) : Calls Tryz.prog 13 #[.int .i64 2, .int .i64 k, .int .i64 n] w (NNewQ k n w) := by
 have HL := zaa (layout_2 w)
 have HM := zaa (fun u => makeQ_any k n u)
 go_enter Tryz.func13, Tryz.ntmps13
 go_wp2_with (first | (go_at_call 17; refine HL.out.mono ?_; rintro e w1 ⟨rfl, HB1⟩) | (go_at_call 45; refine (HM.out _).mono ?_; rintro e w2 ⟨v, c, rfl, HB2, HQ2⟩; refine Hid.out ?_))
 apply zaa
 go_wp2
 go_ret2
 exact NNewQ.from ⟨v, c, rfl, HB2, HQ2⟩ (zad HB1.out Lr _)
theorem zcr {w w' : World} {B C : Nat} {v : Value} {l m : List Int} {ao : Option Addr} {n c : Nat} (h : OwnB w B v l) (k : OwnB w' C (.slice ao n c) m) (hz : w.heap.size ≤ C) : Far ao n v := by
 right
 intro p hp e
 have h1 : p.block < w.heap.size := (World.ownsRow.lt h p.block e).2
 rcases k.2 with ⟨e2, _⟩ | ⟨g, cap, cur, e2, hg, _⟩
 ·injection e2 with e3
  rw [e3] at hp
  cases hp
 ·injection e2 with e3
  rw [e3] at hp
  injection hp with hp
  subst hp
  simp only at h1
  omega
theorem sl_far {w w' : World} {B : Nat} {v : Value} {l m : List Int} {ao : Option Addr} {n c : Nat} (hs : Sl w ao n c m) (h : OwnB w' B v l) (hz : w.heap.size ≤ B) : Far ao n v := by
 rcases hs.hat with h0 | ⟨b, off, rfl, hlt, _⟩
 ·exact .inl h0
 ·exact h.far fun p hp => by injection hp with hp; subst hp; exact zO hlt hz
theorem zcf (v : Value) (B : Nat) (l r : List Int) (ao : Option Addr) (n c : Nat) (w : World) (ho : OwnB w B v l) (hs : Sl w ao n c r) (hf : Far ao n v) (hl : l.length + n ≤ 140737488355328) (hB : B ≤ w.heap.size) :
  Calls Tryz.prog 101 #[v, .slice ao n c] w fun e w' => ∃ v', e = .returned v' ∧ Hid (OwnB w' B v' (l ++ r)) ∧ Hid (Gr w v w' v') := by
 have HS := zaa hs
 have HF := zaa hf
 have HO := zaa ho
 have hlen := hs.hlen
 have hn := hs.hroom
 clear hs hf ho
 go_enter Tryz.func101, Tryz.ntmps101
 go_wp2_with fail
 go_loopw [0, 5] (fun b i wr => ∃ k : Nat, k ≤ n ∧ i = .int .i64 k ∧ Hid (OwnB wr B b (l ++ r.take k)) ∧ Hid (Gr w v wr b)) (fun _ i _ => n - (intOf i).toNat)
 case atStart => exact ⟨0, by omega, rfl, by simpa using HO, zaa (Gr.refl _ _)⟩
 case round =>
  obtain ⟨k, hk, rfl, HOK, HG⟩ := hrel
  clear HO
  have hki : (k : Int) ≤ 140737488355328 := by omega
  by_cases hlt : k < n
  ·have hltI : (k : Int) < (n : Int) := by omega
   have HSK := zaa (HS.out.gr HG.out HF.out)
   have hwf := HSK.out.wf.getD k
   rcases HSK.out.hat with h | ⟨b', off', rfl, hbb', hc'⟩
   ·omega
   have hcj := hc' k hlt
   have hts := take_snoc r k (by omega)
   obtain ⟨y, hy⟩ : ∃ y, r.getD k 0 = y := ⟨_, rfl⟩
   rw [hy] at hcj hts hwf
   have HT := zaa hts
   have hBr : B ≤ wr.heap.size := zN hB HG.out.grow.size
   have hll : (l ++ r.take k).length + 1 ≤ 140737488355328 := by simp only [zG, zJ]; omega
   have HLL := zaa hll
   clear hc' hts hy hll
   go_wp2_with (at_builtin; refine zau _ rfl _ _ rfl B (l ++ r.take k) [y] _ (some ⟨wr.heap.size, 0, none⟩) 1 1 rfl rfl (HOK.out.alloc _) (sl_one wr y hwf) HLL.out (by simp; omega) ?_; refine Hid.out ?_)
   apply zaa
   intro v2 w2 ho2 g2
   have HO2 : Hid (OwnB w2 B v2 (l ++ r.take (k + 1))) := zaa (by rw [HT.out]; simpa [zM] using ho2)
   have HG2 := zaa ((HG.out.trans (Gr.alloc _ _ _)).trans g2)
   clear ho2 g2 HOK HG hcj HSK HT HLL
   go_wp2
   go_roundw
   case rel => exact ⟨k + 1, by omega, by go_num, HO2, HG2⟩
   case measure => simp [intOf]; omega
  ·have e : r.take k = r := List.take_of_length_le (by omega)
   rw [e] at HOK
   go_wp2
   go_ret
   exact ⟨_, rfl, HOK, HG⟩
theorem zcm (v : Value) (B : Nat) (l r : List Int) (ao : Option Addr) (n c : Nat) (w : World) (ho : OwnB w B v l) (hs : Sl w ao n c r) (hf : Far ao n v) (hl : l.length + n ≤ 140737488355328) (hB : B ≤ w.heap.size) :
  Calls Tryz.prog 101 #[v, .slice ao n c] w fun e w' => ∃ v', e = .returned v' ∧ Hid (OwnB w' B v' (l ++ r)) ∧ Hid (Below B w w') :=
 (zcf v B l r ao n c w ho hs hf hl hB).mono fun e w' h => by
  obtain ⟨v', h1, h2, h3⟩ := h
  exact ⟨v', h1, h2, zaa (h3.out.below ho hB)⟩
theorem rrest_whole (k i : Int) (ao : Option Addr) (n c m : Nat) (w : World) (h : k = 3 ∧ i = 0) :
  Calls Tryz.prog 141 #[.int .i64 k, .int .i64 i, .slice ao n c, .int .i64 (m : Int)] w fun e w' => e = .returned (.slice ao n c) ∧ w' = w := by
 obtain ⟨rfl, rfl⟩ := h
 go_enter Tryz.func141, Tryz.ntmps141
 go_wp2
 go_ret
 exact ⟨rfl, rfl⟩
theorem rrest_cut (k i : Int) (ao : Option Addr) (n c m : Nat) (l : List Int) (w : World) (h : ¬ (k = 3 ∧ i = 0)) (hs : Sl w ao n c l) (hm : m ≤ n) :
  Calls Tryz.prog 141 #[.int .i64 k, .int .i64 i, .slice ao n c, .int .i64 (m : Int)] w fun e w' => (∃ a' c', e = .returned (.slice a' (n - m) c') ∧ Hid (Sl w a' (n - m) c' (l.drop m))) ∧ w' = w := by
 have hf := sl_from hs m hm
 have hc := hs.hcap
 have hr := hs.hroom
 have hll := hs.hlen
 have hmI : (m : Int) ≤ (n : Int) := by omega
 have hlc : m ≤ c := by omega
 have hlcI : (m : Int) ≤ (c : Int) := by omega
 have hlt : ¬ (n : Int) < (m : Int) := by omega
 have i1 : (m : Int) ≤ 140737488355328 := by omega
 clear hs
 by_cases h3 : k = 3
 ·have hi : ¬ i = 0 := fun e => h ⟨h3, e⟩
  have hib : (i == 0) = false := by simpa using hi
  subst h3
  clear h hi
  rcases hf with ⟨rfl, rfl, rfl⟩ | ⟨a, rfl, ⟨e, hS⟩ | ⟨e, hS⟩⟩
  ·obtain rfl : m = 0 := by omega
   have HE : Hid (Sl w none 0 0 (l.drop 0)) := zaa (by rw [show l.drop 0 = [] from List.eq_nil_of_length_eq_zero (by simpa using hll)]; exact Sl.nil_any _ _ _ (fun _ => rfl))
   go_enter Tryz.func141, Tryz.ntmps141
   go_wp2
   go_ret
   exact ⟨⟨_, _, rfl, HE⟩, rfl⟩
  ·have HS := zaa hS
   subst e
   obtain rfl : n = c := by omega
   clear hS
   go_enter Tryz.func141, Tryz.ntmps141
   go_wp2
   go_ret
   exact ⟨⟨_, _, rfl, by simpa using HS⟩, rfl⟩
  ·have HS := zaa hS
   have hcn2 : c - m ≠ 0 := by omega
   have hcn3 : m < c := by omega
   have hcn4 : (m : Int) < (c : Int) := by omega
   clear hS
   go_enter Tryz.func141, Tryz.ntmps141
   go_wp2
   go_ret
   exact ⟨⟨_, _, rfl, by simpa using HS⟩, rfl⟩
 ·have hkb : (k == 3) = false := by simpa using h3
  clear h h3
  rcases hf with ⟨rfl, rfl, rfl⟩ | ⟨a, rfl, ⟨e, hS⟩ | ⟨e, hS⟩⟩
  ·obtain rfl : m = 0 := by omega
   have HE : Hid (Sl w none 0 0 (l.drop 0)) := zaa (by rw [show l.drop 0 = [] from List.eq_nil_of_length_eq_zero (by simpa using hll)]; exact Sl.nil_any _ _ _ (fun _ => rfl))
   go_enter Tryz.func141, Tryz.ntmps141
   go_wp2
   go_ret
   exact ⟨⟨_, _, rfl, HE⟩, rfl⟩
  ·have HS := zaa hS
   subst e
   obtain rfl : n = c := by omega
   clear hS
   go_enter Tryz.func141, Tryz.ntmps141
   go_wp2
   go_ret
   exact ⟨⟨_, _, rfl, by simpa using HS⟩, rfl⟩
  ·have HS := zaa hS
   have hcn2 : c - m ≠ 0 := by omega
   have hcn3 : m < c := by omega
   have hcn4 : (m : Int) < (c : Int) := by omega
   clear hS
   go_enter Tryz.func141, Tryz.ntmps141
   go_wp2
   go_ret
   exact ⟨⟨_, _, rfl, by simpa using HS⟩, rfl⟩
end Go.Proofs.YtbkhjeacmmbabaaGreatDoor
