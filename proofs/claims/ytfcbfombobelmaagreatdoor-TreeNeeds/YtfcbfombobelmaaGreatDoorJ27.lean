/- Layer 8: node.New and node.Open of a plain engine; engineOf. -/
import Derived.Test.YtfcbfombobelmaaGreatDoorJ14
import Derived.Test.YtfcbfombobelmaaGreatDoorJ26
import Derived.Test.YtfcbfombobelmaaGreatDoorJ25
import Derived.Test.YtfcbfombobelmaaGreatDoorJ23
namespace Go.Proofs.YtfcbfombobelmaaGreatDoor
open Go.RowKit

/-- What New comes to, of a plain engine. -/
def NNewP (k n : Int) (w : World) (e : Ending) (w' : World) : Prop :=
  ∃ v c, e = .returned (.tuple #[v, .int .i64 c]) ∧ Hid (Below w.heap.size w w') ∧ Hid ((v = .nilIface ∧ c = 1 ∧ ¬ (isKd k ∧ pw n)) ∨ ∃ a, v = iP a ∧ c = 0 ∧ isKd k ∧ pw n ∧ w.heap.size ≤ a ∧ PR w' a k n.toNat (.slice none 0 0) (.slice none 0 0))
set_option maxRecDepth 100000 in
theorem NNewP.from {k n : Int} {w u w' : World} {e : Ending} (h : NNewP k n u e w') (hb : Below w.heap.size w u) : NNewP k n w e w' := by
  obtain ⟨v, c, rfl, HB, HQ⟩ := h
  refine ⟨v, c, rfl, hidden (bl_go hb (Nat.le_refl _) HB.out), hidden ?_⟩
  rcases HQ.out with h | ⟨a, h1, h2, h3, h4, h5, h6⟩
  · exact .inl h
  · exact .inr ⟨a, h1, h2, h3, h4, Nat.le_trans hb.size h5, h6⟩
/-- The byte that tells the engine. -/
def egO (l : List Int) : Int := if l.length < 2 then 0 else l.getD 1 0
set_option maxRecDepth 100000 in
theorem engineOf_any (ao : Option Addr) (n cap : Nat) (l : List Int) (w : World) (hs : Sl w ao n cap l) :
    Calls Tryz.prog 68 #[.slice ao n cap] w fun e w' => e = .returned (.int .i64 (egO l)) ∧ w' = w := by
  have hlen := hs.hlen
  have hnr := hs.hroom
  unfold egO
  rw [hlen]
  by_cases h : n < 2
  · rw [if_pos h]
    have hI : (n : Int) < 2 := by omega
    clear hs hlen
    go_enter Tryz.func68, Tryz.ntmps68
    go_wp2
    go_ret
    exact ⟨rfl, rfl⟩
  · rw [if_neg h]
    have hI : ¬ (n : Int) < 2 := by omega
    have h1 : 1 < n := by omega
    obtain ⟨g, off, rfl, hc⟩ : ∃ g off, ao = some ⟨g, off, none⟩ ∧ w.cell? ⟨g, off + 1, none⟩ = some (.int .u8 (l.getD 1 0)) := by
      rcases hs.hat with h0 | ⟨g, off, e, _, hc⟩
      · omega
      · exact ⟨g, off, e, hc 1 h1⟩
    have hb := hs.wf.getD 1
    generalize l.getD 1 0 = x at *
    clear hs hlen
    go_enter Tryz.func68, Tryz.ntmps68
    go_wp2
    go_ret
    exact ⟨rfl, rfl⟩
end Go.Proofs.YtfcbfombobelmaaGreatDoor

/- Layer 8: plain.Page.Cell, in general: the cell lies in memory of its own. -/

namespace Go.Proofs.YtfcbfombobelmaaGreatDoor
open Go.RowKit

/-- The cell at a place. -/
def cellE (cs : List Cl) (x : Int) : Cl := if 0 ≤ x ∧ x < (cs.length : Int) then (cs[x.toNat]?).getD ⟨[], 0, [], 0, 0⟩ else ⟨[], 0, [], 0, 0⟩
/-- What our Cell comes to: as CelTo, the key and the value in blocks of their own. -/
def CelO (c : Cl) (E : Int) (w : World) (e : Ending) (w' : World) : Prop :=
  ∃ ao a2 bo b2, e = .returned (.tuple #[.agg #[.slice ao c.key.length a2, .int .i64 c.kd, .slice bo c.val.length b2, .int .i64 c.pg, .int .i64 c.ct], .int .i64 E]) ∧ Hid (OwnB w' w.heap.size (.slice ao c.key.length a2) c.key ∧ OwnB w' w.heap.size (.slice bo c.val.length b2) c.val ∧ ∀ z, (Value.slice ao c.key.length a2).ownBlock = some z → ¬ (Value.slice bo c.val.length b2).ownBlock = some z) ∧ Hid (Below w.heap.size w w')
set_option maxRecDepth 100000 in
set_option maxHeartbeats 4000000 in
theorem cellO_any (w : World) (B a : Nat) (k : Int) (n : Nat) (vb vs : Value) (cs : List Cl) (x : Int) (hp : Po w B a k n vb vs cs) (hw : ∀ c ∈ cs, c.Wf) (hft : ∀ c ∈ cs, c.fit) (hz : szN cs ≤ n) (hn : n ≤ 65536) :
    Calls Tryz.prog 214 #[.pointer (some ⟨a, 0, none⟩), .int .i64 x] w (CelO (cellE cs x) (remE cs x) w) := by
  have hzc := szN_eq cs
  obtain ⟨s, hs⟩ : ∃ s, w.heap.size = s := ⟨_, rfl⟩
  obtain ⟨y, hy⟩ : ∃ y, w.alloc (.cells #[.slice none 0 0, .int .i64 0, .slice none 0 0, .int .i64 0, .int .i64 0] 29) = y := ⟨_, rfl⟩
  have hby : Below w.heap.size w y := by rw [← hy]; exact bl_al (Below.refl _ _) (Nat.le_refl _) _
  have HRES : Hid (C5 y s (.slice none 0 0) (.int .i64 0) (.slice none 0 0) (.int .i64 0) (.int .i64 0)) := by rw [← hy, ← hs]; exact hidden (C5.box _ _ _ _ _ _)
  have HBY := hidden hby
  have hpy := hp.on hby
  obtain ⟨bo, bc, rfl⟩ := hpy.body.slice
  obtain ⟨so, sc, rfl⟩ := hpy.starts.shape
  rw [sts_length] at hpy
  obtain ⟨sn, hsn⟩ : ∃ sn, cs.length = sn := ⟨_, rfl⟩
  have hys : s + 1 ≤ y.heap.size := by rw [← hy, ← hs]; simp
  have hpg := hpy.pg hw (by omega)
  have hrow := hpy.row
  unfold remE cellE
  rw [hsn] at hpg hrow ⊢
  by_cases hx : 0 ≤ x ∧ x < (sn : Int)
  · rw [if_pos hx, if_pos hx]
    obtain ⟨i, rfl⟩ : ∃ i : Nat, x = (i : Int) := ⟨x.toNat, by omega⟩
    rw [Int.toNat_natCast]
    have hi : i < cs.length := by omega
    obtain ⟨c, hci⟩ : ∃ c, cs[i]? = some c := ⟨_, List.getElem?_eq_getElem hi⟩
    rw [hci, Option.getD_some]
    have HH := hidden (has_any y a k n _ so sn sc hrow (i : Int) true ⟨fun _ => hx, fun _ => rfl⟩)
    have HVW := hidden (view_any y a k n bo _ bc so sn sc cs hpg hft i hi c hci (by omega))
    obtain ⟨key, kd, val, pg, ct⟩ := c
    simp only at HVW ⊢
    have HYS := hidden hys
    have HSW := hidden hs
    have hiI : (i : Int) < (sn : Int) := hx.2
    clear hp hpy hpg hrow hci hw hft hby hsn hys hx hz hzc hi
    go_enter Tryz.func214, Tryz.ntmps214
    go_wp2_with (first
      | (go_at_call 221; refine same_call HH.out ?_)
      | (go_at_call 105; refine HVW.out.mono ?_; rintro e u1 ⟨ko, kn, kc, vo, vn, vc, rfl, HK, HV, HU1⟩; refine Hid.out ?_))
    apply hidden
    have HC := hidden (copied_any ko kn kc kd vo vn vc pg ct key val u1 HK.out HV.out)
    have HKL := hidden HK.out.hlen
    have HVL := hidden HV.out.hlen
    have HKR := hidden HK.out.hroom
    have HVR := hidden HV.out.hroom
    clear HH HVW
    go_wp2_with (first | (go_at_call 104; refine HC.out.mono ?_; rintro e u2 ⟨g1, g2, rfl, HG, HU2⟩; refine Hid.out ?_))
    apply hidden
    have hres1 : C5 u2 s (.slice none 0 0) (.int .i64 0) (.slice none 0 0) (.int .i64 0) (.int .i64 0) := box_on (box_on HRES.out HU1.out) HU2.out
    have HR2 := hidden hres1
    obtain ⟨b0, b1, b2', b3, b4⟩ := hres1.cells
    obtain ⟨h0, h1, h2, h3, h4⟩ := hres1.free
    clear hres1 HC
    go_wp2
    refine bodyPost_ret (results_row28 rfl _ _ s 29 #[.slice (some ⟨g1, 0, none⟩) kn kn, .int .i64 kd, .slice (some ⟨g2, 0, none⟩) vn vn, .int .i64 pg, .int .i64 ct] (0, 0) _ (.int .i64 0) (by rfl) (by rfl) (HR2.out.put _ _ _ _ _) Tryz.underlying29 rfl sizeCell) rfl ?_
    have hf := put5_cf u2 s (.slice (some ⟨g1, 0, none⟩) kn kn) (.int .i64 kd) (.slice (some ⟨g2, 0, none⟩) vn vn) (.int .i64 pg) (.int .i64 ct)
    have hys := HYS.out
    have hsw := HSW.out
    have hkl := HKL.out
    have hvl := HVL.out
    have hkr := HKR.out
    have hvr := HVR.out
    have hu1 := HU1.out.size
    obtain ⟨hg1, hg2, hg3, hg4, hg5⟩ := HG.out
    have hbu := bl_go (bl_go HBY.out (Nat.le_refl _) HU1.out) (Nat.le_refl _) HU2.out
    subst hkl
    subst hvl
    refine ⟨some ⟨g1, 0, none⟩, key.length, some ⟨g2, 0, none⟩, val.length, rfl, hidden ⟨?_, ?_, ?_⟩, hidden (hbu.trans (hf.below hbu.size (by intro i hi e; omega)))⟩
    · exact own_of_heap (l := key) (hg1.cf hf (hg1.apart5 HR2.out)) (by omega) (Nat.le_trans hkr (by unfold maxLen; decide))
    · exact own_of_heap (l := val) (hg2.cf hf (hg2.apart5 HR2.out)) (by omega) (Nat.le_trans hvr (by unfold maxLen; decide))
    · intro z h1 h2
      have e1 : g1 = z := by simpa [Value.ownBlock] using h1
      have e2 : g2 = z := by simpa [Value.ownBlock] using h2
      exact hg5 (e1.trans e2.symm)
  · rw [if_neg hx, if_neg hx]
    have HH := hidden (has_any y a k n _ so sn sc hrow x false ⟨fun h => (by cases h), fun h => absurd h hx⟩)
    obtain ⟨b0, b1, b2', b3, b4⟩ := HRES.out.cells
    obtain ⟨h0, h1, h2, h3, h4⟩ := HRES.out.free
    have hf := put5_cf y s (.slice none 0 0) (.int .i64 0) (.slice none 0 0) (.int .i64 0) (.int .i64 0)
    have HF := hidden hf
    have HS := hidden hs
    clear hp hpy hpg hrow hw hft hby hsn hys hf hx hz hzc
    go_enter Tryz.func214, Tryz.ntmps214
    go_wp2_with (first | (go_at_call 221; refine same_call HH.out ?_))
    refine bodyPost_ret (results_row28 rfl _ _ s 29 #[.slice none 0 0, .int .i64 0, .slice none 0 0, .int .i64 0, .int .i64 0] (0, 0) _ (.int .i64 64) (by rfl) (by rfl) (HRES.out.put _ _ _ _ _) Tryz.underlying29 rfl sizeCell) rfl ?_
    exact ⟨none, 0, none, 0, rfl, hidden ⟨OwnB.nil _ _, OwnB.nil _ _, fun z h1 => (by simp [Value.ownBlock] at h1)⟩, hidden (HBY.out.trans (HF.out.below HBY.out.size (by intro i hi e; have := HS.out; omega)))⟩
end Go.Proofs.YtfcbfombobelmaaGreatDoor

/- Layer 8: node.Cells of a plain page; node.Encode of a plain engine. -/

namespace Go.Proofs.YtfcbfombobelmaaGreatDoor
open Go.RowKit

/-- A cell in a row, its key and its value one's own. -/
def OAt (w : World) (B b off : Nat) (c : Cl) : Prop :=
  ∃ ko kc vo vc, w.cell? ⟨b, off, none⟩ = some (.slice ko c.key.length kc) ∧ w.cell? ⟨b, off + 1, none⟩ = some (.int .i64 c.kd) ∧ w.cell? ⟨b, off + 2, none⟩ = some (.slice vo c.val.length vc) ∧ w.cell? ⟨b, off + 3, none⟩ = some (.int .i64 c.pg) ∧ w.cell? ⟨b, off + 4, none⟩ = some (.int .i64 c.ct) ∧ OwnB w B (.slice ko c.key.length kc) c.key ∧ OwnB w B (.slice vo c.val.length vc) c.val
set_option maxRecDepth 100000 in
theorem OAt.on {w w' : World} {B b off : Nat} {c : Cl} (h : OAt w B b off c) (hb : b < w.heap.size) (hB : Below w.heap.size w w') : OAt w' B b off c := by
  obtain ⟨ko, kc, vo, vc, h0, h1, h2, h3, h4, h5, h6⟩ := h
  exact ⟨ko, kc, vo, vc, (hB.cell (p := ⟨b, off, none⟩) hb).trans h0, (hB.cell (p := ⟨b, off + 1, none⟩) hb).trans h1, (hB.cell (p := ⟨b, off + 2, none⟩) hb).trans h2, (hB.cell (p := ⟨b, off + 3, none⟩) hb).trans h3, (hB.cell (p := ⟨b, off + 4, none⟩) hb).trans h4, h5.on (Nat.le_refl _) hB, h6.on (Nat.le_refl _) hB⟩
set_option maxRecDepth 100000 in
theorem setCells_grown8 (g : Nat) : ∀ (vs : List Value) (o : Nat) (w : World), w.grownBy (w.setCells g o vs) (some g)
  | [], _, w => World.grownBy.refl w _
  | v :: vs, o, w => by
    have h1 : w.grownBy (w.setCell ⟨g, o, none⟩ v) (some g) := ⟨rfl, rfl, rfl, by simp [World.setCell], fun k _ hk => Below.heap_setCell _ _ _ _ (fun e => hk (by simp [e]))⟩
    have h2 := setCells_grown8 g vs (o + 1) (w.setCell ⟨g, o, none⟩ v)
    exact ⟨h2.os.trans h1.os, h2.tape.trans h1.tape, h2.output.trans h1.output, Nat.le_trans h1.size h2.size, fun i hi hne => (h2.block i (Nat.lt_of_lt_of_le hi h1.size) hne).trans (h1.block i hi hne)⟩
set_option maxRecDepth 100000 in
theorem OwnB.sets8 {w : World} {B b N j : Nat} {v : Value} {l : List Int} {vs : List Value} (h : OwnB w B v l) (hr : RowC w b N) : OwnB (w.setCells b j vs) B v l := by
  refine World.ownsRow.kept (row := some b) h (setCells_grown8 b vs j w) ?_
  cases e : v.ownBlock with
  | none => exact .inl rfl
  | some z =>
    right
    intro e2
    injection e2 with e2
    subst e2
    obtain ⟨cur, h1, _⟩ := hr
    unfold OwnB at h
    rcases h.2 with ⟨rfl, _⟩ | ⟨q, c, cu, rfl, _, h2, _⟩
    · simp [Value.ownBlock] at e
    · simp [Value.ownBlock] at e
      subst e
      rw [h1] at h2
      injection h2 with h2
      injection h2 with _ h3
      exact absurd h3 (by decide)
set_option maxRecDepth 100000 in
theorem OAt.put {w : World} {B b N i j : Nat} {c : Cl} {vs : List Value} (h : OAt w B b (i * 5) c) (hr : RowC w b N) (hij : i < j) : OAt (w.setCells b (j * 5) vs) B b (i * 5) c := by
  obtain ⟨ko, kc, vo, vc, h0, h1, h2, h3, h4, h5, h6⟩ := h
  have ho : ∀ d, d < 5 → (w.setCells b (j * 5) vs).cell? ⟨b, i * 5 + d, none⟩ = w.cell? ⟨b, i * 5 + d, none⟩ := fun d hd => World.cell?_setCells_out b _ _ w _ (fun _ _ => .inl (by simp only; omega))
  exact ⟨ko, kc, vo, vc, (ho 0 (by omega)).trans h0, (ho 1 (by omega)).trans h1, (ho 2 (by omega)).trans h2, (ho 3 (by omega)).trans h3, (ho 4 (by omega)).trans h4, h5.sets8 hr, h6.sets8 hr⟩
set_option maxRecDepth 100000 in
theorem OAt.new {w : World} {B b N j : Nat} {c : Cl} {ko vo : Option Addr} {kc vc : Nat} (hr : RowC w b N) (hj : j * 5 + 5 ≤ 5 * N) (h1 : OwnB w B (.slice ko c.key.length kc) c.key) (h2 : OwnB w B (.slice vo c.val.length vc) c.val) :
    OAt (w.setCells b (j * 5) [.slice ko c.key.length kc, .int .i64 c.kd, .slice vo c.val.length vc, .int .i64 c.pg, .int .i64 c.ct]) B b (j * 5) c := by
  have h := World.rangeAt_setCells_same w b (j * 5) [.slice ko c.key.length kc, .int .i64 c.kd, .slice vo c.val.length vc, .int .i64 c.pg, .int .i64 c.ct] (hr.there hj)
  exact ⟨ko, kc, vo, vc, h 0 _ rfl, h 1 _ rfl, h 2 _ rfl, h 3 _ rfl, h 4 _ rfl, h1.sets8 hr, h2.sets8 hr⟩
/-- What Cells comes to. -/
def CelsTo (cs : List Cl) (w : World) (e : Ending) (w' : World) : Prop :=
  ∃ g, e = .returned (.slice (some ⟨g, 0, none⟩) cs.length cs.length) ∧ Hid (w.heap.size ≤ g ∧ RowC w' g cs.length ∧ ∀ i d, cs[i]? = some d → OAt w' w.heap.size g (i * 5) d) ∧ Hid (Below w.heap.size w w')
set_option maxRecDepth 100000 in
set_option maxHeartbeats 2000000 in
theorem ncells_P (w : World) (B a : Nat) (k : Int) (n : Nat) (vb vs : Value) (cs : List Cl) (hp : Po w B a k n vb vs cs) (hw : ∀ c ∈ cs, c.Wf) (hft : ∀ c ∈ cs, c.fit) (hz : szN cs ≤ n) (hn : n ≤ 65536) :
    Calls Tryz.prog 51 #[iP a] w (CelsTo cs w) := by
  obtain ⟨ic, hic, hz0, hz1, hz2⟩ := info_parts infoC
  have hzc := szN_eq cs
  obtain ⟨sn, hsn⟩ : ∃ sn, cs.length = sn := ⟨_, rfl⟩
  have HPO := hidden hp
  have HW := hidden hw
  have HFT := hidden hft
  have HZ := hidden hz
  have HSN := hidden hsn
  have hs1 : sn ≤ 65536 := by omega
  have HLN : Hid (Calls Tryz.prog 103 #[.pointer (some ⟨a, 0, none⟩)] w fun e w' => e = .returned (.int .i64 (sn : Int)) ∧ w' = w) := hidden (by
    obtain ⟨bo, bc, rfl⟩ := hp.body.slice
    obtain ⟨so, sc, rfl⟩ := hp.starts.shape
    rw [sts_length, hsn] at hp
    exact lenR_any w a k n _ so sn sc hp.row)
  unfold CelsTo
  rw [hsn]
  clear hp hw hft hz hzc hsn
  go_enter Tryz.func51, Tryz.ntmps51
  go_wp2_with (first
    | (go_at_call 103; refine same_call HLN.out ?_)
    | (at_make; refine wpList_make_full _ rfl _ _ 83 rfl w.heap.size 29 ic _ 5 Tryz.underlying83 hic hz0 hz1 .i64 .i64 sn sn sn rfl rfl rfl rfl (by rw [hz2]; omega) (by unfold maxLen; omega) (Nat.le_refl _) ?_; refine Hid.out ?_))
  apply hidden
  intro w2 ho2 hg2
  have hb2 : Below w.heap.size w w2 := (Below.refl _ _).grown hg2 (Nat.le_refl _) (fun k hk => by cases hk)
  obtain ⟨g, hg⟩ : ∃ g, w.heap.size = g := ⟨_, rfl⟩
  have HRW : Hid (RowC w2 g sn) := by
    rcases ho2.2 with ⟨h, _⟩ | ⟨q, c, cur, h, _, hh, _, _, hss, _⟩
    · cases h
    · cases h
      rw [← hg]
      exact hidden ⟨cur, hh, by rw [hss]; omega⟩
  have hgs : Below g w w2 := by rw [← hg]; exact hb2
  have HGS := hidden hgs
  have HGW := hidden hg
  rw [hg]
  clear ho2 hg2 hb2 HLN hgs
  go_wp2_with fail
  go_loopw [4, 12, 15, 20] (fun s4 i s15 s20 wr => ∃ j : Nat, j ≤ sn ∧ i = .int .i64 j ∧ Hid (RowC wr g sn) ∧ Hid (Below g w wr) ∧ Hid (∀ i d, i < j → cs[i]? = some d → OAt wr g g (i * 5) d)) (fun _ i _ _ _ => sn - (intOf i).toNat)
  case atStart => exact ⟨0, by omega, rfl, HRW, HGS, hidden fun i d hi => by omega⟩
  case round =>
    obtain ⟨j, hj, rfl, HR, HG, HD⟩ := hrel
    have HBE : Hid (Below w.heap.size w wr) := hidden (by rw [HGW.out]; exact HG.out)
    have bj : (j : Int) ≤ 65536 := by omega
    clear HRW HGS
    by_cases hlt : j < sn
    · have hltI : (j : Int) < (sn : Int) := by omega
      obtain ⟨d, hd⟩ : ∃ d, cs[j]? = some d := ⟨_, List.getElem?_eq_getElem (by rw [HSN.out]; exact hlt)⟩
      have HDJ := hidden hd
      have HCL : Hid (Calls Tryz.prog 214 #[.pointer (some ⟨a, 0, none⟩), .int .i64 (j : Int)] wr (CelO d 0 wr)) := hidden (by
        have h := cellO_any wr B a k n vb vs cs (j : Int) (HPO.out.on HBE.out) HW.out HFT.out HZ.out hn
        have e1 : cellE cs (j : Int) = d := by unfold cellE; rw [if_pos ⟨by omega, by rw [HSN.out]; omega⟩, Int.toNat_natCast, hd]; rfl
        have e2 : remE cs (j : Int) = 0 := by unfold remE; rw [if_pos ⟨by omega, by rw [HSN.out]; omega⟩]
        rw [e1, e2] at h
        exact h)
      clear hd
      go_wp2_with (first | (go_at_call 214; refine HCL.out.mono ?_; rintro e u2 ⟨ko, kc, vo, vc, rfl, HOO, HBU⟩; refine Hid.out ?_))
      apply hidden
      have HR2 : Hid (RowC u2 g sn) := hidden (HR.out.on HBU.out)
      have HG2 : Hid (Below g w u2) := hidden (HG.out.trans (HBU.out.mono (Nat.le_of_lt HR.out.lt)))
      have hwg : g ≤ wr.heap.size := by have := HBE.out.size; have := HGW.out; omega
      have HWG := hidden hwg
      clear HCL hwg
      go_wp2_with (refine put_cell (by rfl) _ _ (by rfl) g (j * 5) sn ko vo d.key.length kc d.val.length vc d.kd d.pg d.ct HR2.out (by rfl) (by rfl) (by omega) ?_; intro u3 HU3; refine Hid.out ?_)
      apply hidden
      have HR3 : Hid (RowC u3 g sn) := hidden (by rw [HU3.out]; exact RowC.sets _ _ _ HR2.out)
      have HG3 : Hid (Below g w u3) := hidden (by
        rw [HU3.out]
        simp only [World.setCells]
        refine ((((HG2.out.setCell ?_ _).setCell ?_ _).setCell ?_ _).setCell ?_ _).setCell ?_ _ <;> simp)
      have HD3 : Hid (∀ i d, i < j + 1 → cs[i]? = some d → OAt u3 g g (i * 5) d) := by
        refine hidden fun i d' hi hd' => ?_
        rw [HU3.out]
        by_cases e : i = j
        · subst e
          rw [HDJ.out] at hd'
          injection hd' with hd'
          subst hd'
          exact OAt.new HR2.out (by omega) (HOO.out.1.low HWG.out) (HOO.out.2.1.low HWG.out)
        · exact ((HD.out i d' (by omega) hd').on HR.out.lt HBU.out).put HR2.out (by omega)
      clear HU3 HR2 HG2 HR HG HD HOO HBU
      go_wp2
      go_roundw
      case rel => exact ⟨j + 1, by omega, by go_num, HR3, HG3, HD3⟩
      case measure => simp [intOf]; omega
    · obtain rfl : j = sn := by omega
      have hlI : ¬ (j : Int) < (j : Int) := by omega
      go_wp2
      go_ret
      exact ⟨g, rfl, hidden ⟨by first | exact Nat.le_refl _ | (rw [HGW.out]; exact Nat.le_refl _), HR.out, fun i d hd => by have := (List.getElem?_eq_some_iff.1 hd).1; first | exact HD.out i d (by rw [HSN.out] at this; exact this) hd | (rw [HGW.out]; exact HD.out i d (by rw [HSN.out] at this; exact this) hd)⟩, by first | exact HBE | exact HG⟩
end Go.Proofs.YtfcbfombobelmaaGreatDoor
