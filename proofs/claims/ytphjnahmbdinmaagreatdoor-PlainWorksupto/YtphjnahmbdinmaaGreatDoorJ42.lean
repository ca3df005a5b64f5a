/- Layer 6: the law's pair, whole: what holds of it, and what a call leaves of it. -/
import Derived.Test.YtphjnahmbdinmaaGreatDoorJ40
import Derived.Test.YtphjnahmbdinmaaGreatDoorQc
namespace Go.Proofs.YtphjnahmbdinmaaGreatDoor
open Go.RowKit

set_option maxRecDepth 100000 in
/-- The type of an owned row's block. -/
theorem row_ty {w : World} {C s n z : Nat} {e : TypeId} {v : Value} {xs : List Value} (h : w.ownsRow C e s v n xs) (hz : v.ownBlock = some z) : ∃ cur fz, w.heap[z]? = some (.cells cur e fz) := by
  rcases h.2 with ⟨rfl, _⟩ | ⟨g, c, cur, rfl, _, hh, _⟩
  · simp [Value.ownBlock] at hz
  · have : g = z := by simpa [Value.ownBlock] using hz
    subst this
    exact ⟨_, _, hh⟩
set_option maxRecDepth 100000 in
theorem row_cf {w w' : World} {C s n : Nat} {e : TypeId} {v : Value} {xs : List Value} {F : Nat → Prop} (h : w.ownsRow C e s v n xs) (hc : Cf F w w') (hf : ∀ z, v.ownBlock = some z → ¬ F z) : w'.ownsRow C e s v n xs := by
  refine ⟨h.1, ?_⟩
  rcases h.2 with h0 | ⟨g, cap, cur, e1, hg, hh, rest⟩
  · exact .inl h0
  · exact .inr ⟨g, cap, cur, e1, hg, (hc.block g (lt_some hh) (hf g (by rw [e1]; rfl))).trans hh, rest⟩
/-- Of K no block of bytes turns. -/
def Kt8 (w : World) (K F : Nat → Prop) : Prop := ∀ z cur fz, K z → w.heap[z]? = some (.cells cur 5 fz) → ¬ F z
set_option maxRecDepth 100000 in
theorem OwnB.cfT {w w' : World} {C : Nat} {v : Value} {l : List Int} {K F : Nat → Prop} (ho : OwnB w C v l) (hc : Cf F w w') (hv : ∀ z, v.ownBlock = some z → K z) (hK : Kt8 w K F) : OwnB w' C v l := by
  refine row_cf ho hc fun z hz => ?_
  obtain ⟨cur, fz, hh⟩ := row_ty ho hz
  exact hK z cur fz (hv z hz) hh
set_option maxRecDepth 100000 in
theorem R5B.cfT {w w' : World} {C : Nat} {vs : List Value} {cs : List Cl} {K F : Nat → Prop} (h : R5B w C vs cs) (hv : KV K vs) (hc : Cf F w w') (hK : Kt8 w K F) : R5B w' C vs cs := h.keepK (fun _ _ hv ho => ho.cfT hc hv hK) hv
set_option maxRecDepth 100000 in
theorem OwnR.cfT {w w' : World} {C B : Nat} {v : Value} {cs : List Cl} {K F : Nat → Prop} (h : OwnR w C B K v cs) (hc : Cf F w w') (hf : ∀ z, v.ownBlock = some z → ¬ F z) (hK : Kt8 w K F) : OwnR w' C B K v cs := by
  obtain ⟨us, h1, h2, h3⟩ := h
  exact ⟨us, row_cf h1 hc hf, h2.cfT h3 hc hK, h3⟩
/-- Two values that share no block. -/
def Ap2 (u v : Value) : Prop := ∀ z, u.ownBlock = some z → ¬ v.ownBlock = some z
set_option maxRecDepth 100000 in
theorem Ap2.symm {u v : Value} (h : Ap2 u v) : Ap2 v u := fun z hz hu => h z hu hz
/-- What came out, and what should have, as lists. -/
structure Ls6 where
  ces : List Cl
  wes : List Cl
  pcs : List (List Int)
  hcs : List (List Int)
/-- What came out, and what should have. -/
structure Cm6 (w : World) (B : Nat) (K M : Nat → Prop) (L : Ls6) (v1 v2 v3 v4 : Value) (us ps : List Value) : Prop where
  cm : w.ownsRow B 40 5 v1 L.ces.length us
  cb : R5B w B us L.ces
  wt : OwnR w B B K v2 L.wes
  pc : w.ownsRow B 38 1 v3 L.pcs.length ps
  pb : ∀ (t : Nat) (u : Value) (l : List Int), ps[t]? = some u → L.pcs[t]? = some l → OwnB w B u l
  hs : w.ownsRow B 9 1 v4 L.hcs.length (L.hcs.map fun l => .string (strOfNums l))
  cok : ∀ c ∈ L.ces, c.Wf ∧ c.key.length ≤ 65536 ∧ c.val.length ≤ 65536
  pok : ∀ l ∈ L.pcs, Wf l ∧ l.length ≤ 65536
  dif : (us ++ ps).Pairwise Ap2
  mu : KV M us
  mp : KV M ps
set_option maxRecDepth 100000 in
theorem Cm6.cf {w w' : World} {B : Nat} {K M F : Nat → Prop} {L : Ls6} {v1 v2 v3 v4 : Value} {us ps : List Value} (h : Cm6 w B K M L v1 v2 v3 v4 us ps) (hc : Cf F w w') (h1 : ∀ z, v1.ownBlock = some z → ¬ F z) (h2 : ∀ z, v2.ownBlock = some z → ¬ F z) (h3 : ∀ z, v3.ownBlock = some z → ¬ F z) (h4 : ∀ z, v4.ownBlock = some z → ¬ F z) (hK : Kt8 w K F) (hM : Kt8 w M F) : Cm6 w' B K M L v1 v2 v3 v4 us ps :=
  ⟨row_cf h.cm hc h1, h.cb.cfT h.mu hc hM, h.wt.cfT hc h2 hK, row_cf h.pc hc h3, fun t u l hu hl => (h.pb t u l hu hl).cfT hc (h.mp u (List.mem_of_getElem? hu)) hM, row_cf h.hs hc h4, h.cok, h.pok, h.dif, h.mu, h.mp⟩
/-- THE PAIR, WHOLE: our page has the cells cp, the document's cd. -/
structure St6 (w : World) (B X a r : Nat) (k : Int) (n : Nat) (K M : Nat → Prop) (cp cd : List Cl) (L : Ls6) (vb vs vl v1 v2 v3 v4 : Value) (us ps : List Value) : Prop where
  px : PX w X a r v1 v2 v3 v4
  po : Po w B a k n vb vs cp
  dp : Dp w B K r k n vl cd
  cm : Cm6 w B K M L v1 v2 v3 v4 us ps
  mz : ∀ z, M z → ¬ K z ∧ z < w.heap.size
  kb : ∀ z, K z → z < w.heap.size
  bb : ∀ z, vb.ownBlock = some z → ¬ K z ∧ ¬ M z
  r1 : Ap2 v1 vl
  r2 : Ap2 v2 vl
  r3 : Ap2 v1 v2
  lo : B ≤ X ∧ B ≤ a ∧ B ≤ r
/-- A block that is none of the pair's bytes. -/
def Fre (w : World) (B : Nat) (K M : Nat → Prop) (vb : Value) (g : Nat) : Prop := B ≤ g ∧ g < w.heap.size ∧ ¬ K g ∧ ¬ M g ∧ ¬ vb.ownBlock = some g
set_option maxRecDepth 100000 in
theorem Cf.ff {w w' : World} (hb : Below w.heap.size w w') : Cf (fun _ => False) w w' := Cf.of_below hb
set_option maxRecDepth 100000 in
theorem St6.on {w w' : World} {B X a r : Nat} {k : Int} {n : Nat} {K M : Nat → Prop} {cp cd : List Cl} {L : Ls6} {vb vs vl v1 v2 v3 v4 : Value} {us ps : List Value} (h : St6 w B X a r k n K M cp cd L vb vs vl v1 v2 v3 v4 us ps) (hb : Below w.heap.size w w') : St6 w' B X a r k n K M cp cd L vb vs vl v1 v2 v3 v4 us ps :=
  ⟨h.px.on hb, h.po.on hb, h.dp.on hb, h.cm.cf (Cf.ff hb) (fun _ _ h => h) (fun _ _ h => h) (fun _ _ h => h) (fun _ _ h => h) (fun _ _ _ _ _ h => h) (fun _ _ _ _ _ h => h), fun z hz => ⟨(h.mz z hz).1, Nat.lt_of_lt_of_le (h.mz z hz).2 hb.size⟩, fun z hz => Nat.lt_of_lt_of_le (h.kb z hz) hb.size, h.bb, h.r1, h.r2, h.r3, h.lo⟩
set_option maxRecDepth 100000 in
theorem Fre.on {w w' : World} {B : Nat} {K M : Nat → Prop} {vb : Value} {g : Nat} (h : Fre w B K M vb g) (hb : w.heap.size ≤ w'.heap.size) : Fre w' B K M vb g := ⟨h.1, Nat.lt_of_lt_of_le h.2.1 hb, h.2.2⟩
set_option maxRecDepth 100000 in
/-- New memory is none of the pair's. -/
theorem St6.new {w w' : World} {B X a r : Nat} {k : Int} {n : Nat} {K M : Nat → Prop} {cp cd : List Cl} {L : Ls6} {vb vs vl v1 v2 v3 v4 : Value} {us ps : List Value} (h : St6 w B X a r k n K M cp cd L vb vs vl v1 v2 v3 v4 us ps) {g : Nat} (hB : B ≤ w.heap.size) (hg : w.heap.size ≤ g) (hg' : g < w'.heap.size) : Fre w' B K M vb g :=
  ⟨Nat.le_trans hB hg, hg', fun hk => absurd (h.kb g hk) (by omega), fun hm => absurd (h.mz g hm).2 (by omega), fun e => absurd (World.ownsRow.lt h.po.body g e).2 (by omega)⟩
set_option maxRecDepth 100000 in
/-- A call of our page. -/
theorem St6.our {w w' : World} {B X a r : Nat} {k : Int} {n : Nat} {K M : Nat → Prop} {cp cd cp' : List Cl} {L : Ls6} {vb vs vl v1 v2 v3 v4 vb' vs' : Value} {us ps : List Value} (h : St6 w B X a r k n K M cp cd L vb vs vl v1 v2 v3 v4 us ps) (hc : Cf (PZ a vb vs) w w') (hp : Po w' B a k n vb' vs' cp') (hb : vb'.ownBlock = vb.ownBlock ∨ ∃ g, vb'.ownBlock = some g ∧ w.heap.size ≤ g) :
    St6 w' B X a r k n K M cp' cd L vb' vs' vl v1 v2 v3 v4 us ps ∧ (∀ g, Fre w B K M vb g → Fre w' B K M vb' g) ∧ Below B w w' := by
  have hrow : ∀ {e : TypeId} {s m : Nat} {v : Value} {xs : List Value}, w.ownsRow B e s v m xs → e ≠ 56 → e ≠ 5 → e ≠ 3 → ∀ z, v.ownBlock = some z → ¬ PZ a vb vs z := by
    intro e s m v xs hr h1 h2 h3 z hz
    obtain ⟨cur, fz, hh⟩ := row_ty hr hz
    exact h.po.no hh h1 h2 h3
  have hK8 : ∀ {J : Nat → Prop}, (∀ z, vb.ownBlock = some z → ¬ J z) → Kt8 w J (PZ a vb vs) := by
    intro J hJ z cur fz hz hh hp
    obtain ⟨cur', t', fz', hh', ht⟩ := h.po.ty hp
    rw [hh] at hh'
    injection hh' with hh'
    injection hh' with e1 e2 e3
    subst e2
    rcases ht with ht | ⟨_, ht⟩ | ht
    · exact absurd ht (by decide)
    · exact hJ z ht hz
    · exact absurd ht (by decide)
  obtain ⟨ws, hw1, hw2, hw3⟩ := h.cm.wt
  obtain ⟨bb1, bb2⟩ : (∀ z, vb.ownBlock = some z → ¬ K z) ∧ (∀ z, vb.ownBlock = some z → ¬ M z) := ⟨fun z hz => (h.bb z hz).1, fun z hz => (h.bb z hz).2⟩
  refine ⟨⟨h.px.cfP h.po hc, hp, h.dp.cfP h.po hc bb1, h.cm.cf hc (hrow h.cm.cm (by decide) (by decide) (by decide)) (hrow hw1 (by decide) (by decide) (by decide)) (hrow h.cm.pc (by decide) (by decide) (by decide)) (hrow h.cm.hs (by decide) (by decide) (by decide)) (hK8 bb1) (hK8 bb2), fun z hz => ⟨(h.mz z hz).1, Nat.lt_of_lt_of_le (h.mz z hz).2 hc.size⟩, fun z hz => Nat.lt_of_lt_of_le (h.kb z hz) hc.size, ?_, h.r1, h.r2, h.r3, h.lo⟩, ?_, ?_⟩
  · intro z hz
    rcases hb with hb | ⟨g, hg, hlt⟩
    · exact h.bb z (hb ▸ hz)
    · rw [hg] at hz
      cases hz
      exact ⟨fun hk => absurd (h.kb z hk) (by omega), fun hm => absurd (h.mz z hm).2 (by omega)⟩
  · rintro g ⟨g0, g1, g2, g3, g4⟩
    refine ⟨g0, Nat.lt_of_lt_of_le g1 hc.size, g2, g3, fun e => ?_⟩
    rcases hb with hb | ⟨q, hq, hlt⟩
    · exact g4 (hb ▸ e)
    · rw [hq] at e
      cases e
      omega
  · refine ⟨hc.os, hc.tape, hc.output, hc.size, fun q hq => ?_⟩
    by_cases hlt : q < w.heap.size
    · refine hc.block q hlt ?_
      rintro (e | e | e)
      · have := h.lo.2.1
        omega
      · have := (World.ownsRow.lt h.po.body q e).1
        omega
      · have := (World.ownsRow.lt h.po.starts q e).1
        omega
    · have := h.lo.1
      have := lt_some h.px
      omega
set_option maxRecDepth 100000 in
/-- A call of the document's page. -/
theorem St6.doc {w w' : World} {B X a r : Nat} {k : Int} {n : Nat} {K M : Nat → Prop} {cp cd cd' : List Cl} {L : Ls6} {vb vs vl v1 v2 v3 v4 vl' : Value} {us ps : List Value} (h : St6 w B X a r k n K M cp cd L vb vs vl v1 v2 v3 v4 us ps) (hc : Cf (· = r) w w') (hd : Dp w' B (fun z => K z ∨ w.heap.size ≤ z) r k n vl' cd') (hv : vl' = vl ∨ ∀ z, vl'.ownBlock = some z → w.heap.size ≤ z) :
    ∃ K', St6 w' B X a r k n K' M cp cd' L vb vs vl' v1 v2 v3 v4 us ps ∧ (∀ g, Fre w B K M vb g → Fre w' B K' M vb g) ∧ Below B w w' := by
  have hrow : ∀ {e : TypeId} {s m : Nat} {v : Value} {xs : List Value}, w.ownsRow B e s v m xs → e ≠ 58 → ∀ z, v.ownBlock = some z → ¬ z = r := by
    intro e s m v xs hr h1 z hz ez
    subst ez
    obtain ⟨cur, fz, hh⟩ := row_ty hr hz
    have := h.dp.row
    unfold DR at this
    rw [hh] at this
    injection this with this
    injection this with _ e2 _
    exact h1 e2
  have hK8 : ∀ {J : Nat → Prop}, Kt8 w J (· = r) := by
    intro J z cur fz hz hh ez
    have e : z = r := ez
    subst e
    have := h.dp.row
    unfold DR at this
    rw [hh] at this
    injection this with this
    injection this with _ e2 _
    exact absurd e2 (by decide)
  obtain ⟨ws, hw1, hw2, hw3⟩ := h.cm.wt
  have hcm := h.cm.cf hc (hrow h.cm.cm (by decide)) (hrow hw1 (by decide)) (hrow h.cm.pc (by decide)) (hrow h.cm.hs (by decide)) hK8 hK8
  have hlv : ∀ (v : Value), (∀ z, v.ownBlock = some z → z < w.heap.size) → Ap2 v vl → Ap2 v vl' := by
    intro v h1 h2 z hz hz'
    rcases hv with rfl | hv
    · exact h2 z hz hz'
    · have := h1 z hz
      have := hv z hz'
      omega
  refine ⟨fun z => (K z ∨ w.heap.size ≤ z) ∧ z < w'.heap.size, ⟨h.px.cfR h.dp.row hc, h.po.cfR h.dp.row hc, hd.cut, ⟨hcm.cm, hcm.cb, hcm.wt.wide fun z hz => ⟨.inl hz, Nat.lt_of_lt_of_le (h.kb z hz) hc.size⟩, hcm.pc, hcm.pb, hcm.hs, hcm.cok, hcm.pok, hcm.dif, hcm.mu, hcm.mp⟩, ?_, fun z hz => hz.2, ?_, hlv v1 (fun z hz => (World.ownsRow.lt h.cm.cm z hz).2) h.r1, hlv v2 (fun z hz => (World.ownsRow.lt hw1 z hz).2) h.r2, h.r3, h.lo⟩, ?_, ?_⟩
  · intro z hz
    have := h.mz z hz
    refine ⟨?_, Nat.lt_of_lt_of_le this.2 hc.size⟩
    rintro ⟨hk | hk, _⟩
    · exact this.1 hk
    · omega
  · intro z hz
    have h1 := h.bb z hz
    have h2 := (World.ownsRow.lt h.po.body z hz).2
    refine ⟨?_, h1.2⟩
    rintro ⟨hk | hk, _⟩
    · exact h1.1 hk
    · omega
  · rintro g ⟨g0, g1, g2, g3, g4⟩
    refine ⟨g0, Nat.lt_of_lt_of_le g1 hc.size, ?_, g3, g4⟩
    rintro ⟨hk | hk, _⟩
    · exact g2 hk
    · omega
  · refine ⟨hc.os, hc.tape, hc.output, hc.size, fun q hq => ?_⟩
    have h1 := h.lo
    have h2 := lt_some h.px
    exact hc.block q (by omega) (by omega)
set_option maxRecDepth 100000 in
/-- What was lent is written over. -/
theorem St6.turn {w w' : World} {B X a r : Nat} {k : Int} {n : Nat} {K M : Nat → Prop} {cp cd : List Cl} {L : Ls6} {vb vs vl v1 v2 v3 v4 : Value} {us ps : List Value} {F : Nat → Prop} (h : St6 w B X a r k n K M cp cd L vb vs vl v1 v2 v3 v4 us ps) (hc : Cf F w w') (hF : ∀ z, F z → Fre w B K M vb z ∧ ∃ cur fz, w.heap[z]? = some (.cells cur 5 fz)) :
    St6 w' B X a r k n K M cp cd L vb vs vl v1 v2 v3 v4 us ps ∧ Below B w w' := by
  have hno : ∀ {z : Nat} {cur : Array Value} {t : TypeId} {fz : Nat × Nat}, w.heap[z]? = some (.cells cur t fz) → t ≠ 5 → ¬ F z := by
    intro z cur t fz hh ht hf
    obtain ⟨_, cur', fz', hh'⟩ := hF z hf
    rw [hh] at hh'
    injection hh' with hh'
    injection hh' with _ e2 _
    exact ht e2
  have hrow : ∀ {e : TypeId} {s m : Nat} {v : Value} {xs : List Value}, w.ownsRow B e s v m xs → e ≠ 5 → ∀ z, v.ownBlock = some z → ¬ F z := by
    intro e s m v xs hr h1 z hz
    obtain ⟨cur, fz, hh⟩ := row_ty hr hz
    exact hno hh h1
  have hK8 : Kt8 w K F := fun z _ _ hz _ hf => (hF z hf).1.2.2.1 hz
  have hM8 : Kt8 w M F := fun z _ _ hz _ hf => (hF z hf).1.2.2.2.1 hz
  obtain ⟨ws, hw1, hw2, hw3⟩ := h.cm.wt
  obtain ⟨ls, hl1, hl2, hl3⟩ := h.dp.cells
  refine ⟨⟨?_, ⟨?_, ?_, ?_⟩, ⟨h.dp.row.cf hc (hno h.dp.row (by decide)), h.dp.cells.cfT hc (hrow hl1 (by decide)) hK8⟩, h.cm.cf hc (hrow h.cm.cm (by decide)) (hrow hw1 (by decide)) (hrow h.cm.pc (by decide)) (hrow h.cm.hs (by decide)) hK8 hM8, fun z hz => ⟨(h.mz z hz).1, Nat.lt_of_lt_of_le (h.mz z hz).2 hc.size⟩, fun z hz => Nat.lt_of_lt_of_le (h.kb z hz) hc.size, h.bb, h.r1, h.r2, h.r3, h.lo⟩, ?_⟩
  · exact (hc.block X (lt_some h.px) (hno h.px (by decide))).trans h.px
  · exact h.po.row.cf hc (hno h.po.row (by decide))
  · exact row_cf h.po.body hc fun z hz hf => (hF z hf).1.2.2.2.2 hz
  · exact row_cf h.po.starts hc (hrow h.po.starts (by decide))
  · refine ⟨hc.os, hc.tape, hc.output, hc.size, fun q hq => ?_⟩
    have h1 := h.lo
    have h2 := lt_some h.px
    refine hc.block q (by omega) fun hf => ?_
    have := (hF q hf).1.1
    omega
end Go.Proofs.YtphjnahmbdinmaaGreatDoor

/- Layer 6: the pair while a cell is lent: Insert and Set of both pages. -/

namespace Go.Proofs.YtphjnahmbdinmaaGreatDoor
open Go.RowKit

/-- The pair while two pieces are lent, in the blocks G1 and G2. -/
def Md6 (w u : World) (B X a r : Nat) (k : Int) (n : Nat) (cp cd : List Cl) (L : Ls6) (G1 G2 : Nat) (key val : List Int) : Prop :=
  (∃ K M vb vs vl v1 v2 v3 v4 us ps, St6 u B X a r k n K M cp cd L vb vs vl v1 v2 v3 v4 us ps ∧ Fre u B K M vb G1 ∧ Fre u B K M vb G2) ∧ Bk u G1 (key ++ mks 9) ∧ Bk u G2 (val ++ mks 9) ∧ Below B w u
set_option maxRecDepth 100000 in
theorem St6.size {w : World} {B X a r : Nat} {k : Int} {n : Nat} {K M : Nat → Prop} {cp cd : List Cl} {L : Ls6} {vb vs vl v1 v2 v3 v4 : Value} {us ps : List Value} (h : St6 w B X a r k n K M cp cd L vb vs vl v1 v2 v3 v4 us ps) : B ≤ w.heap.size := by
  have h1 := h.lo.1
  have h2 := lt_some h.px
  omega
set_option maxRecDepth 100000 in
theorem bl_low {A B : Nat} {w w' : World} (h : Below A w w') (hB : B ≤ A) : Below B w w' := ⟨h.os, h.tape, h.output, h.size, fun q hq => h.block q (Nat.lt_of_lt_of_le hq hB)⟩
set_option maxRecDepth 100000 in
theorem Md6.on {w u u' : World} {B X a r : Nat} {k : Int} {n : Nat} {cp cd : List Cl} {L : Ls6} {G1 G2 : Nat} {key val : List Int} (h : Md6 w u B X a r k n cp cd L G1 G2 key val) (hb : Below u.heap.size u u') : Md6 w u' B X a r k n cp cd L G1 G2 key val := by
  obtain ⟨⟨K, M, vb, vs, vl, v1, v2, v3, v4, us, ps, hs, f1, f2⟩, b1, b2, hw⟩ := h
  exact ⟨⟨K, M, vb, vs, vl, v1, v2, v3, v4, us, ps, hs.on hb, f1.on hb.size, f2.on hb.size⟩, box_on b1 hb, box_on b2 hb, hw.trans (bl_low hb hs.size)⟩
set_option maxRecDepth 100000 in
theorem Md6.cells {w u : World} {B X a r : Nat} {k : Int} {n : Nat} {cp cd : List Cl} {L : Ls6} {G1 G2 : Nat} {key val : List Int} (h : Md6 w u B X a r k n cp cd L G1 G2 key val) : u.cell? ⟨X, 0, none⟩ = some (.pointer (some ⟨a, 0, none⟩)) ∧ u.cell? ⟨X, 1, none⟩ = some (.pointer (some ⟨r, 0, none⟩)) := by
  obtain ⟨⟨K, M, vb, vs, vl, v1, v2, v3, v4, us, ps, hs, f1, f2⟩, b1, b2, hw⟩ := h
  exact ⟨hs.px.cells.1, hs.px.cells.2.1⟩
/-- Cells in blocks stay. -/
def Kc5 (u u' : World) : Prop := ∀ s x0 x1 x2 x3 x4, C5 u s x0 x1 x2 x3 x4 → C5 u' s x0 x1 x2 x3 x4
set_option maxRecDepth 100000 in
theorem Md6.ins {w u : World} {B X a r : Nat} {k : Int} {n : Nat} {cs cd : List Cl} {L : Ls6} {G1 G2 : Nat} {key val : List Int} (hm : Md6 w u B X a r k n cs cd L G1 G2 key val) (g : PgOk k n cs) (x : Int) (ka : Option Addr) (kn kc : Nat) (kd : Int) (va : Option Addr) (vn vc : Nat) (pg ct : Int) (ke va' : List Int) (hk : Sl u ka kn kc ke) (hv : Sl u va vn vc va') :
    Calls Tryz.prog 18 #[.pointer (some ⟨a, 0, none⟩), .int .i64 x, .agg #[.slice ka kn kc, .int .i64 kd, .slice va vn vc, .int .i64 pg, .int .i64 ct]] u fun e u' => e = .returned (.int .i64 (insE k n cs x ⟨ke, kd, va', pg, ct⟩)) ∧ Hid (Md6 w u' B X a r k n (if insE k n cs x ⟨ke, kd, va', pg, ct⟩ = 0 then cs.take x.toNat ++ [⟨ke, kd, va', pg, ct⟩] ++ cs.drop x.toNat else cs) cd L G1 G2 key val) ∧ Hid (Kc5 u u') := by
  obtain ⟨⟨K, M, vb, vs, vl, v1, v2, v3, v4, us, ps, hs, f1, f2⟩, b1, b2, hw⟩ := hm
  refine (insert_any u B a k n vb vs cs x ka kn kc kd va vn vc pg ct ke va' hs.po (pw_nat g.sz).2 g.wf g.fit g.size hk hv hs.size).mono ?_
  rintro e u' ⟨rfl, hp, hc⟩
  obtain ⟨vb', vs', hp, hv1, hv2⟩ := hp.out
  have hc := hc.out
  obtain ⟨st, fr, hbl⟩ := hs.our hc hp hv1
  exact ⟨rfl, hidden ⟨⟨K, M, vb', vs', vl, v1, v2, v3, v4, us, ps, st, fr _ f1, fr _ f2⟩, b1.cfP hs.po hc f1.2.2.2.2, b2.cfP hs.po hc f2.2.2.2.2, hw.trans hbl⟩, hidden fun s x0 x1 x2 x3 x4 hx => hx.cfP hs.po hc⟩
set_option maxRecDepth 100000 in
theorem Md6.set {w u : World} {B X a r : Nat} {k : Int} {n : Nat} {cs cd : List Cl} {L : Ls6} {G1 G2 : Nat} {key val : List Int} (hm : Md6 w u B X a r k n cs cd L G1 G2 key val) (g : PgOk k n cs) (x : Int) (ka : Option Addr) (kn kc : Nat) (kd : Int) (va : Option Addr) (vn vc : Nat) (pg ct : Int) (ke va' : List Int) (hk : Sl u ka kn kc ke) (hv : Sl u va vn vc va') :
    Calls Tryz.prog 54 #[.pointer (some ⟨a, 0, none⟩), .int .i64 x, .agg #[.slice ka kn kc, .int .i64 kd, .slice va vn vc, .int .i64 pg, .int .i64 ct]] u fun e u' => e = .returned (.int .i64 (setE k n cs x ⟨ke, kd, va', pg, ct⟩)) ∧ Hid (Md6 w u' B X a r k n (if setE k n cs x ⟨ke, kd, va', pg, ct⟩ = 0 then cs.take x.toNat ++ [⟨ke, kd, va', pg, ct⟩] ++ cs.drop (x.toNat + 1) else cs) cd L G1 G2 key val) ∧ Hid (Kc5 u u') := by
  obtain ⟨⟨K, M, vb, vs, vl, v1, v2, v3, v4, us, ps, hs, f1, f2⟩, b1, b2, hw⟩ := hm
  refine (set_any u B a k n vb vs cs x ka kn kc kd va vn vc pg ct ke va' hs.po (pw_nat g.sz).2 g.wf g.fit g.size hk hv hs.size).mono ?_
  rintro e u' ⟨rfl, hp, hc⟩
  obtain ⟨vb', vs', hp, hv1, hv2⟩ := hp.out
  have hc := hc.out
  obtain ⟨st, fr, hbl⟩ := hs.our hc hp hv1
  exact ⟨rfl, hidden ⟨⟨K, M, vb', vs', vl, v1, v2, v3, v4, us, ps, st, fr _ f1, fr _ f2⟩, b1.cfP hs.po hc f1.2.2.2.2, b2.cfP hs.po hc f2.2.2.2.2, hw.trans hbl⟩, hidden fun s x0 x1 x2 x3 x4 hx => hx.cfP hs.po hc⟩
set_option maxRecDepth 100000 in
theorem Md6.rins {w u : World} {B X a r : Nat} {k : Int} {n : Nat} {cp cs : List Cl} {L : Ls6} {G1 G2 : Nat} {key val : List Int} (hm : Md6 w u B X a r k n cp cs L G1 G2 key val) (g : PgOk k n cs) (x : Int) (ka : Option Addr) (kn kc : Nat) (kd : Int) (va : Option Addr) (vn vc : Nat) (pg ct : Int) (ke va' : List Int) (hk : Sl u ka kn kc ke) (hv : Sl u va vn vc va') :
    Calls Tryz.prog 56 #[.pointer (some ⟨r, 0, none⟩), .int .i64 x, .agg #[.slice ka kn kc, .int .i64 kd, .slice va vn vc, .int .i64 pg, .int .i64 ct]] u fun e u' => e = .returned (.int .i64 (insE k n cs x ⟨ke, kd, va', pg, ct⟩)) ∧ Hid (Md6 w u' B X a r k n cp (if insE k n cs x ⟨ke, kd, va', pg, ct⟩ = 0 then cs.take x.toNat ++ [⟨ke, kd, va', pg, ct⟩] ++ cs.drop x.toNat else cs) L G1 G2 key val) ∧ Hid (Kc5 u u') := by
  obtain ⟨⟨K, M, vb, vs, vl, v1, v2, v3, v4, us, ps, hs, f1, f2⟩, b1, b2, hw⟩ := hm
  refine (rinsert_any u B (fun z => K z ∨ u.heap.size ≤ z) r k n vl cs x ka kn kc kd va vn vc pg ct ke va' (hs.dp.wide fun z hz => .inl hz) g.ok (fun h i j => g.big h i j) hk hv hs.size (fun z hz => .inr hz)).mono ?_
  rintro e u' ⟨rfl, hp, hc⟩
  obtain ⟨vl', hp, hv1⟩ := hp.out
  have hc := hc.out
  obtain ⟨K', st, fr, hbl⟩ := hs.doc hc hp hv1
  exact ⟨rfl, hidden ⟨⟨K', M, vb, vs, vl', v1, v2, v3, v4, us, ps, st, fr _ f1, fr _ f2⟩, b1.cfR hs.dp.row hc, b2.cfR hs.dp.row hc, hw.trans hbl⟩, hidden fun s x0 x1 x2 x3 x4 hx => hx.cfR hs.dp.row hc⟩
set_option maxRecDepth 100000 in
theorem Md6.rset {w u : World} {B X a r : Nat} {k : Int} {n : Nat} {cp cs : List Cl} {L : Ls6} {G1 G2 : Nat} {key val : List Int} (hm : Md6 w u B X a r k n cp cs L G1 G2 key val) (g : PgOk k n cs) (x : Int) (ka : Option Addr) (kn kc : Nat) (kd : Int) (va : Option Addr) (vn vc : Nat) (pg ct : Int) (ke va' : List Int) (hk : Sl u ka kn kc ke) (hv : Sl u va vn vc va') :
    Calls Tryz.prog 55 #[.pointer (some ⟨r, 0, none⟩), .int .i64 x, .agg #[.slice ka kn kc, .int .i64 kd, .slice va vn vc, .int .i64 pg, .int .i64 ct]] u fun e u' => e = .returned (.int .i64 (setE k n cs x ⟨ke, kd, va', pg, ct⟩)) ∧ Hid (Md6 w u' B X a r k n cp (if setE k n cs x ⟨ke, kd, va', pg, ct⟩ = 0 then cs.take x.toNat ++ [⟨ke, kd, va', pg, ct⟩] ++ cs.drop (x.toNat + 1) else cs) L G1 G2 key val) ∧ Hid (Kc5 u u') := by
  obtain ⟨⟨K, M, vb, vs, vl, v1, v2, v3, v4, us, ps, hs, f1, f2⟩, b1, b2, hw⟩ := hm
  refine (rset_any u B (fun z => K z ∨ u.heap.size ≤ z) r k n vl cs x ka kn kc kd va vn vc pg ct ke va' (hs.dp.wide fun z hz => .inl hz) g.ok (fun h i j => g.big h i j) hk hv hs.size (fun z hz => .inr hz)).mono ?_
  rintro e u' ⟨rfl, hp, hc⟩
  obtain ⟨vl', hp, hv1⟩ := hp.out
  have hc := hc.out
  obtain ⟨K', st, fr, hbl⟩ := hs.doc hc hp hv1
  exact ⟨rfl, hidden ⟨⟨K', M, vb, vs, vl', v1, v2, v3, v4, us, ps, st, fr _ f1, fr _ f2⟩, b1.cfR hs.dp.row hc, b2.cfR hs.dp.row hc, hw.trans hbl⟩, hidden fun s x0 x1 x2 x3 x4 hx => hx.cfR hs.dp.row hc⟩
set_option maxRecDepth 100000 in
/-- What was lent is asked for, and turned. -/
theorem Md6.back {w0 w u : World} {B X a r : Nat} {k : Int} {n : Nat} {cp cd : List Cl} {L : Ls6} {G1 G2 : Nat} {key val : List Int} (hm : Md6 w u B X a r k n cp cd L G1 G2 key val) (hne : ¬ G1 = G2) (hw0 : Below B w0 w) (hB0 : w0.heap.size ≤ B) (ka : Option Addr) (kn kc : Nat) (kd : Int) (va : Option Addr) (vn vc : Nat) (pg ct : Int) (hk : Sl w0 ka kn kc key) (hv : Sl w0 va vn vc val) :
    Calls Tryz.prog 57 #[.agg #[.slice (some ⟨G1, 0, none⟩) kn (kn + 9), .int .i64 kd, .slice (some ⟨G2, 0, none⟩) vn (vn + 9), .int .i64 pg, .int .i64 ct], .agg #[.slice ka kn kc, .int .i64 kd, .slice va vn vc, .int .i64 pg, .int .i64 ct]] u fun e u' => e = .returned (.bool true) ∧ Hid (∃ K M vb vs vl v1 v2 v3 v4 us ps, St6 u' B X a r k n K M cp cd L vb vs vl v1 v2 v3 v4 us ps) ∧ Hid (Below B w u') := by
  obtain ⟨⟨K, M, vb, vs, vl, v1, v2, v3, v4, us, ps, hs, f1, f2⟩, b1, b2, hw⟩ := hm
  have htr : ∀ u', Cf (fun q => q = G1 ∨ q = G2) u u' → St6 u' B X a r k n K M cp cd L vb vs vl v1 v2 v3 v4 us ps ∧ Below B u u' := fun u' hc => hs.turn hc (by
    rintro z (rfl | rfl)
    · exact ⟨f1, _, _, b1⟩
    · exact ⟨f2, _, _, b2⟩)
  refine (asLentCell_any key val kd pg ct G1 G2 ka va kn vn kc vc u b1 b2 hne (fun u' hc => hk.on hB0 ((hw0.trans hw).trans (htr u' hc).2)) (fun u' hc => hv.on hB0 ((hw0.trans hw).trans (htr u' hc).2))).mono ?_
  rintro e u' ⟨rfl, hc⟩
  exact ⟨rfl, hidden ⟨K, M, vb, vs, vl, v1, v2, v3, v4, us, ps, (htr u' hc.out).1⟩, hidden (hw.trans (htr u' hc.out).2)⟩
end Go.Proofs.YtphjnahmbdinmaaGreatDoor
