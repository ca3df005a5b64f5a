/- Layer 6: what a call of the one page leaves of the other. -/
import Derived.Test.YtphjnahmbdinmaaGreatDoorJ38
import Derived.Test.YtphjnahmbdinmaaGreatDoorJ11
import Derived.Test.YtphjnahmbdinmaaGreatDoorJ24
namespace Go.Proofs.YtphjnahmbdinmaaGreatDoor
open Go.RowKit

set_option maxRecDepth 100000 in
theorem R5B.keepK {w w' : World} {B : Nat} {K : Nat → Prop} (hk : ∀ v l, (∀ z, v.ownBlock = some z → K z) → OwnB w B v l → OwnB w' B v l) : ∀ {vs : List Value} {cs : List Cl}, KV K vs → R5B w B vs cs → R5B w' B vs cs
  | vs, [], _, h => h
  | vs, c :: r, hv, h => by
    obtain ⟨ka, kc, va, vc, t, rfl, h1, h2, h3⟩ := h
    exact ⟨ka, kc, va, vc, t, rfl, hk _ _ (hv _ (by simp)) h1, hk _ _ (hv _ (by simp)) h2, R5B.keepK hk (fun u hu => hv u (by simp [hu])) h3⟩
set_option maxRecDepth 100000 in
/-- The types of a page's blocks. -/
theorem Po.ty {w : World} {B a : Nat} {k : Int} {n : Nat} {vb vs : Value} {cs : List Cl} (h : Po w B a k n vb vs cs) {b : Nat} (hb : PZ a vb vs b) : ∃ cur t fz, w.heap[b]? = some (.cells cur t fz) ∧ (t = 56 ∨ (t = 5 ∧ vb.ownBlock = some b) ∨ t = 3) := by
  rcases hb with rfl | hb | hb
  · exact ⟨_, _, _, h.row, .inl rfl⟩
  · have ho := h.body
    unfold OwnB at ho
    rcases ho.2 with ⟨rfl, _⟩ | ⟨g, c, cur, rfl, _, hh, _⟩
    · simp [Value.ownBlock] at hb
    · have : g = b := by simpa [Value.ownBlock] using hb
      subst this
      exact ⟨_, _, _, hh, .inr (.inl ⟨rfl, hb⟩)⟩
  · have ho := h.starts
    unfold OwnN at ho
    rcases ho.2 with ⟨rfl, _⟩ | ⟨g, c, cur, rfl, _, hh, _⟩
    · simp [Value.ownBlock] at hb
    · have : g = b := by simpa [Value.ownBlock] using hb
      subst this
      exact ⟨_, _, _, hh, .inr (.inr rfl)⟩
set_option maxRecDepth 100000 in
/-- A block of another type is none of the page's. -/
theorem Po.no {w : World} {B a : Nat} {k : Int} {n : Nat} {vb vs : Value} {cs : List Cl} (h : Po w B a k n vb vs cs) {b : Nat} {cur : Array Value} {t : TypeId} {fz : Nat × Nat} (hb : w.heap[b]? = some (.cells cur t fz)) (h1 : t ≠ 56) (h2 : t ≠ 5) (h3 : t ≠ 3) : ¬ PZ a vb vs b := fun hz => by
  obtain ⟨cur', t', fz', hh, ht⟩ := h.ty hz
  rw [hb] at hh
  injection hh with hh
  injection hh with e1 e2 e3
  subst e2
  rcases ht with ht | ⟨ht, _⟩ | ht
  · exact h1 ht
  · exact h2 ht
  · exact h3 ht
set_option maxRecDepth 100000 in
/-- Bytes in blocks of K stay, where the page's bytes are none of K. -/
theorem OwnB.cfP {w w' : World} {B C a : Nat} {k : Int} {n : Nat} {vb vs : Value} {cs : List Cl} {K : Nat → Prop} (h : Po w B a k n vb vs cs) (hc : Cf (PZ a vb vs) w w') (hK : ∀ z, vb.ownBlock = some z → ¬ K z) {v : Value} {l : List Int} (hv : ∀ z, v.ownBlock = some z → K z) (ho : OwnB w C v l) : OwnB w' C v l :=
  ho.cfX hc fun z hz hp => by
    obtain ⟨cur', t', fz', hh, ht⟩ := h.ty hp
    unfold OwnB at ho
    rcases ho.2 with ⟨rfl, _⟩ | ⟨g, c, cur, rfl, _, hg, _⟩
    · simp [Value.ownBlock] at hz
    · have e : g = z := by simpa [Value.ownBlock] using hz
      subst e
      rw [hg] at hh
      injection hh with hh
      injection hh with e1 e2 e3
      subst e2
      rcases ht with ht | ⟨_, ht⟩ | ht
      · exact absurd ht (by decide)
      · exact hK _ ht (hv _ hz)
      · exact absurd ht (by decide)
set_option maxRecDepth 100000 in
theorem OwnR.cfP {w w' : World} {B C D a : Nat} {k : Int} {n : Nat} {vb vs : Value} {cs : List Cl} {K : Nat → Prop} (h : Po w B a k n vb vs cs) (hc : Cf (PZ a vb vs) w w') (hK : ∀ z, vb.ownBlock = some z → ¬ K z) {v : Value} {ds : List Cl} (ho : OwnR w C D K v ds) : OwnR w' C D K v ds := by
  obtain ⟨us, h1, h2, h3⟩ := ho
  refine ⟨us, ⟨h1.1, ?_⟩, h2.keepK (fun v l hv ho => OwnB.cfP h hc hK hv ho) h3, h3⟩
  rcases h1.2 with h0 | ⟨g, c, cur, e, hb, hh, h4⟩
  · exact .inl h0
  · exact .inr ⟨g, c, cur, e, hb, (hc.block g (lt_some hh) (h.no hh (by decide) (by decide) (by decide))).trans hh, h4⟩
set_option maxRecDepth 100000 in
/-- THE DOCUMENT'S PAGE STAYS BEHIND A CALL OF OURS. -/
theorem Dp.cfP {w w' : World} {B a : Nat} {k : Int} {n : Nat} {vb vs : Value} {cs : List Cl} {K : Nat → Prop} (h : Po w B a k n vb vs cs) (hc : Cf (PZ a vb vs) w w') (hK : ∀ z, vb.ownBlock = some z → ¬ K z) {r : Nat} {vl : Value} {ds : List Cl} (hd : Dp w B K r k n vl ds) : Dp w' B K r k n vl ds :=
  ⟨hd.row.cf hc (h.no hd.row (by decide) (by decide) (by decide)), hd.cells.cfP h hc hK⟩
set_option maxRecDepth 100000 in
/-- OUR PAGE STAYS BEHIND A CALL OF THE DOCUMENT'S. -/
theorem Po.cfR {w w' : World} {B a r : Nat} {k j : Int} {n m : Nat} {vb vs vl : Value} {cs : List Cl} (h : Po w B a k n vb vs cs) (hd : DR w r j m vl) (hc : Cf (· = r) w w') : Po w' B a k n vb vs cs := by
  have hno : ∀ b, PZ a vb vs b → ¬ b = r := fun b hb e => h.no (b := r) hd (by decide) (by decide) (by decide) (e ▸ hb)
  refine ⟨h.row.cf hc (hno a (.inl rfl)), h.body.cfX hc fun z hz => hno z (.inr (.inl hz)), ?_⟩
  have ho := h.starts
  unfold OwnN at ho ⊢
  refine ⟨ho.1, ?_⟩
  rcases ho.2 with h0 | ⟨g, c, cur, e, hb, hh, h4⟩
  · exact .inl h0
  · exact .inr ⟨g, c, cur, e, hb, (hc.block g (lt_some hh) (hno g (.inr (.inr (by rw [e]; rfl))))).trans hh, h4⟩
set_option maxRecDepth 100000 in
/-- New memory may be of K too. -/
theorem Dp.wide {w : World} {B r : Nat} {k : Int} {n : Nat} {vl : Value} {cs : List Cl} {K J : Nat → Prop} (h : Dp w B K r k n vl cs) (hK : ∀ z, K z → J z) : Dp w B J r k n vl cs := ⟨h.row, h.cells.wide hK⟩
set_option maxRecDepth 100000 in
/-- K cut at the heap's size. -/
theorem OwnR.cut {w : World} {C B : Nat} {K : Nat → Prop} {v : Value} {cs : List Cl} (h : OwnR w C B K v cs) : OwnR w C B (fun z => K z ∧ z < w.heap.size) v cs := by
  obtain ⟨us, h1, h2, h3⟩ := h
  refine ⟨us, h1, h2, ?_⟩
  have hg : ∀ {vs : List Value} {ds : List Cl}, R5B w B vs ds → ∀ u ∈ vs, ∀ z, u.ownBlock = some z → z < w.heap.size := by
    intro vs ds
    induction ds generalizing vs with
    | nil =>
      intro h u hu
      unfold R5B at h
      subst h
      simp at hu
    | cons c r ih =>
      rintro ⟨ka, kc, va, vc, t, rfl, g1, g2, g3⟩ u hu z hz
      simp only [List.mem_cons] at hu
      rcases hu with rfl | rfl | rfl | rfl | rfl | hu
      · exact (World.ownsRow.lt g1 z hz).2
      · simp [Value.ownBlock] at hz
      · exact (World.ownsRow.lt g2 z hz).2
      · simp [Value.ownBlock] at hz
      · simp [Value.ownBlock] at hz
      · exact ih g3 u hu z hz
  exact fun u hu z hz => ⟨h3 u hu z hz, hg h2 u hu z hz⟩
set_option maxRecDepth 100000 in
theorem Dp.cut {w : World} {B r : Nat} {k : Int} {n : Nat} {vl : Value} {cs : List Cl} {K : Nat → Prop} (h : Dp w B K r k n vl cs) : Dp w B (fun z => K z ∧ z < w.heap.size) r k n vl cs := ⟨h.row, h.cells.cut⟩
end Go.Proofs.YtphjnahmbdinmaaGreatDoor

/- Layer 6: New, Len, Used, Kind, Find and Bytes of ours, of a page in memory of its own. -/

namespace Go.Proofs.YtphjnahmbdinmaaGreatDoor
open Go.RowKit

set_option maxRecDepth 100000 in
/-- Such a page's slices. -/
theorem Po.sl {w : World} {B a : Nat} {k : Int} {n : Nat} {vb vs : Value} {cs : List Cl} (h : Po w B a k n vb vs cs) : ∃ bo bc so sc, vb = .slice bo (bdy cs).length bc ∧ vs = .slice so cs.length sc := by
  obtain ⟨bo, bc, e1⟩ := h.body.slice
  obtain ⟨so, sc, e2⟩ := h.starts.shape
  rw [sts_length] at e2
  exact ⟨bo, bc, so, sc, e1, e2⟩
set_option maxRecDepth 100000 in
theorem PgOk.at {w : World} {B a : Nat} {k : Int} {n : Nat} {bo so : Option Addr} {bn bc sn sc : Nat} {cs : List Cl} (g : PgOk k n cs) (h : Po w B a k n (.slice bo bn bc) (.slice so sn sc) cs) : PgAt w a k n bo bn bc so sn sc cs := h.pg g.wf (by have := g.size; have := pw_nat g.sz; omega)
set_option maxRecDepth 100000 in
theorem lenO_any (w : World) (B a : Nat) (k : Int) (n : Nat) (vb vs : Value) (cs : List Cl) (h : Po w B a k n vb vs cs) :
    Calls Tryz.prog 8 #[.pointer (some ⟨a, 0, none⟩)] w fun e w' => e = .returned (.int .i64 (cs.length : Int)) ∧ w' = w := by
  obtain ⟨bo, bc, so, sc, rfl, rfl⟩ := h.sl
  exact lenR_any w a k n _ so cs.length sc h.row
set_option maxRecDepth 100000 in
theorem usedO_any (w : World) (B a : Nat) (k : Int) (n : Nat) (vb vs : Value) (cs : List Cl) (h : Po w B a k n vb vs cs) (g : PgOk k n cs) :
    Calls Tryz.prog 10 #[.pointer (some ⟨a, 0, none⟩)] w fun e w' => e = .returned (.int .i64 (szN cs : Int)) ∧ Hid (Below w.heap.size w w') := by
  obtain ⟨bo, bc, so, sc, rfl, rfl⟩ := h.sl
  have hz := szN_eq cs
  have hs := g.size
  have hp := pw_nat g.sz
  refine (used_row w a k n bo (bdy cs).length bc so cs.length sc h.row (by omega) (by omega)).mono ?_
  rintro e w' ⟨rfl, q, rfl⟩
  rw [hz]
  exact ⟨rfl, hidden (bl_dr (Below.refl _ _) _)⟩
set_option maxRecDepth 100000 in
theorem kindO_any (w : World) (B a : Nat) (k : Int) (n : Nat) (vb vs : Value) (cs : List Cl) (h : Po w B a k n vb vs cs) :
    Calls Tryz.prog 12 #[.pointer (some ⟨a, 0, none⟩)] w fun e w' => e = .returned (.int .i64 k) ∧ w' = w := by
  obtain ⟨p0, p1, p2, p3⟩ := h.row.cells
  clear h
  go_enter Tryz.func12, Tryz.ntmps12
  go_wp2_with fail
  go_ret
  exact ⟨rfl, rfl⟩
set_option maxRecDepth 100000 in
theorem findO_any (w : World) (B a : Nat) (k : Int) (n : Nat) (vb vs : Value) (cs : List Cl) (h : Po w B a k n vb vs cs) (g : PgOk k n cs) (qo : Option Addr) (qn qc : Nat) (q : List Int) (hq : Sl w qo qn qc q) :
    Calls Tryz.prog 19 #[.pointer (some ⟨a, 0, none⟩), .slice qo qn qc] w fun e w' => e = .returned (.tuple #[.int .i64 (cntL cs q : Int), .bool (isL cs q)]) ∧ Hid (Below w.heap.size w w') := by
  obtain ⟨bo, bc, so, sc, rfl, rfl⟩ := h.sl
  have hp := pw_nat g.sz
  exact (find_any w a k n bo _ bc so _ sc cs (g.at h) g.chk (by omega) g.size qo qn qc q hq).mono fun e w' h => h.cnt
set_option maxRecDepth 100000 in
theorem bytesO_any (w : World) (B a : Nat) (k : Int) (n : Nat) (vb vs : Value) (cs : List Cl) (h : Po w B a k n vb vs cs) (g : PgOk k n cs) (ht : Tab w) (h0 : 1 < w.heap.size) :
    Calls Tryz.prog 33 #[.pointer (some ⟨a, 0, none⟩)] w fun e w' => ∃ ao m cap, e = .returned (.slice ao m cap) ∧ Hid (OwnB w' w.heap.size (.slice ao m cap) (en6 k n cs)) ∧ Hid (Below w.heap.size w w') := by
  obtain ⟨bo, bc, so, sc, rfl, rfl⟩ := h.sl
  have hp := pw_nat g.sz
  refine (bytes_any w a k n bo _ bc so _ sc cs (g.at h) g.kd g.sz g.size ht h0 g.wf).mono ?_
  rintro e w' ⟨z, rfl, hz, hbk, hb⟩
  refine ⟨some ⟨z, 0, none⟩, n, n, rfl, hidden ?_, hb⟩
  unfold en6
  rw [if_pos g.enc, Int.toNat_natCast]
  have hl : (pgB k n cs).length = n := pgB_length _ _ _ g.size
  have := own_of_heap (l := pgB k n cs) hbk.out hz (by rw [hl]; unfold maxLen; omega)
  rw [hl] at this
  exact this
/-- What our New comes to. -/
def ONewTo (k n : Int) (w : World) (e : Ending) (w' : World) : Prop :=
  (¬ (pw n ∧ isKd k) ∧ e = .returned (.tuple #[.pointer none, .int .i64 1]) ∧ Hid (Below w.heap.size w w')) ∨ (pw n ∧ isKd k ∧ e = .returned (.tuple #[.pointer (some ⟨w.heap.size, 0, none⟩), .int .i64 0]) ∧ Hid (Po w' w.heap.size w.heap.size k n.toNat (.slice none 0 0) (.slice none 0 0) []) ∧ Hid (Below w.heap.size w w'))
set_option maxRecDepth 100000 in
theorem newO_any (k n : Int) (w : World) : Calls Tryz.prog 5 #[.int .i64 k, .int .i64 n] w (ONewTo k n w) := by
  refine (new_any k n w).mono ?_
  rintro e w' ⟨po, c, rfl, hb, hq⟩
  rcases hq.out with ⟨rfl, rfl, hn⟩ | ⟨rfl, rfl, hk, hn, hh⟩
  · exact .inl ⟨fun h => hn ⟨h.2, h.1⟩, rfl, hb⟩
  · have hpn := pw_le hn
    have e : n = ((n.toNat : Nat) : Int) := by omega
    refine .inr ⟨hn, hk, rfl, hidden ⟨?_, OwnB.nil _ _, World.ownsRow_nil _ _ _ _⟩, hb⟩
    unfold PR
    rw [← e]
    exact hh
end Go.Proofs.YtphjnahmbdinmaaGreatDoor

/- plain.Open: the page that it gives lies in memory of its own. -/

namespace Go.Proofs.YtphjnahmbdinmaaGreatDoor
open Go.RowKit

set_option maxRecDepth 100000 in
theorem OwnN.lowN {w : World} {B C : Nat} {v : Value} {l : List Nat} (h : OwnN w C v l) (hB : B ≤ C) : OwnN w B v l := by
  unfold OwnN at *
  refine ⟨h.1, ?_⟩
  rcases h.2 with h2 | ⟨g, c, cur, e, hg, h4⟩
  · exact .inl h2
  · exact .inr ⟨g, c, cur, e, Nat.le_trans hB hg, h4⟩
/-- What read comes to. -/
def ReadPo (l : List Int) (w : World) (e : Ending) (w' : World) : Prop :=
  ∃ po, e = .returned (.pointer po) ∧ Hid (Below w.heap.size w w') ∧ Hid ((po = none ∧ readM l = none) ∨ ∃ a bo bn bc so sn sc cs, po = some ⟨a, 0, none⟩ ∧ w.heap.size ≤ a ∧ readM l = some cs ∧ (∃ gb, bo = some ⟨gb, 0, none⟩ ∧ w.heap.size ≤ gb) ∧ (PgAt w' a (l.getD 0 0) l.length bo bn bc so sn sc cs ∧ Po w' w.heap.size a (l.getD 0 0) l.length (.slice bo bn bc) (.slice so sn sc) cs))
set_option maxRecDepth 100000 in
theorem ReadPo.no {l : List Int} {w w' : World} (hb : Below w.heap.size w w') (h : readM l = none) : ReadPo l w (.returned (.pointer none)) w' := ⟨none, rfl, hidden hb, hidden (.inl ⟨rfl, h⟩)⟩
set_option maxRecDepth 100000 in
set_option maxHeartbeats 2000000 in
theorem read_tailP (ao : Option Addr) (n cap : Nat) (l : List Int) (w : World) (hs : Sl w ao n cap l) (hn : pw n) (hk : isKd (l.getD 0 0)) :
    Calls Tryz.prog 62 #[.slice ao n cap] w fun e w' => ReadPo l w e w' := by
  have hn2 := pw_nat hn
  have hn3 := hn2.1
  have hn4 := hn2.2
  have hlen := hs.hlen
  have hcap := hs.hcap
  obtain ⟨b, off, rfl, hbl, hc⟩ : ∃ b off, ao = some ⟨b, off, none⟩ ∧ b < w.heap.size ∧ ∀ i, i < n → w.cell? ⟨b, off + i, none⟩ = some (.int .u8 (l.getD i 0)) := by
    rcases hs.hat with h | h
    · omega
    · exact h
  have c0 := hc 0 (by omega)
  rw [Nat.add_zero] at c0
  have hk0 := hs.wf.getD 0
  have HE : Hid (readM l = (if frst l < 4 + rdN l 2 2 * 2 ∨ (n : Int) - 4 < frst l then none else part (l.getD 0 0) n (rdN l 2 2).toNat none ((l.drop (frst l).toNat).take (n - 4 - (frst l).toNat)))) := by
    refine hidden ?_
    unfold readM
    rw [hlen, if_pos ⟨hn, hk⟩]
  have hN := rdN_bound l hs.wf 2 2
  have hF4 := rdN_bound l hs.wf 4 2
  obtain ⟨N, hNe⟩ := Int.eq_ofNat_of_zero_le hN.1
  obtain ⟨G, hGe⟩ := Int.eq_ofNat_of_zero_le hF4.1
  obtain ⟨E, hEe⟩ : ∃ E, n - 4 = E := ⟨_, rfl⟩
  have hEI : (n : Int) - 4 = (E : Int) := by omega
  obtain ⟨F, hFe⟩ : ∃ F : Nat, frst l = (F : Int) := by
    unfold frst
    rw [hlen]
    split
    · exact ⟨G, hGe⟩
    · exact ⟨E, hEI⟩
  have HFD : Hid (frst l = if 0 < N then (G : Int) else (E : Int)) := by
    refine hidden ?_
    unfold frst
    rw [hNe, hGe, hlen, hEI]
    simp
  rw [hNe, hFe, hEI, Int.toNat_natCast, Int.toNat_natCast] at HE
  rw [hFe] at HFD
  have hNb : N < 65536 := by omega
  have hGb : G < 65536 := by omega
  obtain ⟨k0, hk0e⟩ : ∃ k0, l.getD 0 0 = k0 := ⟨_, rfl⟩
  rw [hk0e] at c0 hk0 hk HE
  obtain ⟨a, ha⟩ : ∃ a, w.heap.size = a := ⟨_, rfl⟩
  have HS2 : Hid (∀ u, Rq w u a k0 n b off cap l → Calls Tryz.prog 81 #[.slice (some ⟨b, off, none⟩) n cap, .int .i64 2] u fun e u' => e = .returned (.int .i64 (N : Int)) ∧ Hid (Rq w u' a k0 n b off cap l)) := by
    refine hidden fun u hu => ?_
    have := shortAt_any u (some ⟨b, off, none⟩) n cap 2 l hu.sl (by omega)
    rw [hNe] at this
    refine (show Calls Tryz.prog 81 #[.slice (some ⟨b, off, none⟩) n cap, .int .i64 2] u _ from this).mono ?_
    rintro e u' ⟨rfl, q, rfl⟩
    exact ⟨rfl, hidden (hu.on (bl_dr (Below.refl _ _) _))⟩
  have HS4 : Hid (∀ u, Rq w u a k0 n b off cap l → Calls Tryz.prog 81 #[.slice (some ⟨b, off, none⟩) n cap, .int .i64 4] u fun e u' => e = .returned (.int .i64 (G : Int)) ∧ Hid (Rq w u' a k0 n b off cap l)) := by
    refine hidden fun u hu => ?_
    have := shortAt_any u (some ⟨b, off, none⟩) n cap 4 l hu.sl (by omega)
    rw [hGe] at this
    refine (show Calls Tryz.prog 81 #[.slice (some ⟨b, off, none⟩) n cap, .int .i64 4] u _ from this).mono ?_
    rintro e u' ⟨rfl, q, rfl⟩
    exact ⟨rfl, hidden (hu.on (bl_dr (Below.refl _ _) _))⟩
  have HR0 : Hid (Rq w (w.alloc (.cells #[.int .i64 k0, .int .i64 (n : Int), .slice none 0 0, .slice none 0 0] 56)) a k0 n b off cap l) := by
    refine hidden ⟨?_, hs.on (Nat.le_refl _) (bl_al (Below.refl _ _) (Nat.le_refl _) _), bl_al (Below.refl _ _) (Nat.le_refl _) _⟩
    rw [← ha]
    exact heap_alloc_last w _
  have d1 : decide (pw (n : Int)) = true := decide_eq_true hn
  have d2 : decide (isKd k0) = true := decide_eq_true hk
  have hw0 : IntKind.i64.wrap k0 = k0 := by rw [IntKind.wrap_i64]; omega
  have HKD := hidden hk
  have HPW := hidden hn
  have HWFL := hidden hs.wf
  have HKE := hidden hk0e
  have HLEN := hidden hlen
  have HEE := hidden hEe
  have bN : (N : Int) < 65536 := by omega
  have bE : (E : Int) ≤ 65536 := by omega
  have k01 := hk0.1
  have k02 := hk0.2
  have hn0 : (0 : Int) < (n : Int) := by omega
  clear hs hc hk hn hNe hGe hN hF4 hFe hk0e hlen hEe hk0 hn2
  go_enter Tryz.func62, Tryz.ntmps62
  go_wp2_with (first | (go_at_call 21; refine same_call (isSize_any _ _) ?_; rw [d1]) | (go_at_call 20; refine same_call (isKind_any _ _) ?_; rw [d2]) | (go_at_call 81; refine (HS2.out _ HR0.out).mono ?_; rintro e u1 ⟨rfl, HR1⟩; refine Hid.out ?_))
  apply hidden
  clear HS2 HR0 c0 hbl
  go_upto_if 36 with fail
  go_cut [5] (fun v u => v = .int .i64 (F : Int) ∧ Hid (Rq w u a k0 n b off cap l))
  case first =>
    by_cases h0 : 0 < N
    · have h0I : 0 < (N : Int) := by omega
      have HFG : Hid ((F : Int) = (G : Int)) := hidden (by rw [HFD.out, if_pos h0])
      have C4 := hidden (HS4.out _ HR1.out)
      clear h0I HS4 HR1 HE HFD ha d1 d2 hEI bN bE hNb hn0
      obtain ⟨M, rfl⟩ : ∃ M, N = M + 1 := ⟨N - 1, by omega⟩
      clear h0
      go_wp2_with (first | (go_at_call 81; refine C4.out.mono ?_; rintro e u2 ⟨rfl, HR2⟩; refine Hid.out ?_))
      apply hidden
      go_wp2
      go_meet
      exact ⟨by rw [HFG.out], HR2⟩
    · obtain rfl : N = 0 := by omega
      have HFG : Hid ((F : Int) = (E : Int)) := hidden (by rw [HFD.out]; simp)
      go_wp2
      go_meet
      exact ⟨by rw [HFG.out], HR1⟩
  obtain ⟨rfl, HR2⟩ := hcut
  obtain ⟨u2, hu2⟩ : ∃ u2, u2 = wc := ⟨_, rfl⟩
  subst hu2
  have bF : (F : Int) ≤ 65536 := by
    have := HFD.out
    split at this <;> omega
  clear HR1 HS4 HFD
  by_cases h1 : (F : Int) < 4 + (N : Int) * 2
  · have HNO : Hid (readM l = none) := hidden (by rw [HE.out, if_pos (.inl h1)])
    go_wp2
    go_ret
    exact ReadPo.no HR2.out.be HNO.out
  · by_cases h2 : (E : Int) < (F : Int)
    · have HNO : Hid (readM l = none) := hidden (by rw [HE.out, if_pos (.inr h2)])
      go_wp2
      go_ret
      exact ReadPo.no HR2.out.be HNO.out
    · have HRM : Hid (readM l = part k0 n N none ((l.drop F).take (E - F))) := hidden (by rw [HE.out, if_neg (by omega), HEE.out])
      clear HE
      have e1 : F ≤ E := by omega
      have e2 : (F : Int) ≤ (E : Int) := by omega
      have e3 : E ≤ cap := by omega
      have e4 : (E : Int) ≤ (cap : Int) := by omega
      have e5 : ¬ cap = F := by omega
      have HCB := hidden (copiedBytes_any (some ⟨b, off + F, none⟩) (E - F) (cap - F) _ u2 (HR2.out.sl.piece F (E - F) (cap - F) (by omega) (by omega)))
      obtain ⟨bn, hbn⟩ : ∃ bn, E - F = bn := ⟨_, rfl⟩
      obtain ⟨BD, hBD⟩ : ∃ BD, (l.drop F).take (E - F) = BD := ⟨_, rfl⟩
      rw [hBD] at HCB HRM
      have HBL : Hid (BD.length = bn) := hidden (by rw [← hBD, List.length_take, List.length_drop, HLEN.out]; omega)
      have HBW : Hid (Wf BD) := hidden (by rw [← hBD]; exact (HWFL.out.drop _).take _)
      rw [hbn] at HCB
      have hbn2 : bn ≤ 65536 := by omega
      obtain ⟨x0, x1, x2, x3⟩ := HR2.out.row.cells
      clear hBD
      go_wp2_with (first | (go_at_call 73; refine HCB.out.mono ?_; rintro e u3 ⟨rfl, HBK, HB3⟩; refine Hid.out ?_))
      apply hidden
      clear HCB x0 x1 x2 x3
      have HRW3 : Hid (PR u3 a k0 n (.slice none 0 0) (.slice none 0 0)) := hidden (box_on HR2.out.row HB3.out)
      obtain ⟨x0, x1, x2, x3⟩ := HRW3.out.cells
      have x4 := HRW3.out.free 2
      obtain ⟨gb, hgb⟩ : ∃ gb, u2.heap.size = gb := ⟨_, rfl⟩
      have HGW : Hid (w.heap.size ≤ gb) := hidden (by rw [← hgb]; exact HR2.out.be.size)
      rw [hgb] at HBK ⊢
      have hga : ¬ gb = a := by
        have := lt_some HR2.out.row
        omega
      have HRW4 : Hid (PR (u3.setCell ⟨a, 2, none⟩ (.slice (some ⟨gb, 0, none⟩) bn bn)) a k0 n (.slice (some ⟨gb, 0, none⟩) bn bn) (.slice none 0 0)) := hidden (HRW3.out.set2 _)
      have HBK4 : Hid (Bk (u3.setCell ⟨a, 2, none⟩ (.slice (some ⟨gb, 0, none⟩) bn bn)) gb BD) := hidden (HBK.out.cf (Cf.set _ _ _ _) hga)
      have HBE4 : Hid (Below w.heap.size w (u3.setCell ⟨a, 2, none⟩ (.slice (some ⟨gb, 0, none⟩) bn bn))) := hidden ((bl_go HR2.out.be (Nat.le_refl _) HB3.out).setCell (p := ⟨a, 2, none⟩) (by simp only; omega) _)
      have HPT := hidden (parted_any N _ a k0 n gb bn BD _ HRW4.out HBK4.out HBL.out HBW.out HPW.out hbn2 (by omega))
      clear HRW3 HBK HB3 HR2 hgb hbn
      go_wp2_with (first | (go_at_call 82; refine HPT.out.mono ?_; rintro e u5 ⟨bb, rfl, HC5, HP5⟩; refine Hid.out ?_))
      apply hidden
      have HBE5 : Hid (Below w.heap.size w u5) := hidden (HBE4.out.trans (HC5.out.below HBE4.out.size (by intro i hi e; omega)))
      have hws : w.heap.size ≤ (u3.setCell ⟨a, 2, none⟩ (.slice (some ⟨gb, 0, none⟩) bn bn)).heap.size := HBE4.out.size
      cases bb with
      | true =>
        go_wp2
        go_ret
        rcases HP5.out with ⟨_, cs, vs, h3, h4, h5, h6⟩ | ⟨h3, _⟩
        · have hcl := (part_inv _ _ _ _ HBW.out h3).1
          have hb2 := (part_inv _ _ _ _ HBW.out h3).2.1
          obtain ⟨so, sc, rfl, hsn⟩ := h5.sln (by rw [sts_length, hcl]; omega)
          have hbl0 := HBL.out
          have hlen0 := HLEN.out
          refine ⟨some ⟨a, 0, none⟩, rfl, HBE5, hidden (.inr ⟨a, some ⟨gb, 0, none⟩, bn, bn, so, (sts 0 cs).length, sc, cs, rfl, by omega, HRM.out.trans h3, ⟨gb, rfl, HGW.out⟩, ?_⟩)⟩
          rw [HKE.out, HLEN.out]
          refine ⟨⟨h4, by rw [← hb2]; exact h6.sl HBL.out HBW.out (by omega), hsn⟩, ⟨h4, ?_, h5.lowN (by omega)⟩⟩
          rw [← hb2]
          have h7 := own_of_heap h6 HGW.out (by rw [HBL.out]; unfold maxLen; omega)
          rw [HBL.out] at h7
          exact h7
        · cases h3
      | false =>
        go_wp2
        go_ret
        rcases HP5.out with ⟨h3, _⟩ | ⟨_, h3⟩
        · cases h3
        · exact ReadPo.no HBE5.out (HRM.out.trans h3)

set_option maxRecDepth 100000 in
theorem read_po (ao : Option Addr) (n cap : Nat) (l : List Int) (w : World) (hs : Sl w ao n cap l) :
    Calls Tryz.prog 62 #[.slice ao n cap] w fun e w' => ReadPo l w e w' := by
  by_cases hn : pw n
  · by_cases hk : isKd (l.getD 0 0)
    · exact read_tailP ao n cap l w hs hn hk
    · have hn2 := pw_nat hn
      have hlen := hs.hlen
      obtain ⟨b, off, rfl, hbl, hc⟩ : ∃ b off, ao = some ⟨b, off, none⟩ ∧ b < w.heap.size ∧ ∀ i, i < n → w.cell? ⟨b, off + i, none⟩ = some (.int .u8 (l.getD i 0)) := by
        rcases hs.hat with h | h
        · omega
        · exact h
      have c0 := hc 0 (by omega)
      rw [Nat.add_zero] at c0
      have hk0 := hs.wf.getD 0
      have HNO : Hid (readM l = none) := hidden (by unfold readM; rw [if_neg (fun h => hk h.2)])
      have d1 : decide (pw (n : Int)) = true := decide_eq_true hn
      have d2 : decide (isKd (l.getD 0 0)) = false := decide_eq_false hk
      generalize l.getD 0 0 = k0 at *
      have hw0 : IntKind.i64.wrap k0 = k0 := by rw [IntKind.wrap_i64]; omega
      have hn0 : (0 : Int) < (n : Int) := by omega
      have k01 := hk0.1
      have k02 := hk0.2
      clear hs hc hk hn
      go_enter Tryz.func62, Tryz.ntmps62
      go_wp2_with (first | (go_at_call 21; refine same_call (isSize_any _ _) ?_; rw [d1]) | (go_at_call 20; refine same_call (isKind_any _ _) ?_; rw [d2]))
      go_ret
      exact ReadPo.no (Below.refl _ _) HNO.out
  · have hlen := hs.hlen
    have HNO : Hid (readM l = none) := hidden (by unfold readM; rw [hlen, if_neg (fun h => hn h.1)])
    have d1 : decide (pw (n : Int)) = false := decide_eq_false hn
    clear hs hn
    go_enter Tryz.func62, Tryz.ntmps62
    go_wp2_with (first | (go_at_call 21; refine same_call (isSize_any _ _) ?_; rw [d1]))
    go_ret
    exact ReadPo.no (Below.refl _ _) HNO.out
/-- What Open comes to. -/
def OpenPo (l : List Int) (w : World) (e : Ending) (w' : World) : Prop :=
  ∃ po k, e = .returned (.tuple #[.pointer po, .int .i64 k]) ∧ Hid (Below w.heap.size w w') ∧ Hid ((po = none ∧ k = 60 ∧ ¬ ∃ cs, Is (l.getD 0 0) l.length cs l) ∨ ∃ a bo bn bc so sn sc cs, po = some ⟨a, 0, none⟩ ∧ k = 0 ∧ w.heap.size ≤ a ∧ Is (l.getD 0 0) l.length cs l ∧ (∀ c ∈ cs, c.Wf) ∧ (∃ gb, bo = some ⟨gb, 0, none⟩ ∧ w.heap.size ≤ gb) ∧ (PgAt w' a (l.getD 0 0) l.length bo bn bc so sn sc cs ∧ Po w' w.heap.size a (l.getD 0 0) l.length (.slice bo bn bc) (.slice so sn sc) cs))
set_option maxRecDepth 100000 in
set_option maxHeartbeats 1000000 in
theorem open_po (ao : Option Addr) (n cap : Nat) (l : List Int) (w : World) (hs : Sl w ao n cap l) (ht : Tab w) (h0 : 1 < w.heap.size) :
    Calls Tryz.prog 34 #[.slice ao n cap] w fun e w' => OpenPo l w e w' := by
  have HR := hidden (read_po ao n cap l w hs)
  have HS := hidden hs
  have HT := hidden ht
  clear hs ht
  go_enter Tryz.func34, Tryz.ntmps34
  go_wp2_with (first | (go_at_call 62; refine HR.out.mono ?_; rintro e w1 ⟨po, rfl, HB1, HQ⟩; refine Hid.out ?_))
  apply hidden
  clear HR
  rcases HQ.out with ⟨rfl, hno⟩ | ⟨a, bo, bn, bc, so, sn, sc, cs, rfl, hal, hrm, hbo, hpg⟩
  · have HNO : Hid (¬ ∃ cs, Is (l.getD 0 0) l.length cs l) := hidden (by
      rintro ⟨cs, h⟩
      have := (readM_of h).1
      rw [hno] at this
      cases this)
    clear HQ hno
    go_wp2
    go_ret2
    exact ⟨none, 60, rfl, HB1, hidden (.inl ⟨rfl, rfl, HNO.out⟩)⟩
  · have HRM := hidden hrm
    have HPG := hidden hpg
    have HBO := hidden hbo
    have HAL := hidden hal
    obtain ⟨i1, i2, i3, i4, i5, _⟩ := readM_inv HS.out.wf hrm
    have HI := hidden (And.intro i1 (And.intro i2 (And.intro i3 (And.intro i4 i5))))
    have HBY := hidden (bytes_any w1 a _ _ bo bn bc so sn sc cs hpg.1 i1 i2 i4 (HT.out.on HB1.out h0) (Nat.lt_of_lt_of_le h0 HB1.out.size) i5)
    clear hrm hpg hal hbo HQ i1 i2 i3 i4 i5
    have hlen := HS.out.hlen
    have HLEN := hidden hlen
    rw [hlen] at HBY
    clear hlen
    have HPL : Hid ((pgB (l.getD 0 0) n cs).length = n) := hidden (by have := HI.out.2.2.2.1; rw [HLEN.out] at this; exact pgB_length _ _ _ this)
    have HPWF : Hid (Wf (pgB (l.getD 0 0) n cs)) := hidden (pgB_wf (by have := HI.out.1; unfold isKd at this; omega) HI.out.2.2.2.2)
    have hnr := HS.out.hroom
    obtain ⟨PB, hPB⟩ : ∃ PB, pgB (l.getD 0 0) n cs = PB := ⟨_, rfl⟩
    rw [hPB] at HBY HPL HPWF
    have HPB := hidden hPB
    clear hPB
    cases hd : decide (PB = l) with
    | true =>
      have hpl : PB = l := by simpa using hd
      go_wp2_with (first | (go_at_call 33; refine HBY.out.mono ?_; rintro e w2 ⟨g, rfl, hg, HBK, HB2⟩) | (go_at_call 63; refine same_call (equal6 _ _ _ _ _ _ PB l _ (HBK.out.sl HPL.out HPWF.out hnr) (HS.out.on (Nat.le_refl _) (bl_go HB1.out (Nat.le_refl _) HB2.out))) ?_; rw [hd]))
      go_ret2
      refine ⟨some ⟨a, 0, none⟩, 0, rfl, hidden (bl_go HB1.out (Nat.le_refl _) HB2.out), hidden (.inr ⟨a, bo, bn, bc, so, sn, sc, cs, rfl, rfl, HAL.out, ?_, HI.out.2.2.2.2, HBO.out, HPG.out.1.on HB2.out, HPG.out.2.on HB2.out⟩)⟩
      refine (is_iff HS.out.wf cs).2 ⟨HRM.out, ?_⟩
      rw [HLEN.out, HPB.out]
      exact hpl
    | false =>
      have hpl : ¬ PB = l := by simpa using hd
      have HNO : Hid (¬ ∃ cs, Is (l.getD 0 0) l.length cs l) := hidden (by
        rintro ⟨ds, h⟩
        obtain ⟨h1, h2⟩ := (is_iff HS.out.wf ds).1 h
        rw [HRM.out] at h1
        injection h1 with h1
        subst h1
        rw [HLEN.out, HPB.out] at h2
        exact hpl h2)
      go_wp2_with (first | (go_at_call 33; refine HBY.out.mono ?_; rintro e w2 ⟨g, rfl, hg, HBK, HB2⟩) | (go_at_call 63; refine same_call (equal6 _ _ _ _ _ _ PB l _ (HBK.out.sl HPL.out HPWF.out hnr) (HS.out.on (Nat.le_refl _) (bl_go HB1.out (Nat.le_refl _) HB2.out))) ?_; rw [hd]))
      go_ret2
      exact ⟨none, 60, rfl, hidden (bl_go HB1.out (Nat.le_refl _) HB2.out), hidden (.inl ⟨rfl, rfl, HNO.out⟩)⟩

end Go.Proofs.YtphjnahmbdinmaaGreatDoor
