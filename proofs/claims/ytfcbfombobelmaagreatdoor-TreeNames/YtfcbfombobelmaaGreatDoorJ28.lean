/- Layer 8: node.Encode and node.Decode of a plain engine. -/
import Derived.Test.YtfcbfombobelmaaGreatDoorJ27
import Derived.Test.YtfcbfombobelmaaGreatDoorJ00
import Derived.Handy
import Derived.Defers
import Derived.Recover
import Derived.WalkLawsBesides
import Derived.Laws.EntriesVeiled
import Derived.WideLaws
import Derived.Test.YtfcbfombobelmaaGreatDoorJ24
import Derived.Lib.SlBytesConst
import Derived.Test.YtfcbfombobelmaaGreatDoorJ14
namespace Go.Proofs.YtfcbfombobelmaaGreatDoor
open Go.RowKit

set_option maxRecDepth 100000 in
theorem nenc_1 (k n : Int) (ao : Option Addr) (m cap : Nat) (cs : List Cl) (w : World) (hs : SlC w ao m cap cs) (hl : szN cs ≤ 1099511627776) (ht : Tab w) (h0 : 1 < w.heap.size) :
    Calls Tryz.prog 91 #[.int .i64 1, .int .i64 k, .slice ao m cap, .int .i64 n] w (EncTo k n cs w) := by
  have HL := hidden (layout_1 w)
  have HM : Hid (∀ u, Below w.heap.size w u → Calls Tryz.prog 76 #[.int .i64 k, .slice ao m cap, .int .i64 n] u (EncTo k n cs u)) := hidden fun u hu => encode_plain k n ao m cap cs u (hs.on hu) hl (ht.on hu h0) (Nat.lt_of_lt_of_le h0 hu.size)
  clear hs ht h0
  go_enter Tryz.func91, Tryz.ntmps91
  go_wp2_with (first | (go_at_call 67; refine HL.out.mono ?_; rintro e w1 ⟨rfl, HB1⟩) | (go_at_call 76; refine (HM.out _ (bl_al HB1.out (Nat.le_refl _) _)).mono ?_; rintro e w2 ⟨xo, xm, xc, c, rfl, HB2, HQ2⟩; refine Hid.out ?_))
  apply hidden
  go_wp2
  go_ret2
  have hb := bl_al HB1.out (Nat.le_refl _) (.cells ly1 117)
  refine ⟨xo, xm, xc, c, rfl, hidden (bl_go hb (Nat.le_refl _) HB2.out), hidden ?_⟩
  obtain ⟨q1, q2⟩ := HQ2.out
  refine ⟨q1, q2.imp id ?_⟩
  rintro ⟨h1, g, h2, h3, h4, h5, h6⟩
  exact ⟨h1, g, h2, h3, h4, Nat.le_trans hb.size h5, h6⟩
end Go.Proofs.YtfcbfombobelmaaGreatDoor

/- Layer 12: must, the deferred function of caught, Need. -/

namespace Go.Proofs.YtfcbfombobelmaaGreatDoor
open Go.RowKit

/-- What is thrown. -/
abbrev fltV (c : Int) : Value := .iface 68 (.int .i64 c)
set_option maxRecDepth 100000 in
theorem must_ok (w : World) : Calls Tryz.prog 29 #[.int .i64 0] w fun e w' => e = .returned (.tuple #[]) ∧ w' = w := by
  go_enter Tryz.func29, Tryz.ntmps29
  go_wp2
  go_returns
  exact ⟨rfl, rfl⟩
set_option maxRecDepth 100000 in
theorem must_bad (c : Int) (hc : ¬ c = 0) (w : World) : Calls Tryz.prog 29 #[.int .i64 c] w fun e w' => e = .panicked [{ v := fltV c, recovered := false }] ∧ w' = w := by
  go_enter Tryz.func29, Tryz.ntmps29
  go_wp2
  simp [bodyPost]
set_option maxRecDepth 100000 in
theorem ta_flt (t : TypeId) (c : Int) (w : World) : (Instr.typeAssert (fltV c) t 68 true).run Tryz.prog w = .ok (.tuple #[.int .i64 c, .bool true]) w := by kernel_rfl
set_option maxRecDepth 100000 in
/-- The deferred function, where nothing was thrown. -/
theorem catchC_idle (p : Addr) (w : World) :
    CallsD Tryz.prog 27 #[.pointer (some p)] .returning w fun e u' w' => e = .returned (.tuple #[]) ∧ u' = .returning ∧ w' = w := by
  refine callsD_of_wpS Tryz.func27 rfl fun c₀ cs hu => ?_
  apply wpS_seq
  apply wpS_region
  simp [wpOpsS, go_sem, recoverD, hu, Tryz.ntmps27, Exit.thenS]
  rw [show #[Value.pointer (some p)] ++ (Array.replicate 10 undef).setIfInBounds 3 Value.nilIface = #[.pointer (some p), undef, undef, undef, .nilIface, undef, undef, undef, undef, undef, undef] from rfl]
  refine wpS_of_wp ?_
  go_wp2
  cases c₀
  simp_all [bodyPostS, results, Tryz.results27]
set_option maxRecDepth 100000 in
/-- The deferred function, where a fault was thrown. -/
theorem catchC_flt (p : Addr) (c x : Int) (older : List PanicEntry) (w : World) (hc : w.cell? p = some (.int .i64 x)) (hz : w.frozen? p = false) :
    CallsD Tryz.prog 27 #[.pointer (some p)] (.panicking ({ v := fltV c, recovered := false } :: older)) w fun e u' w' => e = .returned (.tuple #[]) ∧ u' = .panicking ({ v := fltV c, recovered := true } :: older) ∧ w' = w.setCell p (.int .i64 c) := by
  have hta := fun t u => ta_flt t c u
  refine callsD_of_wpS Tryz.func27 rfl fun c₀ cs hu => ?_
  apply wpS_seq
  apply wpS_region
  simp [wpOpsS, go_sem, recoverD, hu, Tryz.ntmps27, Exit.thenS]
  rw [show #[Value.pointer (some p)] ++ (Array.replicate 10 undef).setIfInBounds 3 (fltV c) = #[.pointer (some p), undef, undef, undef, fltV c, undef, undef, undef, undef, undef, undef] from rfl]
  refine wpS_of_wp ?_
  go_wp2
  cases c₀
  simp_all [bodyPostS, results, Tryz.results27]
set_option maxRecDepth 100000 in
/-- The deferred function, where nothing was thrown. -/
theorem catchF_idle (p : Addr) (w : World) :
    CallsD Tryz.prog 33 #[.pointer (some p)] .returning w fun e u' w' => e = .returned (.tuple #[]) ∧ u' = .returning ∧ w' = w := by
  refine callsD_of_wpS Tryz.func33 rfl fun c₀ cs hu => ?_
  apply wpS_seq
  apply wpS_region
  simp [wpOpsS, go_sem, recoverD, hu, Tryz.ntmps33, Exit.thenS]
  rw [show #[Value.pointer (some p)] ++ (Array.replicate 10 undef).setIfInBounds 3 Value.nilIface = #[.pointer (some p), undef, undef, undef, .nilIface, undef, undef, undef, undef, undef, undef] from rfl]
  refine wpS_of_wp ?_
  go_wp2
  cases c₀
  simp_all [bodyPostS, results, Tryz.results33]
set_option maxRecDepth 100000 in
/-- The deferred function, where nothing was thrown. -/
theorem catchI_idle (p : Addr) (w : World) :
    CallsD Tryz.prog 39 #[.pointer (some p)] .returning w fun e u' w' => e = .returned (.tuple #[]) ∧ u' = .returning ∧ w' = w := by
  refine callsD_of_wpS Tryz.func39 rfl fun c₀ cs hu => ?_
  apply wpS_seq
  apply wpS_region
  simp [wpOpsS, go_sem, recoverD, hu, Tryz.ntmps39, Exit.thenS]
  rw [show #[Value.pointer (some p)] ++ (Array.replicate 10 undef).setIfInBounds 3 Value.nilIface = #[.pointer (some p), undef, undef, undef, .nilIface, undef, undef, undef, undef, undef, undef] from rfl]
  refine wpS_of_wp ?_
  go_wp2
  cases c₀
  simp_all [bodyPostS, results, Tryz.results39]
end Go.Proofs.YtfcbfombobelmaaGreatDoor

/- The chapter's first example, as numbers. -/

namespace Go.Proofs.YtfcbfombobelmaaGreatDoor
open Go.RowKit

set_option maxRecDepth 100000 in
theorem pw512 : pw 512 := by decide
set_option maxRecDepth 100000 in
theorem isKd2 : isKd 2 := by decide
set_option maxRecDepth 100000 in
/-- One cell in a slice of its own. -/
theorem slc_one {u : World} {ka va : Option Addr} {kn kc vn vc : Nat} {kd pg ct : Int} {key val : List Int} (hk : Sl u ka kn kc key) (hv : Sl u va vn vc val) :
    SlC (u.alloc (.cells #[.slice ka kn kc, .int .i64 kd, .slice va vn vc, .int .i64 pg, .int .i64 ct] 29)) (some ⟨u.heap.size, 0, none⟩) 1 1 [⟨key, kd, val, pg, ct⟩] := by
  have hb : Below u.heap.size u (u.alloc (.cells #[.slice ka kn kc, .int .i64 kd, .slice va vn vc, .int .i64 pg, .int .i64 ct] 29)) := bl_al (Below.refl _ _) (Nat.le_refl _) _
  have hb5 := C5.box u (.slice ka kn kc) (.int .i64 kd) (.slice va vn vc) (.int .i64 pg) (.int .i64 ct)
  obtain ⟨e0, e1, e2, e3, e4⟩ := hb5.cells
  refine ⟨rfl, Nat.le_refl _, by omega, (by intro h; cases h), .inr ⟨u.heap.size, 0, rfl, lt_some hb5, fun i c hc => ?_⟩⟩
  have hi : i = 0 := by have := (List.getElem?_eq_some_iff.1 hc).1; simpa using this
  subst hi
  simp only [List.getElem?_cons_zero, Option.some.injEq] at hc
  subst hc
  refine ⟨ka, kc, va, vc, ?_, e1, ?_, e3, e4, ?_, ?_⟩
  · rw [hk.hlen]; exact e0
  · rw [hv.hlen]; exact e2
  · rw [hk.hlen]; exact hk.on (Nat.le_refl _) hb
  · rw [hv.hlen]; exact hv.on (Nat.le_refl _) hb
set_option maxRecDepth 100000 in
theorem conv6H (w : World) (C : Array Value) (n c H : Nat) (hH : w.heap.size = H) : (convert 27 27 (.slice (some ⟨H, 0, none⟩) n c)).run Tryz.prog (w.alloc (.cells C 5)) = .ok (.slice (some ⟨H, 0, none⟩) n c) (w.alloc (.cells C 5 (C.size, C.size + 1))) := by
  subst hH
  exact Lib.run_convert_bytes_const (P := Tryz.prog) w 27 5 C n c Tryz.underlying27 Tryz.underlying5
end Go.Proofs.YtfcbfombobelmaaGreatDoor

/- The chapter's first examples: awake answers true. -/

namespace Go.Proofs.YtfcbfombobelmaaGreatDoor
open Go.RowKit

set_option maxRecDepth 100000 in
theorem sl_lit (u : World) (C : List Int) (n : Nat) (fr : Nat × Nat) (g : Nat) (h : u.heap[g]? = some (.cells (By C).toArray 5 fr)) (hn : C.length = n) (hw : Wf C) (hb : n ≤ 65536) : Sl u (some ⟨g, 0, none⟩) n n C := by
  refine ⟨hn, Nat.le_refl _, by omega, hw, (by intro h; cases h), .inr ⟨g, 0, rfl, lt_some h, fun i hi => ?_⟩⟩
  rw [Nat.zero_add, cell_of_row _ _ i _ _ _ h]
  simp [By, List.getD, List.getElem?_eq_getElem (show i < C.length by omega)]
/-- What awake holds through its calls. -/
structure Aw (w u : World) (s : Nat) : Prop where
  be : Below w.heap.size w u
  k : Sl u (some ⟨s, 0, none⟩) 1 1 [97]
  v : Sl u (some ⟨s + 1, 0, none⟩) 2 2 [120, 121]
  c : C5 u (s + 2) (.slice (some ⟨s, 0, none⟩) 1 1) (.int .i64 1) (.slice (some ⟨s + 1, 0, none⟩) 2 2) (.int .i64 0) (.int .i64 0)
  hs : s = w.heap.size
set_option maxRecDepth 100000 in
theorem Aw.on {w u u' : World} {s : Nat} (h : Aw w u s) (hb : Below u.heap.size u u') : Aw w u' s := ⟨bl_go h.be (Nat.le_refl _) hb, h.k.on (Nat.le_refl _) hb, h.v.on (Nat.le_refl _) hb, box_on h.c hb, h.hs⟩
set_option maxRecDepth 100000 in
theorem Aw.cf {w u u' : World} {s a : Nat} (h : Aw w u s) (hc : Cf (· = a) u u') (ha : s + 2 < a) : Aw w u' s := by
  have hsw := h.hs
  refine ⟨h.be.trans (hc.below h.be.size (by intro i hi e; omega)), h.k.cf hc (.inr fun p hp => ?_), h.v.cf hc (.inr fun p hp => ?_), h.c.cf hc (by omega), h.hs⟩
  · injection hp with hp; subst hp; simp only; omega
  · injection hp with hp; subst hp; simp only; omega
end Go.Proofs.YtfcbfombobelmaaGreatDoor

/- What Find finds among rising keys; decoded cells as a slice of cells. -/

namespace Go.Proofs.YtfcbfombobelmaaGreatDoor
open Go.RowKit

set_option maxRecDepth 100000 in
theorem kl_irr (a : List Int) : ¬ kl a a := by unfold kl; rw [ordL_self]; decide
set_option maxRecDepth 100000 in
theorem kl_anti {a b : List Int} (h : kl a b) : ¬ kl b a := fun g => kl_irr a (kl_trans _ _ _ h g)
/-- The keys rise. -/
def Rise (cs : List Cl) : Prop := ∀ (i j : Nat) (c d : Cl), i < j → cs[i]? = some c → cs[j]? = some d → kl c.key d.key
set_option maxRecDepth 100000 in
theorem Fnd.one {cs : List Cl} {q : List Int} {r s : Nat} (h : Fnd cs q r) (g : Fnd cs q s) : r = s := by
  rcases Nat.lt_trichotomy r s with e | e | e
  · obtain ⟨c, hc⟩ : ∃ c, cs[r]? = some c := ⟨_, List.getElem?_eq_getElem (by have := g.le; omega)⟩
    exact absurd (g.lo r c e hc) (h.hi r c (Nat.le_refl _) hc)
  · exact e
  · obtain ⟨c, hc⟩ : ∃ c, cs[s]? = some c := ⟨_, List.getElem?_eq_getElem (by have := h.le; omega)⟩
    exact absurd (h.lo s c e hc) (g.hi s c (Nat.le_refl _) hc)
set_option maxRecDepth 100000 in
theorem fnd_self {cs : List Cl} (hr : Rise cs) (i : Nat) (c : Cl) (hc : cs[i]? = some c) : Fnd cs c.key i := by
  refine ⟨Nat.le_of_lt (List.getElem?_eq_some_iff.1 hc).1, fun j d hj hd => hr j i d c hj hd hc, fun j d hj hd hk => ?_⟩
  rcases Nat.lt_or_ge i j with e | e
  · exact kl_anti hk (hr i j c d e hc hd)
  · obtain rfl : j = i := by omega
    rw [hc] at hd
    injection hd with hd
    subst hd
    exact kl_irr _ hk
set_option maxRecDepth 100000 in
theorem Is.rise {k : Int} {n : Nat} {cs : List Cl} {b : List Int} (h : Is k n cs b) : Rise cs := fun i j c d hij hc hd => chk_rise h.ok i j c d hij hc hd
set_option maxRecDepth 100000 in
theorem Is.enc {k : Int} {n : Nat} {cs : List Cl} {b : List Int} (h : Is k n cs b) : encE k (n : Int) cs = 0 := by
  unfold encE
  have := h.fit
  rw [if_pos ⟨h.kd, h.sz⟩, if_pos h.ok, if_neg (by omega)]
end Go.Proofs.YtfcbfombobelmaaGreatDoor

/- Layer 12: Need; the bench's Engine and Fresh; a plain page's Kind. -/

namespace Go.Proofs.YtfcbfombobelmaaGreatDoor
open Go.RowKit

abbrev iB (b : Nat) : Value := .iface 25 (pB b)
/-- How many pages a change may ask for. -/
def needH (h : Int) : Int := if h < 0 then 4 else if 65536 < h then 196612 else 3 * h + 4
set_option maxRecDepth 100000 in
theorem need_any (h : Int) (w : World) : Calls Tryz.prog 6 #[.int .i64 h] w fun e w' => e = .returned (.int .i64 (needH h)) ∧ w' = w := by
  unfold needH
  by_cases h1 : h < 0
  · rw [if_pos h1]
    have e1 : max h 0 = 0 := by omega
    go_enter Tryz.func6, Tryz.ntmps6
    go_wp2
    go_ret
    exact ⟨rfl, rfl⟩
  · rw [if_neg h1]
    have e1 : max h 0 = h := by omega
    by_cases h2 : 65536 < h
    · rw [if_pos h2]
      have e2 : min h 65536 = 65536 := by omega
      go_enter Tryz.func6, Tryz.ntmps6
      go_wp2
      go_ret
      exact ⟨rfl, rfl⟩
    · rw [if_neg h2]
      have e2 : min h 65536 = h := by omega
      go_enter Tryz.func6, Tryz.ntmps6
      go_wp2
      go_ret
      refine ⟨?_, rfl⟩
      simp
      omega
set_option maxRecDepth 100000 in
theorem rneed_any (h : Int) (w : World) : Calls Tryz.prog 7 #[.int .i64 h] w fun e w' => e = .returned (.int .i64 (needH h)) ∧ w' = w := by
  unfold needH
  by_cases h1 : h < 0
  · rw [if_pos h1]
    go_enter Tryz.func7, Tryz.ntmps7
    go_wp2
    go_ret
    exact ⟨rfl, rfl⟩
  · rw [if_neg h1]
    by_cases h2 : 65536 < h
    · rw [if_pos h2]
      go_enter Tryz.func7, Tryz.ntmps7
      go_wp2
      go_ret
      exact ⟨rfl, rfl⟩
    · rw [if_neg h2]
      go_enter Tryz.func7, Tryz.ntmps7
      go_wp2
      go_ret
      exact ⟨rfl, rfl⟩
set_option maxRecDepth 100000 in
theorem bengine_any {w : World} {b m : Nat} {en pg ps rd : Int} {M : Int → Option Pf} {ct : Nat} (h : Bn w b m en pg ps rd M ct) : Calls Tryz.prog 207 #[pB b] w fun e u => e = .returned (.int .i64 en) ∧ u = w := by
  obtain ⟨c0, c1, c2, c3, c4, f4⟩ := h.cells
  clear h
  go_enter Tryz.func207, Tryz.ntmps207
  go_wp2
  go_ret
  exact ⟨rfl, rfl⟩
set_option maxRecDepth 100000 in
theorem bfresh_any {w : World} {b m : Nat} {en pg ps rd : Int} {M : Int → Option Pf} {ct : Nat} (h : Bn w b m en pg ps rd M ct) (n : Int) (hn : (Lit.int .i64 n).wf = true) :
    Calls Tryz.prog 209 #[pB b, .int .i64 n] w fun e u => e = .returned (.bool (M n).isSome) ∧ u = w := by
  obtain ⟨c0, c1, c2, c3, c4, f4⟩ := h.cells
  rcases h.look n hn with ⟨hM, hlk⟩ | ⟨f, hM, hlk⟩
  · rw [hM]
    clear h
    go_enter Tryz.func209, Tryz.ntmps209
    go_wp2
    go_ret
    exact ⟨rfl, rfl⟩
  · rw [hM]
    clear h
    go_enter Tryz.func209, Tryz.ntmps209
    go_wp2
    go_ret
    exact ⟨rfl, rfl⟩
set_option maxRecDepth 100000 in
theorem kindP_any (w : World) (a : Nat) (k : Int) (n : Nat) (vb vs : Value) (h : PR w a k n vb vs) : Calls Tryz.prog 217 #[.pointer (some ⟨a, 0, none⟩)] w fun e w' => e = .returned (.int .i64 k) ∧ w' = w := by
  obtain ⟨p0, p1, p2, p3⟩ := h.cells
  clear h
  go_enter Tryz.func217, Tryz.ntmps217
  go_wp2_with fail
  go_ret
  exact ⟨rfl, rfl⟩
/-- A leaf's cells that are good. -/
structure Gd1 (cs : List Cl) : Prop where
  wf : ∀ c ∈ cs, c.Wf
  fit : ∀ c ∈ cs, c.fit
  chk : chk 2 512 none cs = 0
  sz : szN cs ≤ 512
set_option maxRecDepth 100000 in
theorem Gd1.is {cs : List Cl} (h : Gd1 cs) : Is 2 512 cs (pgB 2 512 cs) := ⟨isKd2, pw512, h.chk, h.sz, rfl⟩
set_option maxRecDepth 100000 in
theorem Gd1.len {cs : List Cl} (h : Gd1 cs) : (pgB 2 512 cs).length = 512 := pgB_length 2 512 _ h.sz
set_option maxRecDepth 100000 in
theorem Gd1.pwf {cs : List Cl} (h : Gd1 cs) : Wf (pgB 2 512 cs) := pgB_wf (by omega) h.wf
set_option maxRecDepth 100000 in
theorem Gd1.kd {cs : List Cl} (h : Gd1 cs) : (pgB 2 512 cs).getD 0 0 = 2 := (readM_of h.is).2.2
set_option maxRecDepth 100000 in
theorem Gd1.one {cs ds : List Cl} (h : Gd1 cs) (hd : Is ((pgB 2 512 cs).getD 0 0) (pgB 2 512 cs).length ds (pgB 2 512 cs)) : ds = cs := (hd.one h.is).2.2
set_option maxRecDepth 100000 in
theorem Gd1.eg {cs : List Cl} (h : Gd1 cs) : egO (pgB 2 512 cs) = 1 := by
  unfold egO
  rw [h.len, if_neg (by omega)]
  obtain ⟨U, _, e⟩ := pgB_split 2 512 cs
  rw [e]
  rfl
set_option maxRecDepth 100000 in
theorem Gd1.eg1 {cs : List Cl} (h : Gd1 cs) : (pgB 2 512 cs).getD 1 0 = 1 := by
  have := h.eg
  unfold egO at this
  rwa [h.len, if_neg (by omega)] at this
set_option maxRecDepth 100000 in
theorem toward_leaf (w : World) (B a : Nat) (vb vs : Value) (cs : List Cl) (hp : Po w B a 2 512 vb vs cs) (g : Gd1 cs) (qo : Option Addr) (qn qc : Nat) (q : List Int) (hq : Sl w qo qn qc q) :
    Calls Tryz.prog 36 #[iP a, .slice qo qn qc] w fun e w' => ∃ r : Nat, e = .returned (.int .i64 (r : Int)) ∧ Hid (Fnd cs q r) ∧ Hid (Below w.heap.size w w') := by
  obtain ⟨bo, bc, rfl⟩ := hp.body.slice
  obtain ⟨so, sc, rfl⟩ := hp.starts.shape
  have HF := hidden (find_any w a 2 512 bo _ bc so _ sc cs (hp.pg g.wf (by have := g.sz; omega)) g.chk (by omega) g.sz qo qn qc q hq)
  have HK : Hid (∀ u, Below w.heap.size w u → Calls Tryz.prog 217 #[.pointer (some ⟨a, 0, none⟩)] u fun e w' => e = .returned (.int .i64 2) ∧ w' = u) := hidden fun u hu => kindP_any u a 2 512 _ _ (box_on hp.row hu)
  clear hp hq g
  go_enter Tryz.func36, Tryz.ntmps36
  go_wp2_with (first | (go_at_call 215; refine HF.out.mono ?_; rintro e w1 ⟨r, is, rfl, HB, HQ⟩) | (go_at_call 217; refine same_call (HK.out _ HB.out) ?_))
  go_ret
  exact ⟨r, rfl, hidden HQ.out.1, HB⟩
set_option maxRecDepth 100000 in
theorem child_leaf (w : World) (B a : Nat) (vb vs : Value) (cs : List Cl) (x : Int) (hp : Po w B a 2 512 vb vs cs) :
    Calls Tryz.prog 52 #[iP a, .int .i64 x] w fun e w' => e = .returned (.int .i64 0) ∧ w' = w := by
  have HK := hidden (kindP_any w a 2 512 _ _ hp.row)
  clear hp
  go_enter Tryz.func52, Tryz.ntmps52
  go_wp2_with (first | (go_at_call 217; refine same_call HK.out ?_))
  go_ret
  exact ⟨rfl, rfl⟩
end Go.Proofs.YtfcbfombobelmaaGreatDoor
