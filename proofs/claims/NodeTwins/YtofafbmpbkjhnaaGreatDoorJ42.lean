import Derived.Test.YtofafbmpbkjhnaaGreatDoorJ38
namespace Go.Proofs.YtofafbmpbkjhnaaGreatDoor
set_option maxRecDepth 100000
open Go.RowKit
theorem results_row27 {P : Program} {fn : Func} {p u : Tmp} {ty : TypeId} (h : fn.results = #[.cell p ty, .tmp u]) (tmps : Array Value) (w : World) (g : Nat) (t : TypeId) (cs : Array Value) (fr : Nat × Nat) (d : TypeDesc) (v : Value)
  (hp : tmps.getD p undef = .pointer (some ⟨g, 0, none⟩)) (hv : tmps.getD u undef = v) (hg : w.heap[g]? = some (.cells cs t fr))
  (hu : P.underlying ty = some d) (hd : (match d with | .struct _ | .array _ _ => true | _ => false) = true) (hi : (P.info? ty).map (·.size) = some cs.size) :
  (results fn tmps).run P w = .ok (.tuple #[.agg cs, v]) w := by
 subst hv
 rw [results_cell_tmp h, hp]
 simp [asAddr, run_loadVar_row w g t ty cs fr d hg hu hd hi, Result.andThen]
def cellQ (cs : List Cl) (x : Int) : Cl := if 0 ≤ x ∧ x < (cs.length : Int) then (cs[x.toNat]?).getD ⟨[], 0, [], 0, 0⟩ else ⟨[], 0, [], 0, 0⟩
def CelQ (c : Cl) (E : Int) (w : World) (e : Ending) (w' : World) : Prop :=
 ∃ ao a2 bo b2, e = .returned (.tuple #[.agg #[.slice ao c.key.length a2, .int .i64 c.kd, .slice bo c.val.length b2, .int .i64 c.pg, .int .i64 c.ct], .int .i64 E]) ∧ Hid (OwnB w' w.heap.size (.slice ao c.key.length a2) c.key ∧ OwnB w' w.heap.size (.slice bo c.val.length b2) c.val ∧ ∀ z, (Value.slice ao c.key.length a2).ownBlock = some z → ¬ (Value.slice bo c.val.length b2).ownBlock = some z) ∧ Hid (Below w.heap.size w w')
set_option maxHeartbeats 4000000 in
theorem cellQ_any (w : World) (a : Nat) (k : Int) (n : Nat) (po : Option Addr) (pn pc : Nat) (bo : Option Addr) (bn bc : Nat) (so : Option Addr) (sn sc : Nat) (ws : Int) (P body : List Int) (st : List Nat) (cs : List Cl) (h : PgQ w a k n po pn pc bo bn bc so sn sc ws P body st) (hl : LayQ k P cs body st) (x : Int) :
  Calls Tryz.prog 270 #[.pointer (some ⟨a, 0, none⟩), .int .i64 x] w (CelQ (cellQ cs x) (if 0 ≤ x ∧ x < (cs.length : Int) then 0 else 64) w) := by
 have hcs : cs.length = sn := by rw [← hl.len, h.starts.hlen]
 obtain ⟨s, hs⟩ : ∃ s, w.heap.size = s := ⟨_, rfl⟩
 obtain ⟨y, hy⟩ : ∃ y, w.alloc (.cells #[.slice none 0 0, .int .i64 0, .slice none 0 0, .int .i64 0, .int .i64 0] 43) = y := ⟨_, rfl⟩
 have hby : Below w.heap.size w y := by rw [← hy]; exact zac Br Lr _
 have HRES : Hid (C5 y s (.slice none 0 0) (.int .i64 0) (.slice none 0 0) (.int .i64 0) (.int .i64 0)) := by rw [← hy, ← hs]; exact zaa (C5.box _ _ _ _ _ _)
 have HBY := zaa hby
 have hpy := h.on hby
 have hys : s + 1 ≤ y.heap.size := by rw [← hy, ← hs]; simp
 unfold cellQ
 rw [hcs]
 by_cases hx : 0 ≤ x ∧ x < (sn : Int)
 ·rw [if_pos hx, if_pos hx]
  obtain ⟨i, rfl⟩ : ∃ i : Nat, x = (i : Int) := ⟨x.toNat, by omega⟩
  rw [Int.toNat_natCast]
  obtain ⟨c, hci⟩ : ∃ c, cs[i]? = some c := ⟨_, zI (by omega)⟩
  rw [hci, Option.getD_some]
  have HH := zaa (hasQ y a k n po pn pc bo bn bc so sn sc ws P body st hpy i (by omega))
  have HVW := zaa (pentry_any y a k n po pn pc bo bn bc so sn sc ws P body st cs hpy hl i c hci y.heap.size hpy.pre.lo hpy.body.lo)
  have HCF := zaa (hl.fit c (List.mem_of_getElem? hci))
  obtain ⟨key, kd, val, pg, ct⟩ := c
  have HYS := zaa hys
  have HSW := zaa hs
  have hiI : (i : Int) < (sn : Int) := hx.2
  clear h hl hpy hci hby hys hx hcs
  go_enter Tryz.func270, Tryz.ntmps270
  go_wp2_with (first
   | (go_at_call 278; refine zae HH.out ?_)
   | (go_at_call 160; refine HVW.out.mono ?_; rintro e u1 ⟨ho, hn, hc, ko, kn, kc, vo, vn, vc, hd, kk, rfl, HQ, HU1⟩; refine Hid.out ?_))
  apply zaa
  obtain ⟨KN, hKN⟩ : ∃ KN, hn + kn = KN := ⟨_, rfl⟩
  have HC : Hid (Calls Tryz.prog 161 #[.agg #[.slice ho hn hc, .slice ko kn kc, .int .i64 kd, .slice vo vn vc, .int .i64 pg, .int .i64 ct]] u1 fun e w' => CopQ key val KN kd vn pg ct u1 e w') := by
   obtain ⟨q1, q2, q3, q4, _⟩ := HQ.out
   have hkf := HCF.out.key
   have hll := congrArg List.length q4
   simp only [zG] at hll hkf
   have l1 := q1.hlen
   have l2 := q2.hlen
   have := ecopied_any ho hn hc ko kn kc kd vo vn vc pg ct hd kk val KN u1 q1 q2 q3 hKN (by omega)
   rw [q4] at this
   exact zaa this
  have HLN : Hid (KN = key.length ∧ vn = val.length ∧ val.length ≤ 65536) := by
   obtain ⟨q1, q2, q3, q4, _⟩ := HQ.out
   have hll := congrArg List.length q4
   have hvf := HCF.out.val
   simp only [zG] at hll hvf
   have l1 := q1.hlen
   have l2 := q2.hlen
   have l3 := q3.hlen
   exact zaa ⟨by omega, l3.symm, by omega⟩
  clear HH HVW hKN
  go_wp2_with (go_at_call 161; refine HC.out.mono ?_; rintro e u2 ⟨a1, c1, g2, rfl, HG, HU2⟩; refine Hid.out ?_)
  apply zaa
  have hres1 : C5 u2 s (.slice none 0 0) (.int .i64 0) (.slice none 0 0) (.int .i64 0) (.int .i64 0) := zaf (zaf HRES.out HU1.out) HU2.out
  have HR2 := zaa hres1
  obtain ⟨b0, b1, b2', b3, b4⟩ := hres1.cells
  obtain ⟨h0, h1, h2, h3, h4⟩ := hres1.free
  clear hres1 HC
  go_wp2
  refine bodyPost_ret (results_row27 rfl _ _ s 43 #[.slice a1 KN c1, .int .i64 kd, .slice (some ⟨g2, 0, none⟩) vn vn, .int .i64 pg, .int .i64 ct] (0, 0) _ (.int .i64 0) (by rfl) (by rfl) (HR2.out.put _ _ _ _ _) Tryz.underlying43 rfl zbh) rfl ?_
  have hf := zbv u2 s (.slice a1 KN c1) (.int .i64 kd) (.slice (some ⟨g2, 0, none⟩) vn vn) (.int .i64 pg) (.int .i64 ct)
  have hys := HYS.out
  have hsw := HSW.out
  obtain ⟨hkl, hvl, hvr⟩ := HLN.out
  have hu1 := HU1.out.size
  obtain ⟨hg1, hg2, hg3, hg4⟩ := HG.out
  have hbu := zab (zab HBY.out Lr HU1.out) Lr HU2.out
  subst hkl
  subst hvl
  refine ⟨a1, c1, some ⟨g2, 0, none⟩, val.length, rfl, zaa ⟨?_, ?_, ?_⟩, zaa (hbu.trans (hf.below hbu.size (by intro i hi e; omega)))⟩
  ·exact (hg1.low (by omega)).cf hf (hg1.apart5 HR2.out)
  ·exact zdn (l := val) (hg2.cf hf (hg2.apart5 HR2.out)) (by omega) (zN hvr (by unfold maxLen; decide))
  ·intro z h1 h2
   have e2 : g2 = z := by simpa [Value.ownBlock] using h2
   rw [← e2] at h1
   exact hg4 h1
 ·rw [if_neg hx, if_neg hx]
  have HH := zaa (hasQ_no y a k n po pn pc bo bn bc so sn sc ws P body st hpy x hx)
  obtain ⟨b0, b1, b2', b3, b4⟩ := HRES.out.cells
  obtain ⟨h0, h1, h2, h3, h4⟩ := HRES.out.free
  have hf := zbv y s (.slice none 0 0) (.int .i64 0) (.slice none 0 0) (.int .i64 0) (.int .i64 0)
  have HF := zaa hf
  have HS := zaa hs
  clear h hl hpy hby hys hf hx hcs
  go_enter Tryz.func270, Tryz.ntmps270
  go_wp2_with (go_at_call 278; refine zae HH.out ?_)
  refine bodyPost_ret (results_row27 rfl _ _ s 43 #[.slice none 0 0, .int .i64 0, .slice none 0 0, .int .i64 0, .int .i64 0] (0, 0) _ (.int .i64 64) (by rfl) (by rfl) (HRES.out.put _ _ _ _ _) Tryz.underlying43 rfl zbh) rfl ?_
  exact ⟨none, 0, none, 0, rfl, zaa ⟨OwnB.nil _ _, OwnB.nil _ _, fun z h1 => (by simp [Value.ownBlock] at h1)⟩, zaa (HBY.out.trans (HF.out.below HBY.out.size (by intro i hi e; have := HS.out; omega)))⟩
theorem usedW_any (w : World) (a : Nat) (k n : Int) (po : Option Addr) (pn pc : Nat) (bo : Option Addr) (bn bc : Nat) (so : Option Addr) (sn sc : Nat) (ws : Nat) (h : QR w a k n (.slice po pn pc) (.slice bo bn bc) (.slice so sn sc) (ws : Int)) (h1 : pn ≤ 1099511627776) (h2 : bn ≤ 1099511627776) (h3 : sn ≤ 1099511627776) (Z U : Nat) (hZ : 10 + pn + 2 * sn + bn = Z) (hU : Z = U + ws) :
  Calls Tryz.prog 277 #[.pointer (some ⟨a, 0, none⟩)] w fun e w' => e = .returned (.int .i64 (U : Int)) ∧ Hid (Below w.heap.size w w') := by
 obtain ⟨c0, c1, c2, c3, c4, c5⟩ := h.cells
 have HF : Hid (∀ u, Below w.heap.size w u → Calls Tryz.prog 286 #[.pointer (some ⟨a, 0, none⟩)] u fun e w' => e = .returned (.int .i64 (Z : Int)) ∧ w'.cell? ⟨a, 5, none⟩ = some (.int .i64 (ws : Int)) ∧ Hid (Below w.heap.size w w')) := by
  refine zaa fun u hu => (zdf u a k n po pn pc bo bn bc so sn sc ws (zaf h hu) h1 h2 h3).mono ?_
  rintro e w' ⟨rfl, q, rfl⟩
  have hb := zad hu q
  exact ⟨by rw [hZ], (show QR _ a k n (.slice po pn pc) (.slice bo bn bc) (.slice so sn sc) (ws : Int) from zaf h hb).cells.2.2.2.2.2, zaa hb⟩
 have hwZ0 : IntKind.i64.wrap ((Z : Int) - (ws : Int)) = (U : Int) := by rw [IntKind.wrap_i64]; omega
 have hZU : (Z : Int) - (ws : Int) = (U : Int) := by omega
 have bU : (U : Int) ≤ 8796093022208 := by omega
 have hwU : IntKind.i64.wrap (U : Int) = (U : Int) := by rw [IntKind.wrap_i64]; omega
 clear h hZ hU
 go_enter Tryz.func277, Tryz.ntmps277
 go_wp2_with fail
 go_region_with (first | (go_at_call 286; refine (HF.out _ (by first | exact Br | exact Br.drew | exact zad Br _)).mono ?_; rintro e w1 ⟨rfl, x5, HB1⟩))
 all_goals
  go_wp2
  go_ret
  exact ⟨rfl, zaa (by first | exact HB1.out | exact HB1.out.drew | exact zad HB1.out _)⟩
theorem kindW_any (w : World) (a : Nat) (k n : Int) (vp vb vs : Value) (ws : Int) (h : QR w a k n vp vb vs ws) :
  Calls Tryz.prog 273 #[.pointer (some ⟨a, 0, none⟩)] w fun e w' => e = .returned (.int .i64 k) ∧ w' = w := by
 obtain ⟨c0, c1, c2, c3, c4, c5⟩ := h.cells
 clear h
 go_enter Tryz.func273, Tryz.ntmps273
 go_wp2_with fail
 go_ret
 exact ⟨rfl, rfl⟩
end Go.Proofs.YtofafbmpbkjhnaaGreatDoor
