/- Layer 6: Encode of both sides, one contract without cases; cells put behind one another. -/
import Derived.Test.YtphjnahmbdinmaaGreatDoorJ37
import Derived.Test.YtphjnahmbdinmaaGreatDoorJ24
import Derived.Test.YtphjnahmbdinmaaGreatDoorJ33
import Derived.Test.YtphjnahmbdinmaaGreatDoorJ14
namespace Go.Proofs.YtphjnahmbdinmaaGreatDoor
open Go.RowKit

set_option maxRecDepth 100000 in
theorem Fo.of {F : Nat → Prop} {w : World} {x : Value} (h : ∀ z, x.ownBlock = some z → F z) : Fo F w x := fun z hz => .inl (h z hz)
/-- The page, or none. -/
def en6 (k n : Int) (cs : List Cl) : List Int := if encE k n cs = 0 then pgB k n.toNat cs else []
set_option maxRecDepth 100000 in
theorem en6_size {k n : Int} {cs : List Cl} (h : encE k n cs = 0) : isKd k ∧ pw n ∧ (szN cs : Int) ≤ n := by
  unfold encE at h
  by_cases h1 : isKd k ∧ pw n
  · rw [if_pos h1] at h
    by_cases h2 : chk k n none cs = 0
    · rw [if_pos h2] at h
      by_cases h3 : n < szN cs
      · rw [if_pos h3] at h; cases h
      · exact ⟨h1.1, h1.2, by omega⟩
    · rw [if_neg h2] at h; exact absurd h h2
  · rw [if_neg h1] at h; cases h
set_option maxRecDepth 100000 in
theorem en6_len {k n : Int} {cs : List Cl} : (en6 k n cs).length ≤ 65536 := by
  unfold en6
  split
  · rename_i h
    obtain ⟨_, h2, h3⟩ := en6_size h
    have := pw_le h2
    rw [pgB_length _ _ _ (by omega)]
    omega
  · simp
set_option maxRecDepth 100000 in
theorem en6_wf {k n : Int} {cs : List Cl} (hw : ∀ c ∈ cs, c.Wf) : Wf (en6 k n cs) := by
  unfold en6
  split
  · rename_i h
    obtain ⟨h1, _⟩ := en6_size h
    exact pgB_wf (by unfold isKd at h1; omega) hw
  · exact Wf.nil
set_option maxRecDepth 100000 in
theorem encU6 (k n : Int) (co : Option Addr) (cn cc : Nat) (cs : List Cl) (w : World) (hs : SlC w co cn cc cs) (hz : szN cs ≤ 1099511627776) (ht : Tab w) (h0 : 1 < w.heap.size) :
    Calls Tryz.prog 15 #[.int .i64 k, .slice co cn cc, .int .i64 n] w fun e w' => ∃ ao m cap, e = .returned (.tuple #[.slice ao m cap, .int .i64 (encE k n cs)]) ∧ Hid (OwnB w' w.heap.size (.slice ao m cap) (en6 k n cs)) ∧ Hid (Below w.heap.size w w') := by
  refine (encode_plain k n co cn cc cs w hs hz ht h0).mono ?_
  rintro e w' ⟨ao, m, cap, c, rfl, hb, hq⟩
  obtain ⟨rfl, h⟩ := hq.out
  refine ⟨ao, m, cap, rfl, hidden ?_, hb⟩
  unfold en6
  rcases h with ⟨h1, rfl, rfl, rfl⟩ | ⟨h1, h2⟩
  · rw [if_neg h1]
    exact OwnB.nil _ _
  · rw [if_pos h1]
    obtain ⟨g, rfl, rfl, rfl, hg, hbk⟩ := h2
    obtain ⟨_, h4, h5⟩ := en6_size h1
    have hp := pw_le h4
    have hl : (pgB k n.toNat cs).length = n.toNat := pgB_length _ _ _ (by omega)
    have := own_of_heap (l := pgB k n.toNat cs) hbk hg (by rw [hl]; unfold maxLen; omega)
    rw [hl] at this
    exact this
set_option maxRecDepth 100000 in
theorem rencU6 (k n : Int) (co : Option Addr) (cn cc : Nat) (cs : List Cl) (w : World) (hs : SlC w co cn cc cs) (hcn : cn ≤ 900000) (hz : szN cs ≤ 1099511627776) :
    Calls Tryz.prog 64 #[.int .i64 k, .slice co cn cc, .int .i64 n] w fun e w' => ∃ ao m cap, e = .returned (.tuple #[.slice ao m cap, .int .i64 (encE k n cs)]) ∧ Hid (OwnB w' w.heap.size (.slice ao m cap) (en6 k n cs)) ∧ Hid (Below w.heap.size w w') := by
  by_cases he : encE k n cs = 0
  · obtain ⟨h1, h2, h3⟩ := en6_size he
    have := pw_le h2
    obtain ⟨N, rfl⟩ := Int.eq_ofNat_of_zero_le (show 0 ≤ n by omega)
    refine (rencode6_yes k N co cn cc cs w hs hcn he).mono ?_
    rintro e w' ⟨v, rfl, ho, hb⟩
    obtain ⟨ao, c, rfl⟩ := own_slice6 ho.out
    refine ⟨ao, _, c, by rw [he], hidden ?_, hb⟩
    unfold en6
    rw [if_pos he, Int.toNat_natCast]
    exact ho.out
  · refine (rencode6_no k n co cn cc cs w hs hcn hz he).mono ?_
    rintro e w' ⟨rfl, hb⟩
    refine ⟨none, 0, 0, rfl, hidden ?_, hb⟩
    unfold en6
    rw [if_neg he]
    exact OwnB.nil _ _
set_option maxRecDepth 100000 in
theorem szN_cons6 (d : Cl) (r : List Cl) : szN (d :: r) = ctk d + szN r := by unfold szN; simp; omega
set_option maxRecDepth 100000 in
theorem szN_sub {fs cs : List Cl} (h : fs.Sublist cs) : szN fs ≤ szN cs := by
  induction h with
  | slnil => exact Nat.le_refl _
  | cons a _ ih => rw [szN_cons6]; omega
  | cons_cons a _ ih => rw [szN_cons6, szN_cons6]; omega
set_option maxRecDepth 100000 in
theorem SlC.rooms {w : World} {ao : Option Addr} {n cap : Nat} {cs : List Cl} (h : SlC w ao n cap cs) : ∀ c ∈ cs, c.key.length ≤ 140737488355328 ∧ c.val.length ≤ 140737488355328 := by
  intro c hc
  obtain ⟨i, hi, e⟩ := List.getElem_of_mem hc
  rcases h.hat with h0 | ⟨b, off, _, _, hcs⟩
  · have := h.hlen; omega
  · obtain ⟨_, _, _, _, _, _, _, _, _, h5, h6⟩ := hcs i c (by rw [List.getElem?_eq_getElem hi, e])
    exact ⟨h5.hroom, h6.hroom⟩
set_option maxRecDepth 100000 in
theorem Lent6.slc2 {w : World} {R n L : Nat} {cs : List Cl} (h : Lent6 w R cs n L) (hl : cs.length = n) (hn : n ≤ 900000) (hw : ∀ c ∈ cs, c.Wf) (hk : ∀ c ∈ cs, c.key.length ≤ 140737488355328 ∧ c.val.length ≤ 140737488355328) : SlC w (some ⟨R, 0, none⟩) n (n + 3) cs := by
  obtain ⟨g, h1, h2, _⟩ := h
  refine ⟨hl, by omega, by omega, (by intro h; cases h), .inr ⟨R, 0, rfl, h2.lt, fun i c hi => ?_⟩⟩
  have hil : i < n := by have := (List.getElem?_eq_some_iff.1 hi).1; omega
  obtain ⟨a0, a1, a2, a3, a4, a5, a6⟩ := h1.at_ i c (by omega) hil hi
  have hm := List.mem_of_getElem? hi
  have := hk c hm
  rw [Nat.zero_add]
  exact ⟨_, _, _, _, a0, a1, a2, a3, a4, sl_lent a5 (hw c hm).1 this.1, sl_lent a6 (hw c hm).2 this.2⟩
set_option maxRecDepth 100000 in
theorem OwnK.slc2 {w0 w : World} {v : Value} {cs : List Cl} (h : OwnK w0 w v cs) (hb : Below w0.heap.size w0 w) (hl : cs.length ≤ 200000) : ∃ ao cap, v = .slice ao cs.length cap ∧ SlC w ao cs.length cap cs := by
  obtain ⟨vs, h1, h2⟩ := h
  rcases h1.2 with ⟨rfl, h0⟩ | ⟨g, cap, cur, rfl, hg, hh, hnc, hm, hs, ht⟩
  · rw [h0]
    exact ⟨none, 0, rfl, ⟨h0, Nat.le_refl _, by omega, fun _ => rfl, .inl rfl⟩⟩
  · refine ⟨_, cap, rfl, ⟨rfl, hnc, by omega, (by intro h; cases h), .inr ⟨g, 0, rfl, lt_some hh, ?_⟩⟩⟩
    exact Row5.cat hb 0 h2 (fun j u hu => by
      have := World.ownsRow.cells h1 (g := g) rfl j u hu
      simpa [Addr.add_lit] using this)
set_option maxRecDepth 100000 in
/-- 'append(m, x...)', as app_ck, for more cells. -/
theorem app_ck2 {ops : Array Oper} {rest : List Oper} {o : Oper} {a : Act} {Q : Exit → Act → World → Prop} (w0 w : World) (hgd : o.guard = none) (s x : Operand)
    (ho : o.op = .call { callee := .builtin .append, args := #[s, x], argTypes := #[32, 32] }) (cs ds : List Cl) (v : Value) (b off n c : Nat) (us : List Value) (hs : a.eval s = v) (hx : a.eval x = .slice (some ⟨b, off, none⟩) n c)
    (hown : OwnK w0 w v cs) (hn : ds.length = n) (hr : Row5 w0 us ds) (hc : ∀ j u, us[j]? = some u → w.cell? ⟨b, off + j, none⟩ = some u) (hb : cs.length + n ≤ 200000) (hbase : Below w0.heap.size w0 w)
    (h : ∀ v' w', Hid (OwnK w0 w' v' (cs ++ ds)) → Hid (Below w0.heap.size w0 w') → wpList Tryz.prog ops Q rest (a.put o.dst v') w') : wpList Tryz.prog ops Q (o :: rest) a w := by
  obtain ⟨i0, hi, hz0, hz1, hz2⟩ := info_parts infoC
  obtain ⟨vs, h1, h2⟩ := hown
  refine wpList_append_own_at w hgd s x 32 ho w0.heap.size 40 i0 _ 5 72 Tryz.underlying32 hi hz0 hz1 hz2 rfl (by decide) v cs.length vs hs h1 ⟨b, off, none⟩ n c us hx (by rw [hr.len, hn])
    (fun j u hu => by
      rw [Addr.add_lit]
      exact hc j u hu) hr.one (by unfold maxLen; omega) (by omega) hbase.size ?_
  intro v' w' g1 g2 _ _
  refine h v' w' (hidden ⟨vs ++ us, ?_, Row5.append hr h2⟩) (hidden ?_)
  · rw [List.length_append, hn]
    exact g1
  · exact hbase.trans (own_below h1 hbase.size g2)
end Go.Proofs.YtphjnahmbdinmaaGreatDoor

/- Layer 6: the document's Bytes and Find. -/

namespace Go.Proofs.YtphjnahmbdinmaaGreatDoor
open Go.RowKit

set_option maxRecDepth 100000 in
set_option maxHeartbeats 4000000 in
theorem rbytes_any (w : World) (B : Nat) (K : Nat → Prop) (r : Nat) (k : Int) (n : Nat) (vl : Value) (cs : List Cl) (hp : Dp w B K r k n vl cs) (hw : ∀ c ∈ cs, c.Wf ∧ c.key.length ≤ 140737488355328 ∧ c.val.length ≤ 140737488355328) (hl : cs.length ≤ 100000) (hz : szN cs ≤ 65536) :
    Calls Tryz.prog 36 #[.pointer (some ⟨r, 0, none⟩)] w fun e w' => ∃ ao m cap, e = .returned (.slice ao m cap) ∧ Hid (OwnB w' w.heap.size (.slice ao m cap) (en6 k n cs)) ∧ Hid (Below w.heap.size w w') := by
  obtain ⟨so, sc, rfl, hs⟩ := hp.slc hw hl
  obtain ⟨p0, p1, p2⟩ := hp.row.cells
  have HZ : Hid (∀ u, Below w.heap.size w u → Calls Tryz.prog 64 #[.int .i64 k, .slice so cs.length sc, .int .i64 (n : Int)] u fun e u' => ∃ ao m cap, e = .returned (.tuple #[.slice ao m cap, .int .i64 (encE k n cs)]) ∧ Hid (OwnB u' w.heap.size (.slice ao m cap) (en6 k n cs)) ∧ Hid (Below w.heap.size w u')) := by
    refine hidden fun u hu => (rencU6 k n so cs.length sc cs u (hs.on hu) (by omega) (by omega)).mono ?_
    rintro e u' ⟨ao, m, cap, rfl, h1, h2⟩
    exact ⟨ao, m, cap, rfl, hidden (h1.out.low hu.size), hidden (bl_go hu (Nat.le_refl _) h2.out)⟩
  generalize en6 k n cs = l at *
  generalize encE k n cs = E at *
  generalize cs.length = L at *
  clear hp hs hw
  go_enter Tryz.func36, Tryz.ntmps36
  go_wp2_with fail
  go_region_law (first
    | (go_simp; go_at_call 64; refine (HZ.out _ (by first | exact Below.refl _ _ | exact (Below.refl _ _).drew | exact bl_dr (Below.refl _ _) _)).mono ?_; rintro e u1 ⟨ao, m, cap, rfl, HO1, HU1⟩))
  all_goals (try go_wp2_with fail)
  all_goals go_ret
  all_goals exact ⟨ao, m, cap, rfl, HO1, HU1⟩
end Go.Proofs.YtphjnahmbdinmaaGreatDoor

/- Layer 6: the document's Find. -/

namespace Go.Proofs.YtphjnahmbdinmaaGreatDoor
open Go.RowKit

/-- How many of the cells stand ahead of the key. -/
def cntL (cs : List Cl) (q : List Int) : Nat := cs.countP (fun c => decide (kl c.key q))
set_option maxRecDepth 100000 in
theorem cntL_le (cs : List Cl) (q : List Int) : cntL cs q ≤ cs.length := List.countP_le_length
set_option maxRecDepth 100000 in
theorem cntL_step {cs : List Cl} {q : List Int} {t : Nat} {c : Cl} (h : cs[t]? = some c) : cntL (cs.take (t + 1)) q = cntL (cs.take t) q + if kl c.key q then 1 else 0 := by
  unfold cntL
  rw [List.take_add_one, h]
  simp [List.countP_append, List.countP_cons]
set_option maxRecDepth 100000 in
theorem Fnd.cnt {cs : List Cl} {q : List Int} {r : Nat} (h : Fnd cs q r) : cntL cs q = r := by
  have hle := h.le
  unfold cntL
  rw [← List.take_append_drop r cs, List.countP_append]
  have h1 : (cs.take r).countP (fun c => decide (kl c.key q)) = (cs.take r).length := by
    rw [List.countP_eq_length]
    intro c hc
    obtain ⟨i, hi⟩ := List.getElem?_of_mem hc
    rw [List.getElem?_take] at hi
    split at hi
    · rename_i hir
      exact decide_eq_true (h.lo i c hir hi)
    · simp at hi
  have h2 : (cs.drop r).countP (fun c => decide (kl c.key q)) = 0 := by
    rw [List.countP_eq_zero]
    intro c hc
    obtain ⟨i, hi⟩ := List.getElem?_of_mem hc
    rw [List.getElem?_drop] at hi
    have := h.hi (r + i) c (by omega) hi
    simpa using this
  rw [h1, h2]
  simp
  omega
/-- Whether the key is there. -/
def isL (cs : List Cl) (q : List Int) : Bool := decide (cntL cs q < cs.length) && decide (kyL cs (cntL cs q) = q)
set_option maxRecDepth 100000 in
theorem FindTo.cnt {cs : List Cl} {q : List Int} {w w' : World} {e : Ending} (h : FindTo cs q w e w') : e = .returned (.tuple #[.int .i64 (cntL cs q : Int), .bool (isL cs q)]) ∧ Hid (Below w.heap.size w w') := by
  obtain ⟨r, is, rfl, hb, hf⟩ := h
  have hc := hf.out.1.cnt
  refine ⟨?_, hb⟩
  have hi : is = isL cs q := by
    rw [Bool.eq_iff_iff, hf.out.2]
    unfold isL
    rw [hc, Bool.and_eq_true, decide_eq_true_iff, decide_eq_true_iff]
    constructor
    · rintro ⟨c, h1, h2⟩
      exact ⟨(List.getElem?_eq_some_iff.1 h1).1, by rw [kyL_at h1]; exact h2⟩
    · rintro ⟨h1, h2⟩
      refine ⟨cs[r]'h1, List.getElem?_eq_getElem h1, ?_⟩
      rw [← h2, kyL_at (List.getElem?_eq_getElem h1)]
  rw [hc, hi]
set_option maxRecDepth 100000 in
set_option maxHeartbeats 4000000 in
theorem rfind_any (w : World) (B : Nat) (K : Nat → Prop) (r : Nat) (k : Int) (n : Nat) (vl : Value) (cs : List Cl) (hp : Dp w B K r k n vl cs) (hw : ∀ c ∈ cs, c.Wf ∧ c.key.length ≤ 140737488355328 ∧ c.val.length ≤ 140737488355328) (hl : cs.length ≤ 100000) (qo : Option Addr) (qn qc : Nat) (q : List Int) (hq : Sl w qo qn qc q) :
    Calls Tryz.prog 32 #[.pointer (some ⟨r, 0, none⟩), .slice qo qn qc] w fun e w' => e = .returned (.tuple #[.int .i64 (cntL cs q : Int), .bool (isL cs q)]) ∧ Hid (Below w.heap.size w w') := by
  obtain ⟨so, sc, rfl, hs⟩ := hp.slc hw hl
  have HP := hidden hp.row
  have HS := hidden hs
  have HQ := hidden hq
  obtain ⟨sn, hsn⟩ : ∃ sn, cs.length = sn := ⟨_, rfl⟩
  have HSN := hidden hsn
  have hsb : (sn : Int) ≤ 100000 := by omega
  rw [hsn] at HP HS
  obtain ⟨RN, hRN⟩ : ∃ RN, cntL cs q = RN := ⟨_, rfl⟩
  obtain ⟨RB, hRB⟩ : ∃ RB, isL cs q = RB := ⟨_, rfl⟩
  rw [hRN, hRB]
  have HRN := hidden hRN
  have HRB := hidden hRB
  clear hp hs hq hw hl hsn hRN hRB
  go_enter Tryz.func32, Tryz.ntmps32
  go_wp2_with fail
  go_loopw [6, 7] (fun nv iv wr => ∃ t m : Nat, t ≤ sn ∧ m ≤ t ∧ nv = .int .i64 m ∧ iv = .int .i64 t ∧ Hid (m = cntL (cs.take t) q) ∧ Hid (Below w.heap.size w wr)) (fun _ iv _ => sn - (RowKit.intOf iv).toNat)
  case atStart => exact ⟨0, 0, by omega, by omega, rfl, rfl, hidden (by simp [cntL]), hidden (Below.refl _ _)⟩
  case round =>
    obtain ⟨t, m, htL, hmt, rfl, rfl, HM, HBW⟩ := hrel
    obtain ⟨p0, p1, p2⟩ := (HP.out.on HBW.out).cells
    have bt : (t : Int) ≤ 100000 := by omega
    have bm : (m : Int) ≤ 100000 := by omega
    by_cases hlt : t < sn
    · have hltI : (t : Int) < (sn : Int) := by omega
      obtain ⟨b, off, c, ka, kc, va, vc, rfl, hb, hci, c0, c1, c2, c3, c4, hkS, hvS⟩ := (HS.out.on HBW.out).item t hlt
      have hqr := HQ.out.on (Nat.le_refl _) HBW.out
      have k3 : ∀ z, (convert 38 9 (.slice ka c.key.length kc)).run Tryz.prog (wr.drewN z) = .ok (.string (strOfNums c.key)) (wr.drewN z) := fun z => conv_sl (hkS.drewN z)
      have k4 : ∀ z, (convert 38 9 (.slice qo qn qc)).run Tryz.prog (wr.drewN z) = .ok (.string (strOfNums q)) (wr.drewN z) := fun z => conv_sl (hqr.drewN z)
      have HLS := hidden (str_less hkS.wf hqr.wf)
      have HST := hidden (cntL_step (q := q) hci)
      clear hkS hvS hqr hci c1 c2 c3 c4
      cases hkl : decide (kl c.key q) with
      | true =>
        have hls : Op.bytesLess (strOfNums c.key).toList (strOfNums q).toList = true := by rw [HLS.out]; exact hkl
        have HNX : Hid (m + 1 = cntL (cs.take (t + 1)) q) := hidden (by rw [HST.out, if_pos (by simpa using hkl), HM.out])
        go_wp2_with fail
        go_quiet (fail)
        go_wp2
        go_roundw
        case rel => exact ⟨t + 1, m + 1, by omega, by omega, by go_num, by go_num, HNX, hidden (bl_dr HBW.out _)⟩
        case measure => simp [RowKit.intOf]; omega
      | false =>
        have hls : Op.bytesLess (strOfNums c.key).toList (strOfNums q).toList = false := by rw [HLS.out]; exact hkl
        have HNX : Hid (m = cntL (cs.take (t + 1)) q) := hidden (by rw [HST.out, if_neg (by simpa using hkl), HM.out]; rfl)
        go_wp2_with fail
        go_quiet (fail)
        go_wp2
        go_roundw
        case rel => exact ⟨t + 1, m, by omega, by omega, rfl, by go_num, HNX, hidden (bl_dr HBW.out _)⟩
        case measure => simp [RowKit.intOf]; omega
    · have hmr : m = RN := by rw [HM.out, ← HRN.out, List.take_of_length_le (by rw [HSN.out]; omega)]
      subst hmr
      by_cases hms : m < sn
      · have hmI : (m : Int) < (sn : Int) := by omega
        have hmd : decide ((m : Int) < (sn : Int)) = true := by simpa using hms
        have hmd2 : decide (m < sn) = true := by simpa using hms
        obtain ⟨b, off, c, ka, kc, va, vc, rfl, hb, hci, c0, c1, c2, c3, c4, hkS, hvS⟩ := (HS.out.on HBW.out).item m hms
        have hqr := HQ.out.on (Nat.le_refl _) HBW.out
        have k3 : ∀ z, (convert 38 9 (.slice ka c.key.length kc)).run Tryz.prog (wr.drewN z) = .ok (.string (strOfNums c.key)) (wr.drewN z) := fun z => conv_sl (hkS.drewN z)
        have k4 : ∀ z, (convert 38 9 (.slice qo qn qc)).run Tryz.prog (wr.drewN z) = .ok (.string (strOfNums q)) (wr.drewN z) := fun z => conv_sl (hqr.drewN z)
        have hse : ((strOfNums c.key).toList == (strOfNums q).toList) = RB := by
          rw [str_beq hkS.wf hqr.wf, ← HRB.out]
          unfold isL
          rw [HRN.out, HSN.out, hmd2, Bool.true_and, kyL_at hci]
        clear hkS hvS hqr hci c1 c2 c3 c4
        go_wp2_with fail
        go_quiet (fail)
        go_wp2
        go_ret2
        exact ⟨rfl, hidden (bl_dr HBW.out _)⟩
      · have hmd : decide ((m : Int) < (sn : Int)) = false := by simpa using hms
        have hmd2 : decide (m < sn) = false := by simpa using hms
        have hRB : RB = false := by
          rw [← HRB.out]
          unfold isL
          rw [HRN.out, HSN.out, hmd2, Bool.false_and]
        subst hRB
        go_wp2_with fail
        go_quiet (fail)
        go_wp2
        go_ret2
        exact ⟨rfl, hidden (bl_dr HBW.out _)⟩
end Go.Proofs.YtphjnahmbdinmaaGreatDoor

/- Layer 6: our Cell, in general: the cell lies in memory of its own. -/

namespace Go.Proofs.YtphjnahmbdinmaaGreatDoor
open Go.RowKit

/-- What our Cell comes to: as CelTo, the key and the value in blocks of their own. -/
def CelO (c : Cl) (E : Int) (w : World) (e : Ending) (w' : World) : Prop :=
  ∃ ao a2 bo b2, e = .returned (.tuple #[.agg #[.slice ao c.key.length a2, .int .i64 c.kd, .slice bo c.val.length b2, .int .i64 c.pg, .int .i64 c.ct], .int .i64 E]) ∧ Hid (OwnB w' w.heap.size (.slice ao c.key.length a2) c.key ∧ OwnB w' w.heap.size (.slice bo c.val.length b2) c.val ∧ ∀ z, (Value.slice ao c.key.length a2).ownBlock = some z → ¬ (Value.slice bo c.val.length b2).ownBlock = some z) ∧ Hid (Below w.heap.size w w')
set_option maxRecDepth 100000 in
set_option maxHeartbeats 4000000 in
theorem cellO_any (w : World) (B a : Nat) (k : Int) (n : Nat) (vb vs : Value) (cs : List Cl) (x : Int) (hp : Po w B a k n vb vs cs) (hw : ∀ c ∈ cs, c.Wf) (hft : ∀ c ∈ cs, c.fit) (hz : szN cs ≤ n) (hn : n ≤ 65536) :
    Calls Tryz.prog 27 #[.pointer (some ⟨a, 0, none⟩), .int .i64 x] w (CelO (cellE cs x) (remE cs x) w) := by
  have hzc := szN_eq cs
  obtain ⟨s, hs⟩ : ∃ s, w.heap.size = s := ⟨_, rfl⟩
  obtain ⟨y, hy⟩ : ∃ y, w.alloc (.cells #[.slice none 0 0, .int .i64 0, .slice none 0 0, .int .i64 0, .int .i64 0] 40) = y := ⟨_, rfl⟩
  have hby : Below w.heap.size w y := by rw [← hy]; exact bl_al (Below.refl _ _) (Nat.le_refl _) _
  have HRES : Hid (C5 y s (.slice none 0 0) (.int .i64 0) (.slice none 0 0) (.int .i64 0) (.int .i64 0)) := by rw [← hy, ← hs]; exact hidden (C5.box _ _ _ _ _ _)
  have HBY := hidden hby
  have hpy := hp.on hby
  obtain ⟨bo, bc, rfl⟩ := hpy.body.slice
  obtain ⟨so, sc, rfl⟩ := hpy.starts.shape
  rw [sts_length] at hpy
  obtain ⟨sn, hsn⟩ : ∃ sn, cs.length = sn := ⟨_, rfl⟩
  have hys : s + 1 ≤ y.heap.size := by rw [← hy, ← hs]; simp
  have hpg := hpy.pg hw (by omega)
  have hrow := hpy.row
  unfold remE cellE
  rw [hsn] at hpg hrow ⊢
  by_cases hx : 0 ≤ x ∧ x < (sn : Int)
  · rw [if_pos hx, if_pos hx]
    obtain ⟨i, rfl⟩ : ∃ i : Nat, x = (i : Int) := ⟨x.toNat, by omega⟩
    rw [Int.toNat_natCast]
    have hi : i < cs.length := by omega
    obtain ⟨c, hci⟩ : ∃ c, cs[i]? = some c := ⟨_, List.getElem?_eq_getElem hi⟩
    rw [hci, Option.getD_some]
    have HH := hidden (has_any y a k n _ so sn sc hrow (i : Int) true ⟨fun _ => hx, fun _ => rfl⟩)
    have HVW := hidden (view_any y a k n bo _ bc so sn sc cs hpg hft i hi c hci (by omega))
    obtain ⟨key, kd, val, pg, ct⟩ := c
    simp only at HVW ⊢
    have HYS := hidden hys
    have HSW := hidden hs
    have hiI : (i : Int) < (sn : Int) := hx.2
    clear hp hpy hpg hrow hci hw hft hby hsn hys hx hz hzc hi
    go_enter Tryz.func27, Tryz.ntmps27
    go_wp2_with (first
      | (go_at_call 46; refine same_call HH.out ?_)
      | (go_at_call 45; refine HVW.out.mono ?_; rintro e u1 ⟨ko, kn, kc, vo, vn, vc, rfl, HK, HV, HU1⟩; refine Hid.out ?_))
    apply hidden
    have HC := hidden (copied_any ko kn kc kd vo vn vc pg ct key val u1 HK.out HV.out)
    have HKL := hidden HK.out.hlen
    have HVL := hidden HV.out.hlen
    have HKR := hidden HK.out.hroom
    have HVR := hidden HV.out.hroom
    clear HH HVW
    go_wp2_with (first | (go_at_call 44; refine HC.out.mono ?_; rintro e u2 ⟨g1, g2, rfl, HG, HU2⟩; refine Hid.out ?_))
    apply hidden
    have hres1 : C5 u2 s (.slice none 0 0) (.int .i64 0) (.slice none 0 0) (.int .i64 0) (.int .i64 0) := box_on (box_on HRES.out HU1.out) HU2.out
    have HR2 := hidden hres1
    obtain ⟨b0, b1, b2', b3, b4⟩ := hres1.cells
    obtain ⟨h0, h1, h2, h3, h4⟩ := hres1.free
    clear hres1 HC
    go_wp2
    refine bodyPost_ret (results_row26 rfl _ _ s 40 #[.slice (some ⟨g1, 0, none⟩) kn kn, .int .i64 kd, .slice (some ⟨g2, 0, none⟩) vn vn, .int .i64 pg, .int .i64 ct] (0, 0) _ (.int .i64 0) (by rfl) (by rfl) (HR2.out.put _ _ _ _ _) Tryz.underlying40 rfl sizeCell) rfl ?_
    have hf := put5_cf u2 s (.slice (some ⟨g1, 0, none⟩) kn kn) (.int .i64 kd) (.slice (some ⟨g2, 0, none⟩) vn vn) (.int .i64 pg) (.int .i64 ct)
    have hys := HYS.out
    have hsw := HSW.out
    have hkl := HKL.out
    have hvl := HVL.out
    have hkr := HKR.out
    have hvr := HVR.out
    have hu1 := HU1.out.size
    obtain ⟨hg1, hg2, hg3, hg4, hg5⟩ := HG.out
    have hbu := bl_go (bl_go HBY.out (Nat.le_refl _) HU1.out) (Nat.le_refl _) HU2.out
    subst hkl
    subst hvl
    refine ⟨some ⟨g1, 0, none⟩, key.length, some ⟨g2, 0, none⟩, val.length, rfl, hidden ⟨?_, ?_, ?_⟩, hidden (hbu.trans (hf.below hbu.size (by intro i hi e; omega)))⟩
    · exact own_of_heap (l := key) (hg1.cf hf (hg1.apart5 HR2.out)) (by omega) (Nat.le_trans hkr (by unfold maxLen; decide))
    · exact own_of_heap (l := val) (hg2.cf hf (hg2.apart5 HR2.out)) (by omega) (Nat.le_trans hvr (by unfold maxLen; decide))
    · intro z h1 h2
      have e1 : g1 = z := by simpa [Value.ownBlock] using h1
      have e2 : g2 = z := by simpa [Value.ownBlock] using h2
      exact hg5 (e1.trans e2.symm)
  · rw [if_neg hx, if_neg hx]
    have HH := hidden (has_any y a k n _ so sn sc hrow x false ⟨fun h => (by cases h), fun h => absurd h hx⟩)
    obtain ⟨b0, b1, b2', b3, b4⟩ := HRES.out.cells
    obtain ⟨h0, h1, h2, h3, h4⟩ := HRES.out.free
    have hf := put5_cf y s (.slice none 0 0) (.int .i64 0) (.slice none 0 0) (.int .i64 0) (.int .i64 0)
    have HF := hidden hf
    have HS := hidden hs
    clear hp hpy hpg hrow hw hft hby hsn hys hf hx hz hzc
    go_enter Tryz.func27, Tryz.ntmps27
    go_wp2_with (first | (go_at_call 46; refine same_call HH.out ?_))
    refine bodyPost_ret (results_row26 rfl _ _ s 40 #[.slice none 0 0, .int .i64 0, .slice none 0 0, .int .i64 0, .int .i64 0] (0, 0) _ (.int .i64 64) (by rfl) (by rfl) (HRES.out.put _ _ _ _ _) Tryz.underlying40 rfl sizeCell) rfl ?_
    exact ⟨none, 0, none, 0, rfl, hidden ⟨OwnB.nil _ _, OwnB.nil _ _, fun z h1 => (by simp [Value.ownBlock] at h1)⟩, hidden (HBY.out.trans (HF.out.below HBY.out.size (by intro i hi e; have := HS.out; omega)))⟩
end Go.Proofs.YtphjnahmbdinmaaGreatDoor

/- Layer 6: what holds of a page that is worked on: it is kept by Insert, Set and Remove. -/

namespace Go.Proofs.YtphjnahmbdinmaaGreatDoor
open Go.RowKit

/-- A page as it may stand. -/
structure PgOk (k : Int) (n : Nat) (cs : List Cl) : Prop where
  kd : isKd k
  sz : pw n
  may : ∀ c ∈ cs, mayP k n c
  ris : risL cs
  size : szN cs ≤ n
  wf : ∀ c ∈ cs, c.Wf
set_option maxRecDepth 100000 in
theorem PgOk.nil {k : Int} {n : Nat} (hk : isKd k) (hn : pw n) : PgOk k n [] :=
  ⟨hk, hn, fun c hc => (by simp at hc), fun t ht => (by simp at ht), by have := pw_nat hn; unfold szN; simp; omega, fun c hc => (by simp at hc)⟩
set_option maxRecDepth 100000 in
theorem mem_withL {cs : List Cl} {i j : Nat} {c d : Cl} (h : d ∈ withL cs i j c) : d = c ∨ d ∈ cs := by
  unfold withL at h
  simp only [List.mem_append, List.mem_singleton] at h
  rcases h with (h | h) | h
  · exact .inr (List.mem_of_mem_take h)
  · exact .inl h
  · exact .inr (List.mem_of_mem_drop h)
set_option maxRecDepth 100000 in
theorem putE_zero {k : Int} {n : Nat} {cs : List Cl} {i j : Nat} {c : Cl} (h0 : putE k n cs i j c = 0) : mayP k n c ∧ szN (withL cs i j c) ≤ n := by
  unfold putE at h0
  split at h0
  · simp at h0
  · rename_i h1
    split at h0
    · simp at h0
    · split at h0
      · simp at h0
      · rename_i h3
        exact ⟨Classical.byContradiction h1, by unfold withL; omega⟩
set_option maxRecDepth 100000 in
theorem PgOk.put {k : Int} {n : Nat} {cs : List Cl} {i j : Nat} {c : Cl} (h : PgOk k n cs) (hij : i ≤ j) (hj : j ≤ cs.length) (hc : c.Wf) (h0 : putE k n cs i j c = 0) : PgOk k n (withL cs i j c) := by
  obtain ⟨h1, h2⟩ := putE_zero h0
  refine ⟨h.kd, h.sz, fun d hd => ?_, risL_put h.ris hij hj h0, h2, fun d hd => ?_⟩
  · rcases mem_withL hd with rfl | hd
    · exact h1
    · exact h.may d hd
  · rcases mem_withL hd with rfl | hd
    · exact hc
    · exact h.wf d hd
set_option maxRecDepth 100000 in
theorem PgOk.rem {k : Int} {n : Nat} {cs : List Cl} {i : Nat} (h : PgOk k n cs) (hi : i < cs.length) : PgOk k n (cs.take i ++ cs.drop (i + 1)) := by
  have hm : ∀ d ∈ cs.take i ++ cs.drop (i + 1), d ∈ cs := fun d hd => by
    rcases List.mem_append.1 hd with hd | hd
    · exact List.mem_of_mem_take hd
    · exact List.mem_of_mem_drop hd
  refine ⟨h.kd, h.sz, fun d hd => h.may d (hm d hd), risL_rem kl_trans h.ris hi, ?_, fun d hd => h.wf d (hm d hd)⟩
  have hs : (cs.take i ++ cs.drop (i + 1)).Sublist cs := by
    conv => rhs; rw [← List.take_append_drop i cs]
    exact (List.Sublist.refl _).append (by rw [← List.drop_drop]; exact List.drop_sublist _ _)
  exact Nat.le_trans (szN_sub hs) h.size
set_option maxRecDepth 100000 in
theorem PgOk.len {k : Int} {n : Nat} {cs : List Cl} (h : PgOk k n cs) : cs.length ≤ 65536 := by
  have h1 := szN_eq cs
  have h2 := h.size
  have h3 := pw_nat h.sz
  omega
set_option maxRecDepth 100000 in
theorem PgOk.fit {k : Int} {n : Nat} {cs : List Cl} (h : PgOk k n cs) : ∀ c ∈ cs, c.fit := fun c hc => (h.may c hc).fit (by have := pw_nat h.sz; omega)
set_option maxRecDepth 100000 in
theorem ctk_mem {cs : List Cl} : ∀ c ∈ cs, ctk c ≤ szN cs := by
  intro c hc
  have := szN_sub (List.singleton_sublist.2 hc)
  have e : szN [c] = 8 + ctk c := by unfold szN; simp
  omega
set_option maxRecDepth 100000 in
theorem mayP.short {k p : Int} {c : Cl} (h : mayP k p c) (hp : p ≤ 65536) : c.key.length ≤ 65536 ∧ c.val.length ≤ 65536 := by
  unfold mayP at h
  obtain ⟨h1, h2⟩ := h
  refine ⟨by omega, ?_⟩
  rcases h2 with ⟨_, _, e, _⟩ | ⟨_, _, ⟨_, h3, _⟩ | ⟨_, e, _⟩ | ⟨_, e, _⟩⟩
  · rw [e]; simp
  · omega
  · rw [e]; simp
  · rw [e]; simp
set_option maxRecDepth 100000 in
theorem PgOk.rooms {k : Int} {n : Nat} {cs : List Cl} (h : PgOk k n cs) : ∀ c ∈ cs, c.Wf ∧ c.key.length ≤ 140737488355328 ∧ c.val.length ≤ 140737488355328 := fun c hc => by
  have h1 := (h.may c hc).short (by have := pw_nat h.sz; omega)
  exact ⟨h.wf c hc, by omega, by omega⟩
set_option maxRecDepth 100000 in
theorem PgOk.ok {k : Int} {n : Nat} {cs : List Cl} (h : PgOk k n cs) : DpOk k n cs := ⟨(pw_nat h.sz).1, (pw_nat h.sz).2, by have := h.len; omega, h.ris, h.rooms⟩
set_option maxRecDepth 100000 in
theorem szN_app (a b : List Cl) : szN (a ++ b) + 8 = szN a + szN b := by unfold szN; simp; omega
set_option maxRecDepth 100000 in
theorem PgOk.big {k : Int} {n : Nat} {cs : List Cl} (h : PgOk k n cs) {c : Cl} (hc : mayP k n c) (i j : Nat) : szN (withL cs i j c) ≤ 1099511627776 := by
  have h1 := hc.short (by have := pw_nat h.sz; omega)
  have h2 := h.size
  have h3 := (pw_nat h.sz).2
  have e1 := szN_app (cs.take i ++ [c]) (cs.drop j)
  have e2 := szN_app (cs.take i) [c]
  have e3 : szN [c] = 8 + ctk c := by unfold szN; simp
  have e4 : ctk c ≤ 200000 := by unfold ctk; split <;> omega
  have e5 := szN_sub (List.take_sublist i cs)
  have e6 := szN_sub (List.drop_sublist j cs)
  unfold withL
  omega
set_option maxRecDepth 100000 in
/-- The first fault is none. -/
theorem chk_ok {k p : Int} : ∀ {pr : Option (List Int)} {cs : List Cl}, (∀ c ∈ cs, mayP k p c) → risL cs → (∀ c, cs[0]? = some c → ahead pr c.key) → chk k p pr cs = 0
  | _, [], _, _, _ => rfl
  | pr, c :: r, hm, hr, h0 => by
    unfold chk
    rw [if_pos (hm c (by simp)), if_pos (h0 c rfl)]
    refine chk_ok (fun d hd => hm d (by simp [hd])) (fun t ht => ?_) (fun d hd => ?_)
    · exact hr (t + 1) (by simp; omega)
    · have := hr 0 (by
        have := (List.getElem?_eq_some_iff.1 hd).1
        simp
        omega)
      have e : kyL (c :: r) 1 = d.key := kyL_at (by simpa using hd)
      have e0 : kyL (c :: r) 0 = c.key := kyL_at rfl
      rw [e0] at this
      rw [show (0 : Nat) + 1 = 1 from rfl, e] at this
      exact this
set_option maxRecDepth 100000 in
theorem PgOk.chk {k : Int} {n : Nat} {cs : List Cl} (h : PgOk k n cs) : chk k n none cs = 0 := chk_ok h.may h.ris (fun _ _ => trivial)
set_option maxRecDepth 100000 in
theorem PgOk.enc {k : Int} {n : Nat} {cs : List Cl} (h : PgOk k n cs) : encE k n cs = 0 := by
  unfold encE
  rw [if_pos ⟨h.kd, h.sz⟩, if_pos h.chk, if_neg (by have := h.size; omega)]
end Go.Proofs.YtphjnahmbdinmaaGreatDoor
