/- Layer 6: what the document's Decode has read, against what a page is. -/
import Derived.Test.YtdmpbdppdcaabaaDoorJp
import Derived.Test.YtdmpbdppdcaabaaDoorOd
namespace Go.Proofs.YtdmpbdppdcaabaaDoor
open Go.RowKit

/-- The cells that the slots up to j lead to. -/
def Rdd (l : List Int) (ds : List Cl) (j : Nat) : Prop := ds.length = j ∧ ∀ (t : Nat) (c : Cl), ds[t]? = some c → ∃ r, pCell (l.drop (rdN l (4 + 2 * t) 2).toNat) = some (c, r)
set_option maxRecDepth 100000 in
theorem Rdd.nil (l : List Int) : Rdd l [] 0 := ⟨rfl, fun t c h => by simp at h⟩
set_option maxRecDepth 100000 in
theorem Rdd.step {l : List Int} {ds : List Cl} {j : Nat} {c : Cl} {r : List Int} (h : Rdd l ds j) (hc : pCell (l.drop (rdN l (4 + 2 * j) 2).toNat) = some (c, r)) : Rdd l (ds ++ [c]) (j + 1) := by
  obtain ⟨h1, h2⟩ := h
  refine ⟨by simp [h1], fun t d hd => ?_⟩
  by_cases ht : t < ds.length
  · rw [List.getElem?_append_left ht] at hd
    exact h2 t d hd
  · have htl : t < (ds ++ [c]).length := (List.getElem?_eq_some_iff.1 hd).1
    have htj : t = j := by simp at htl; omega
    subst htj
    rw [List.getElem?_append_right (by omega), h1, Nat.sub_self] at hd
    simp at hd
    subst hd
    exact ⟨r, hc⟩
set_option maxRecDepth 100000 in
/-- Of a page: no slot is refused, and what is read are its cells. -/
theorem Is.goes {k : Int} {n : Nat} {cs : List Cl} {l : List Int} (h : Is k n cs l) {j N : Nat} (hN : rdN l 2 2 = N) (hj : j < N) : 4 + 2 * j + 2 ≤ n ∧ ∃ c r, pCell (l.drop (rdN l (4 + 2 * j) 2).toNat) = some (c, r) := by
  obtain ⟨h1, _, h3⟩ := h.slots
  have hl : j < cs.length := by omega
  obtain ⟨h4, s, hs, _, r, hr⟩ := h3 j cs[j] (List.getElem?_eq_getElem hl)
  refine ⟨h4, cs[j], r, ?_⟩
  rw [hs, Int.toNat_natCast]
  exact hr
set_option maxRecDepth 100000 in
theorem Is.read {k : Int} {n : Nat} {cs ds : List Cl} {l : List Int} (h : Is k n cs l) {N : Nat} (hN : rdN l 2 2 = N) (hd : Rdd l ds N) : ds = cs := by
  obtain ⟨h1, _, h3⟩ := h.slots
  obtain ⟨d1, d2⟩ := hd
  apply List.ext_getElem?
  intro t
  by_cases ht : t < N
  · have a1 : t < ds.length := by omega
    have a2 : t < cs.length := by omega
    obtain ⟨_, s, hs, _, r, hr⟩ := h3 t cs[t] (List.getElem?_eq_getElem a2)
    obtain ⟨r', hr'⟩ := d2 t ds[t] (List.getElem?_eq_getElem a1)
    rw [hs, Int.toNat_natCast, hr] at hr'
    injection hr' with e
    injection e with e1 e2
    rw [List.getElem?_eq_getElem a1, List.getElem?_eq_getElem a2, e1]
  · rw [List.getElem?_eq_none (by omega), List.getElem?_eq_none (by omega)]
set_option maxRecDepth 100000 in
theorem Rdd.wf {l : List Int} {ds : List Cl} {j : Nat} (h : Rdd l ds j) (hw : Wf l) : ∀ c ∈ ds, c.Wf ∧ c.key.length ≤ 140737488355328 ∧ c.val.length ≤ 140737488355328 := by
  intro c hc
  obtain ⟨i, hi, e⟩ := List.getElem_of_mem hc
  obtain ⟨r, hr⟩ := h.2 i c (by rw [List.getElem?_eq_getElem hi, e])
  obtain ⟨_, hf, hcw, _⟩ := pCell_inv (hw.drop _) hr
  have := hf.key
  have := hf.val
  exact ⟨hcw, by omega, by omega⟩
set_option maxRecDepth 100000 in
theorem OwnD.slc {w : World} {B : Nat} {v : Value} {cs : List Cl} (h : OwnD w B v cs) (hw : ∀ c ∈ cs, c.Wf ∧ c.key.length ≤ 140737488355328 ∧ c.val.length ≤ 140737488355328) (hl : cs.length ≤ 200000) : ∃ ao cap, v = .slice ao cs.length cap ∧ SlC w ao cs.length cap cs := by
  obtain ⟨vs, h1, h2⟩ := h
  have hr := R5B.row (fun _ _ _ => trivial) h2 hw
  rcases h1.2 with ⟨rfl, h0⟩ | ⟨g, cap, cur, rfl, hg, hh, hnc, hm, hs, ht⟩
  · rw [h0]
    exact ⟨none, 0, rfl, ⟨h0, Nat.le_refl _, by omega, fun _ => rfl, .inl rfl⟩⟩
  · refine ⟨_, cap, rfl, ⟨rfl, hnc, by omega, (by intro h; cases h), .inr ⟨g, 0, rfl, lt_some hh, ?_⟩⟩⟩
    exact Row5.cat (Below.refl _ _) 0 hr (fun j u hu => by
      have := World.ownsRow.cells h1 (g := g) rfl j u hu
      simpa [Addr.add_lit] using this)
end Go.Proofs.YtdmpbdppdcaabaaDoor

/- Layer 6: the document's Decode. -/

namespace Go.Proofs.YtdmpbdppdcaabaaDoor
open Go.RowKit

/-- What the document's Decode comes to. -/
def RDec (l : List Int) (w : World) (e : Ending) (w' : World) : Prop :=
  ∃ (k : Int) (co : Option Addr) (cn cc : Nat) (c : Int), e = .returned (.tuple #[.int .i64 k, .slice co cn cc, .int .i64 c]) ∧ Hid (Below w.heap.size w w') ∧
    Hid ((c = 60 ∧ k = 0 ∧ co = none ∧ cn = 0 ∧ cc = 0 ∧ ¬ ∃ cs, Is (l.getD 0 0) l.length cs l) ∨ ∃ cs, c = 0 ∧ k = l.getD 0 0 ∧ Is (l.getD 0 0) l.length cs l ∧ SlC w' co cn cc cs)
set_option maxRecDepth 100000 in
theorem RDec.no {l : List Int} {w w' : World} (hb : Below w.heap.size w w') (h : ¬ ∃ cs, Is (l.getD 0 0) l.length cs l) : RDec l w (.returned (.tuple #[.int .i64 0, .slice none 0 0, .int .i64 60])) w' := ⟨0, none, 0, 0, 60, rfl, hidden hb, hidden (.inl ⟨rfl, rfl, rfl, rfl, rfl, h⟩)⟩

set_option maxRecDepth 100000 in
theorem szN_consq (d : Cl) (r : List Cl) : szN (d :: r) = ctk d + szN r := by unfold szN; simp; omega
set_option maxRecDepth 100000 in
theorem szN_mostq : ∀ (ds : List Cl), (∀ c ∈ ds, c.key.length < 65536 ∧ c.val.length < 65536) → szN ds ≤ 8 + 131090 * ds.length
  | [], _ => by simp [szN]
  | c :: r, h => by
    have h1 := szN_mostq r (fun d hd => h d (by simp [hd]))
    have h2 := h c (by simp)
    have h3 : ctk c ≤ 131090 := by unfold ctk; split <;> omega
    rw [szN_consq, List.length_cons]
    omega
set_option maxRecDepth 100000 in
theorem szN_most {l : List Int} {ds : List Cl} {j : Nat} (h : Rdd l ds j) (hw : Wf l) : szN ds ≤ 8 + 131090 * ds.length := szN_mostq ds (fun c hc => by
  obtain ⟨i, hi, e⟩ := List.getElem_of_mem hc
  obtain ⟨r, hr⟩ := h.2 i c (by rw [List.getElem?_eq_getElem hi, e])
  obtain ⟨_, hf, _, _⟩ := pCell_inv (hw.drop _) hr
  exact ⟨hf.key, hf.val⟩)
set_option maxRecDepth 100000 in
set_option maxHeartbeats 8000000 in
theorem rdec6_any (ao : Option Addr) (n cap : Nat) (l : List Int) (w : World) (hs : Sl w ao n cap l) :
    Calls Tryd.prog 24 #[.slice ao n cap] w fun e w' => RDec l w e w' := by
  have HS := hidden hs
  have HLEN := hidden hs.hlen
  have hroom := hs.hroom
  have HIP := hidden (rIsPage6_any (n : Int) w)
  by_cases hpw : pw (n : Int)
  · have hd : decide (pw (n : Int)) = true := decide_eq_true hpw
    rw [hd] at HIP
    have hpl := pw_le hpw
    have hn1 : n ≤ 65536 := by omega
    have hn2 : 512 ≤ n := by omega
    obtain ⟨g, off, rfl, hgl, hcl⟩ : ∃ g off, ao = some ⟨g, off, none⟩ ∧ g < w.heap.size ∧ ∀ i, i < n → w.cell? ⟨g, off + i, none⟩ = some (.int .u8 (l.getD i 0)) := by
      rcases hs.hat with h0 | h0
      · omega
      · exact h0
    have hNb := rdN_bound l hs.wf 2 2
    obtain ⟨N, hN⟩ := Int.eq_ofNat_of_zero_le hNb.1
    have hN6 : (N : Int) < 65536 := by have := hNb.2; rw [hN] at this; simpa using this
    have HN : Hid (rdN l 2 2 = (N : Int)) := hidden hN
    have HNU : Hid (∀ (u : World) (j d : Int), Below w.heap.size w u → 0 ≤ j → j + d ≤ n → (d = 2 ∨ d = 4) → Calls Tryd.prog 48 #[.slice (some ⟨g, off, none⟩) n cap, .int .i64 j, .int .i64 d] u fun e w' => e = .returned (.int .i64 (rdN l j.toNat d.toNat)) ∧ Hid (w' = u)) := hidden (fun u j d hu h0 h1 h2 => (rnumb6_any (some ⟨g, off, none⟩) n cap l j d u (HS.out.on (Nat.le_refl _) hu) h0 h1 h2).mono (fun e w' hh => ⟨hh.1, hidden hh.2⟩))
    have h2 := HNU.out w 2 2 (Below.refl _ _) (by omega) (by omega) (.inl rfl)
    rw [show (2 : Int).toNat = 2 from rfl, hN] at h2
    have H2 := hidden h2
    have HCEL : Hid (∀ u, Below w.heap.size w u → u.cell? ⟨g, off, none⟩ = some (.int .u8 (l.getD 0 0))) := hidden (fun u hu => (hu.cell (p := ⟨g, off, none⟩) hgl).trans (by have := hcl 0 (by omega); simpa using this))
    have hx : 0 ≤ l.getD 0 0 ∧ l.getD 0 0 ≤ 255 := by
      have h := rdN_bound l hs.wf 0 1
      rw [rdN_one l 0 (by rw [HLEN.out]; omega)] at h
      simp at h
      simp
      omega
    have HWF := hidden hs.wf
    obtain ⟨x, hxe⟩ : ∃ x, l.getD 0 0 = x := ⟨_, rfl⟩
    rw [hxe] at hx HCEL
    obtain ⟨hx0, hx1⟩ := hx
    have HXE := hidden hxe
    have HNO : Hid (∀ w', Below w.heap.size w w' → (∀ cs, Is x n cs l → False) → RDec l w (.returned (.tuple #[.int .i64 0, .slice none 0 0, .int .i64 60])) w') := hidden (fun w' hb h => RDec.no hb (by rw [hxe, HLEN.out]; rintro ⟨cs, hc⟩; exact h cs hc))
    clear hs hcl hN hNb h2 hpw hpl hxe hd
    go_enter Tryd.func24, Tryd.ntmps24
    go_wp2_with (first
      | (go_at_call 47; refine same_call HIP.out ?_)
      | (go_at_call 48; refine H2.out.mono ?_; rintro e w1 ⟨rfl, hw1⟩; refine Hid.out ?_))
    apply hidden
    have hww : w = w1 := hw1.out.symm
    subst hww
    clear hw1 H2 HIP
    go_wp2_with fail
    go_loopw [7, 8] (fun v i wr => ∃ (ov : Value) (j : Nat) (ds : List Cl), ov = v ∧ j ≤ N ∧ i = .int .i64 j ∧ Hid (OwnD wr w.heap.size ov ds) ∧ Hid (Rdd l ds j) ∧ Hid (Below w.heap.size w wr)) (fun _ i _ => N - (RowKit.intOf i).toNat)
    case atStart => exact ⟨_, 0, [], rfl, by omega, rfl, hidden (OwnD.nil _ _), hidden (Rdd.nil l), hidden (Below.refl _ _)⟩
    case round =>
      obtain ⟨ov, j, ds, hov, hj, rfl, HO, HR, HB⟩ := hrel
      subst hov
      have bj : (j : Int) ≤ 65536 := by omega
      by_cases hlt : j < N
      · have hltI : (j : Int) < (N : Int) := by omega
        by_cases h4 : n < 4 + 2 * j + 2
        · have h4I : (n : Int) < 4 + 2 * (j : Int) + 2 := by omega
          go_wp2
          go_ret3
          exact HNO.out _ HB.out (fun cs hc => by have := (hc.goes HN.out hlt).1; omega)
        · have h4I : ¬ (n : Int) < 4 + 2 * (j : Int) + 2 := by omega
          have hA := HNU.out wr (4 + 2 * (j : Int)) 2 HB.out (by omega) (by omega) (.inl rfl)
          rw [show (4 + 2 * (j : Int)).toNat = 4 + 2 * j by omega, show (2 : Int).toNat = 2 from rfl] at hA
          have hsb := rdN_bound l HWF.out (4 + 2 * j) 2
          obtain ⟨s, hse⟩ := Int.eq_ofNat_of_zero_le hsb.1
          have hs6 : s ≤ 65536 := by
            have := hsb.2
            rw [hse] at this
            simp at this
            omega
          rw [hse] at hA
          have HSE : Hid (rdN l (4 + 2 * j) 2 = (s : Int)) := hidden hse
          have HA := hidden hA
          have HCA := hidden (cellAt_any (some ⟨g, off, none⟩) n cap l s wr (HS.out.on (Nat.le_refl _) HB.out) hs6)
          clear hA hsb hse
          go_wp2_with (first | (go_at_call 48; refine HA.out.mono ?_; rintro e w2 ⟨rfl, hw2⟩; refine Hid.out ?_))
          apply hidden
          have hww : wr = w2 := hw2.out.symm
          subst hww
          clear hw2 HA
          go_wp2_with (first | (go_at_call 49; refine HCA.out.mono ?_; rintro e w3 ⟨ko, kn, kc, kd, vo, vn, vc, pg, ct, ok, rfl, HBc, HQ⟩; refine Hid.out ?_))
          apply hidden
          clear HCA
          have HB3 : Hid (Below w.heap.size w w3) := hidden (bl_go HB.out (Nat.le_refl _) HBc.out)
          cases ok with
          | false =>
            have HNC : Hid (pCell (l.drop s) = none) := hidden (by
              rcases HQ.out with h | h
              · exact h.2
              · cases h.1)
            clear HQ
            go_wp2
            go_ret3
            exact HNO.out _ (bl_al HB3.out (Nat.le_refl _) _) (fun cs hc => by
              obtain ⟨_, c, r, hr⟩ := hc.goes HN.out hlt
              rw [HSE.out, Int.toNat_natCast, HNC.out] at hr
              cases hr)
          | true =>
            obtain ⟨key, val, r, hpc, ho1, ho2⟩ : ∃ key val r, pCell (l.drop s) = some (⟨key, kd, val, pg, ct⟩, r) ∧ OwnB w3 wr.heap.size (.slice ko kn kc) key ∧ OwnB w3 wr.heap.size (.slice vo vn vc) val := by
              rcases HQ.out with h | h
              · cases h.1
              · exact h.2
            have hkn : kn = key.length := by
              obtain ⟨a, c, e⟩ := own_slice6 ho1
              injection e
            have hvn : vn = val.length := by
              obtain ⟨a, c, e⟩ := own_slice6 ho2
              injection e
            have HRO : Hid (R5B w3 w.heap.size [.slice ko kn kc, .int .i64 kd, .slice vo vn vc, .int .i64 pg, .int .i64 ct] [⟨key, kd, val, pg, ct⟩]) := hidden ⟨ko, kc, vo, vc, [], by simp only [hkn, hvn], by rw [hkn] at ho1; exact ho1.low HB.out.size, by rw [hvn] at ho2; exact ho2.low HB.out.size, rfl⟩
            have HR3 : Hid (Rdd l (ds ++ [⟨key, kd, val, pg, ct⟩]) (j + 1)) := hidden (HR.out.step (r := r) (by rw [HSE.out, Int.toNat_natCast]; exact hpc))
            have HBN : Hid (ds.length + 1 ≤ 200000) := hidden (by rw [HR.out.1]; omega)
            obtain ⟨y1, hy1⟩ : ∃ y, w3.alloc (.cells #[.slice ko kn kc, .int .i64 kd, .slice vo vn vc, .int .i64 pg, .int .i64 ct] 44) = y := ⟨_, rfl⟩
            have hz1 : y1.heap.size = w3.heap.size + 1 := by rw [← hy1]; simp
            have hb1 : Below w3.heap.size w3 y1 := by rw [← hy1]; exact bl_al (Below.refl _ _) (Nat.le_refl _) _
            have hc1 : C5 y1 w3.heap.size (.slice ko kn kc) (.int .i64 kd) (.slice vo vn vc) (.int .i64 pg) (.int .i64 ct) := by rw [← hy1]; exact C5.box w3 _ _ _ _ _
            obtain ⟨y2, hy2⟩ : ∃ y, y1.alloc (.cells #[.slice ko kn kc, .int .i64 kd, .slice vo vn vc, .int .i64 pg, .int .i64 ct] 44) = y := ⟨_, rfl⟩
            have hb2 : Below y1.heap.size y1 y2 := by rw [← hy2]; exact bl_al (Below.refl _ _) (Nat.le_refl _) _
            have hb12 : Below w3.heap.size w3 y2 := bl_go hb1 (Nat.le_refl _) hb2
            have HOY : Hid (OwnD y2 w.heap.size ov ds) := hidden ((HO.out.on HBc.out).on hb12)
            have HRY : Hid (R5B y2 w.heap.size [.slice ko kn kc, .int .i64 kd, .slice vo vn vc, .int .i64 pg, .int .i64 ct] [⟨key, kd, val, pg, ct⟩]) := hidden (HRO.out.keep (fun v l h => h.on (Nat.le_refl _) hb12))
            have HBY : Hid (Below w.heap.size w y2) := hidden (bl_go HB3.out (Nat.le_refl _) hb12)
            have HXY : Hid (∀ i u, ([.slice ko kn kc, .int .i64 kd, .slice vo vn vc, .int .i64 pg, .int .i64 ct] : List Value)[i]? = some u → y2.cell? ⟨w3.heap.size + 1, 0 + i, none⟩ = some u) := hidden (by
              obtain ⟨f0, f1, f2, f3, f4⟩ := (C5.box y1 (.slice ko kn kc) (.int .i64 kd) (.slice vo vn vc) (.int .i64 pg) (.int .i64 ct)).cells
              rw [hy2, hz1] at f0 f1 f2 f3 f4
              intro i u hu
              have hj5 : i < 5 := (List.getElem?_eq_some_iff.1 hu).1
              have hj' : i = 0 ∨ i = 1 ∨ i = 2 ∨ i = 3 ∨ i = 4 := by omega
              rcases hj' with rfl | rfl | rfl | rfl | rfl <;> (simp only [List.getElem?_cons_zero, List.getElem?_cons_succ, Option.some.injEq] at hu; subst hu; assumption))
            obtain ⟨c0, c1, c2, c3, c4⟩ := hc1.cells
            clear HQ hpc ho1 ho2 hkn hvn hb1 hb2 hb12 HRO HO HR hc1
            go_wp2_with (at_builtin; refine app_cd _ rfl _ _ rfl w.heap.size ds ⟨key, kd, val, pg, ct⟩ ov (w3.heap.size + 1) _ rfl rfl HOY.out HRY.out HXY.out HBN.out HBY.out.size ?_; intro v2 u2 HO2 HBU2; refine Hid.out ?_)
            apply hidden
            have HBU : Hid (Below w.heap.size w u2) := hidden (HBY.out.trans HBU2.out)
            clear HOY HBY HXY HRY hy1 hy2 hz1 c0 c1 c2 c3 c4 HBU2
            go_wp2
            go_roundw
            case rel => exact ⟨_, j + 1, _, rfl, by omega, by go_num, HO2, HR3, HBU⟩
            case measure => simp [RowKit.intOf]; omega
      · obtain rfl : j = N := by omega
        have hltI : ¬ (j : Int) < (j : Int) := by omega
        have HWD := hidden (HR.out.wf HWF.out)
        have HFT : Hid (szN ds ≤ 1099511627776) := hidden (by have := szN_most HR.out HWF.out; rw [HR.out.1] at this; omega)
        obtain ⟨co, cc, hv, hsl⟩ := HO.out.slc HWD.out (by rw [HR.out.1]; omega)
        subst hv
        have hdl := HR.out.1
        obtain ⟨dn, hdn⟩ : ∃ dn, ds.length = dn := ⟨_, rfl⟩
        rw [hdn] at hsl ⊢
        have hd9 : dn ≤ 900000 := by omega
        have HSL := hidden hsl
        have b0 := HCEL.out wr HB.out
        have hn0 : (0 : Int) < (n : Int) := by omega
        have HSAME : Hid (∀ cs, Is x n cs l → ds = cs) := hidden (fun cs hc => hc.read HN.out HR.out)
        have hEnc := Classical.em (encE x n ds = 0)
        rcases hEnc with he | he
        · have HE := hidden (rencode6_yes x n co dn cc ds wr hsl hd9 he)
          have HHE := hidden he
          have HPW : Hid (Wf (pgB x n ds)) := hidden (pgB_wf ⟨hx0, hx1⟩ (fun c hc => (HWD.out c hc).1))
          have HPL : Hid ((pgB x n ds).length ≤ 65536) := hidden (by
            by_cases hz : szN ds ≤ n
            · rw [pgB_length _ _ _ hz]; exact hn1
            · unfold encE at he
              exfalso
              split at he
              · split at he
                · split at he
                  · cases he
                  · rename_i h; omega
                · rename_i h; exact h he
              · cases he)
          clear hsl hdl hdn he HO
          go_wp2_with (first | (go_at_call 50; refine HE.out.mono ?_; rintro e w3 ⟨v, rfl, HP, HBc⟩; refine Hid.out ?_))
          apply hidden
          obtain ⟨P, hP⟩ : ∃ P, pgB x n ds = P := ⟨_, rfl⟩
          rw [hP] at HP HPW HPL
          have HPE := hidden hP
          obtain ⟨po, pc, hv⟩ := own_slice6 HP.out
          subst hv
          obtain ⟨pn, hpn⟩ : ∃ pn, P.length = pn := ⟨_, rfl⟩
          rw [hpn] at HP ⊢
          have hsp : Sl w3 po pn pc P := own_sl6 HP.out HPW.out (by have := HPL.out; omega)
          have HB3 : Hid (Below w.heap.size w w3) := hidden (bl_go HB.out (Nat.le_refl _) HBc.out)
          have hsb := HS.out.on (Nat.le_refl _) HB3.out
          have k1 := conv_sl hsp
          have k2 := conv_sl hsb
          have hse := str_beq hsp.wf hsb.wf
          have b1 := HCEL.out w3 HB3.out
          have HSL3 := hidden (HSL.out.on HBc.out)
          clear hP hpn hsp hsb b0 HE
          by_cases heq : P = l
          · have hse2 : ((strOfNums P).toList == (strOfNums l).toList) = true := by rw [hse]; simpa using heq
            have HIS : Hid (Is x n ds l) := hidden (enc_is6 HHE.out (HPE.out.trans heq))
            clear hse heq
            go_wp2
            go_ret3
            exact ⟨x, co, dn, cc, 0, rfl, HB3, hidden (.inr ⟨ds, rfl, HXE.out.symm, by rw [HXE.out, HLEN.out]; exact HIS.out, HSL3.out⟩)⟩
          · have hse2 : ((strOfNums P).toList == (strOfNums l).toList) = false := by rw [hse]; simpa using heq
            have HNE := hidden heq
            clear hse heq
            go_wp2
            go_ret3
            exact HNO.out _ HB3.out (fun cs hc => by
              have e := HSAME.out cs hc
              subst e
              exact HNE.out (HPE.out.symm.trans hc.eq))
        · have HE := hidden (rencode6_no x n co dn cc ds wr hsl hd9 HFT.out he)
          unfold RNo6 at HE
          have HHE := hidden he
          obtain ⟨E, hEE⟩ : ∃ E, encE x n ds = E := ⟨_, rfl⟩
          rw [hEE] at HE he
          clear hsl hdl hdn hEE HO
          go_wp2_with (first | (go_at_call 50; refine HE.out.mono ?_; rintro e w3 ⟨rfl, HBc⟩; refine Hid.out ?_))
          apply hidden
          have HB3 : Hid (Below w.heap.size w w3) := hidden (bl_go HB.out (Nat.le_refl _) HBc.out)
          clear b0 HE
          go_wp2
          go_ret3
          exact HNO.out _ HB3.out (fun cs hc => by
            have e := HSAME.out cs hc
            subst e
            exact HHE.out hc.enc6)
  · have hd : decide (pw (n : Int)) = false := decide_eq_false hpw
    rw [hd] at HIP
    have HNI : Hid (¬ ∃ cs, Is (l.getD 0 0) l.length cs l) := hidden (by rintro ⟨cs, hc⟩; have := hc.sz; rw [HLEN.out] at this; exact hpw this)
    clear hs hpw hd
    go_enter Tryd.func24, Tryd.ntmps24
    go_wp2_with (first | (go_at_call 47; refine same_call HIP.out ?_))
    go_ret3
    exact RDec.no (Below.refl _ _) HNI.out
end Go.Proofs.YtdmpbdppdcaabaaDoor

/- Layer 6: the law's told: what Decode tells is what the document tells. -/

namespace Go.Proofs.YtdmpbdppdcaabaaDoor
open Go.RowKit

/-- What Decode told of the bytes l, as it stands in the world w. -/
def Tld (l : List Int) (w : World) (k : Int) (co : Option Addr) (cn cc : Nat) (c : Int) : Prop :=
  (c = 60 ∧ k = 0 ∧ co = none ∧ cn = 0 ∧ cc = 0 ∧ ¬ ∃ cs, Is (l.getD 0 0) l.length cs l) ∨ ∃ cs, c = 0 ∧ k = l.getD 0 0 ∧ Is (l.getD 0 0) l.length cs l ∧ SlC w co cn cc cs
set_option maxRecDepth 100000 in
theorem Tld.on {l : List Int} {w w' : World} {k : Int} {co : Option Addr} {cn cc : Nat} {c : Int} (h : Tld l w k co cn cc c) (hb : Below w.heap.size w w') : Tld l w' k co cn cc c := by
  rcases h with h | ⟨cs, h1, h2, h3, h4⟩
  · exact .inl h
  · exact .inr ⟨cs, h1, h2, h3, h4.on hb⟩
set_option maxRecDepth 100000 in
theorem Tld.both {l : List Int} {w : World} {k k' : Int} {co co' : Option Addr} {cn cc cn' cc' : Nat} {c c' : Int} (h : Tld l w k co cn cc c) (h' : Tld l w k' co' cn' cc' c') : k' = k ∧ c' = c ∧ cn' = cn ∧ ∃ cs, SlC w co cn cc cs ∧ SlC w co' cn cc' cs := by
  have hnil : SlC w none 0 0 [] := ⟨rfl, Nat.le_refl _, by omega, fun _ => rfl, .inl rfl⟩
  rcases h with ⟨rfl, rfl, rfl, rfl, rfl, h6⟩ | ⟨cs, rfl, rfl, h3, h4⟩
  · rcases h' with ⟨rfl, rfl, rfl, rfl, rfl, g6⟩ | ⟨ds, rfl, rfl, g3, g4⟩
    · exact ⟨rfl, rfl, rfl, [], hnil, hnil⟩
    · exact absurd ⟨ds, g3⟩ h6
  · rcases h' with ⟨rfl, rfl, rfl, rfl, rfl, g6⟩ | ⟨ds, rfl, rfl, g3, g4⟩
    · exact absurd ⟨cs, h3⟩ g6
    · obtain ⟨_, _, rfl⟩ := h3.one g3
      have e : cn' = cn := by rw [← g4.hlen, ← h4.hlen]
      subst e
      exact ⟨rfl, rfl, rfl, cs, h4, g4⟩

set_option maxRecDepth 100000 in
set_option maxHeartbeats 1000000 in
theorem told6_any (k : Int) (co : Option Addr) (cn cc : Nat) (c : Int) (ao : Option Addr) (n cap : Nat) (l : List Int) (w : World) (hs : Sl w ao n cap l) (ht : Tld l w k co cn cc c) :
    Calls Tryd.prog 8 #[.int .i64 k, .slice co cn cc, .int .i64 c, .slice ao n cap] w fun e w' => e = .returned (.bool true) ∧ Hid (Below w.heap.size w w') := by
  have HD := hidden (rdec6_any ao n cap l w hs)
  have HT := hidden ht
  clear hs ht
  go_enter Tryd.func8, Tryd.ntmps8
  go_wp2_with (first | (go_at_call 24; refine HD.out.mono ?_; rintro e w1 ⟨k', co', cn', cc', c', rfl, HB, HQ⟩; refine Hid.out ?_))
  apply hidden
  have hQ : Tld l w1 k' co' cn' cc' c' := HQ.out
  obtain ⟨ek, ec, en, cs, h1, h2⟩ := (HT.out.on HB.out).both hQ
  subst ek
  subst ec
  subst en
  have HSC := hidden (sameCells_self co co' cn' cc cc' cs w1 h1 h2)
  have e1 : (k' == k') = true := by simp
  have e2 : (c' == c') = true := by simp
  clear HD HT HQ hQ h1 h2
  go_wp2_with (first | (go_at_call 25; refine HSC.out.mono ?_; rintro e w2 ⟨rfl, hb2⟩; refine Hid.out ?_))
  apply hidden
  go_wp2
  go_ret
  exact ⟨rfl, hidden (bl_go HB.out (Nat.le_refl _) (by first | exact hb2 | exact hb2.out))⟩
end Go.Proofs.YtdmpbdppdcaabaaDoor

/- espalierref03's Lent and AsLent. -/

namespace Go.Proofs.YtdmpbdppdcaabaaDoor
open Go.RowKit

set_option maxRecDepth 100000 in
theorem cell9 {w : World} {a i : Nat} {cs : List Value} {t : TypeId} (h : w.heap[a]? = some (.cells cs.toArray t (0, 0))) : w.cell? ⟨a, i, none⟩ = cs[i]? := by simp [World.cell?, h]
set_option maxRecDepth 100000 in
theorem free9 {w : World} {a i : Nat} {cs : List Value} {t : TypeId} (h : w.heap[a]? = some (.cells cs.toArray t (0, 0))) : w.frozen? ⟨a, i, none⟩ = false := by simp [World.frozen?, h]
set_option maxRecDepth 100000 in
theorem getD_By (l : List Int) (n : Nat) (h : n < l.length) : (By l)[n]? = some (.int .u8 (l.getD n 0)) := by
  simp [By, List.getD, List.getElem?_eq_getElem h]
set_option maxRecDepth 100000 in
theorem made_row {w : World} {e n g : Nat} {z : Value} (h : w.ownsRow 0 e 1 (.slice (some ⟨g, 0, none⟩) n n) n (madeCells #[z] n).toList) : w.heap[g]? = some (.cells (List.replicate n z).toArray e (0, 0)) := by
  rcases h.2 with ⟨h, _⟩ | ⟨g, c, cur, h, _, hh, _, _, hs, ht⟩
  · cases h
  · cases h
    rw [hh]
    congr 2
    apply Array.toList_inj.1
    rw [toList_madeCells_one] at ht
    simp only [Nat.mul_one] at hs ht
    rw [List.take_of_length_le (by simp [hs])] at ht
    simpa using ht

set_option maxRecDepth 100000 in
theorem By_set (l : List Int) (k : Nat) (x : Int) : (By l).set k (.int .u8 x) = By (l.set k x) := by simp [By, List.map_set]
/-- The marks behind what is lent. -/
def mks : Nat → List Int
  | 0 => []
  | k + 1 => mks k ++ [200 + (k : Int)]
set_option maxRecDepth 100000 in
theorem mks_len : ∀ k, (mks k).length = k
  | 0 => rfl
  | k + 1 => by simp [mks, mks_len k]
set_option maxRecDepth 100000 in
theorem mks_get : ∀ k i, i < k → (mks k).getD i 0 = 200 + (i : Int)
  | 0, i, h => by omega
  | k + 1, i, h => by
    simp only [mks, List.getD]
    by_cases e : i < k
    · rw [List.getElem?_append_left (by rw [mks_len]; exact e)]
      exact mks_get k i e
    · obtain rfl : i = k := by omega
      rw [List.getElem?_append_right (by rw [mks_len]; exact Nat.le_refl _), mks_len]
      simp
set_option maxRecDepth 100000 in
theorem mks_wf : Wf (mks 9) := by unfold Wf mks; decide
set_option maxRecDepth 100000 in
theorem mks_step (l : List Int) (n k : Nat) (hl : l.length = n) (hk : k < 9) : (l ++ (mks k ++ List.replicate (9 - k) 0)).set (n + k) (200 + (k : Int)) = l ++ (mks (k + 1) ++ List.replicate (9 - (k + 1)) 0) := by
  rw [List.set_append_right _ _ (by omega), show n + k - l.length = k by omega, List.set_append_right _ _ (by rw [mks_len]; exact Nat.le_refl _), mks_len, Nat.sub_self, show 9 - k = (9 - (k + 1)) + 1 by omega, List.replicate_succ]
  simp [mks]
set_option maxRecDepth 100000 in
theorem wrapu8 (x : Int) (h : 0 ≤ x) (h2 : x ≤ 255) : IntKind.u8.wrap x = x := by
  unfold IntKind.wrap
  simp [IntKind.bits, IntKind.signed]
  omega

set_option maxRecDepth 100000 in
set_option maxHeartbeats 1000000 in
theorem Lent_any (ao : Option Addr) (n cap : Nat) (l : List Int) (w : World) (hs : Sl w ao n cap l) :
    Calls Tryd.prog 5 #[.slice ao n cap] w fun e w' => e = .returned (.slice (some ⟨w.heap.size, 0, none⟩) n (n + 9)) ∧ w'.heap[w.heap.size]? = some (.cells (By (l ++ mks 9)).toArray 5 (0, 0)) ∧ Below w.heap.size w w' := by
  obtain ⟨i0, hi, hz0, hz1, hz2⟩ := info_parts info5
  have hsz : (Tryd.prog.info? 5).map (·.size) = some 1 := by rw [hi]; simp [hz1]
  have hroom := hs.hroom
  have hlen := hs.hlen
  have HS := hidden hs
  have HLEN := hidden hlen
  clear hs hlen
  go_enter Tryd.func5, Tryd.ntmps5
  go_wp2_with (at_make; refine wpList_make_full _ rfl _ _ 22 rfl 0 5 i0 (.int .u8 0) 1 Tryd.underlying22 hi hz0 hz1 .i64 .i64 (n + 9) (n + 9) (n + 9) rfl rfl rfl rfl (by rw [hz2]; omega) (by unfold maxLen; omega) (Nat.zero_le _) ?_)
  intro w1 hown1 hg1
  have HR1 := hidden (made_row hown1)
  have HB1 : Hid (Below w.heap.size w w1) := hidden ((Below.refl _ _).grown hg1 (Nat.le_refl _) (fun k hk => by cases hk))
  clear hown1 hg1 hi hz0 hz1 hz2
  have HP : Hid (0 < (By l).length → some (⟨w.heap.size, 0, none⟩ : Addr) = some ⟨w.heap.size, 0, none⟩ ∧ ∃ ad, ao = some ad ∧ ∀ j v, (By l)[j]? = some v → w1.cell? (ad.add j) = some v) := by
    refine hidden fun h => ?_
    rw [By_length] at h
    rcases HS.out.hat with h0 | ⟨b, off, rfl, hbb, hc⟩
    · rw [HLEN.out] at h; omega
    · refine ⟨rfl, _, rfl, fun j v hv => ?_⟩
      obtain ⟨h1, rfl⟩ := getElem?_By l j v hv
      rw [Addr.add_lit]
      exact (HB1.out.cell (p := ⟨b, off + j, none⟩) hbb).trans (hc j (by rw [← HLEN.out]; exact h1))
  obtain ⟨cur, hcur⟩ : ∃ cur, List.replicate (n + 9) (Value.int .u8 0) = cur := ⟨_, rfl⟩
  rw [hcur] at HR1
  have HCL : Hid (cur.length = n + 9) := hidden (by rw [← hcur]; simp)
  have HCUR := hidden hcur
  clear hcur
  go_wp2_with (refine wpList_copy_splice rfl _ _ 22 22 rfl 5 Tryd.underlying22 hsz _ _ (n + 9) (n + 9) n cap rfl rfl w.heap.size 0 cur 5 HR1.out (By l) (by rw [By_length, HLEN.out]; exact (Nat.min_eq_left (by omega)).symm) HP.out (by rw [By_length, HLEN.out, HCL.out]; omega) (By_one l) w.heap.size w HB1.out (Nat.le_refl _) ?_)
  intro w2 hh hb2
  have HR2 : Hid (w2.heap[w.heap.size]? = some (.cells (By (l ++ (mks 0 ++ List.replicate (9 - 0) 0))).toArray 5 (0, 0))) := hidden (by
    rw [hh.out, ← HCUR.out]
    simp only [splice, By_length, HLEN.out, List.take_zero, List.nil_append, Nat.zero_add, By_append, List.drop_replicate, show n + 9 - n = 9 by omega]
    rfl)
  have HB2 := hidden hb2
  clear hh hb2 HP HCUR HCL HR1 HB1 HS
  go_wp2_with fail
  go_loopw [4] (fun i wr => ∃ k : Nat, k ≤ 9 ∧ i = .int .i64 ((n : Int) + k) ∧ Hid (wr.heap[w.heap.size]? = some (.cells (By (l ++ (mks k ++ List.replicate (9 - k) 0))).toArray 5 (0, 0))) ∧ Hid (Below w.heap.size w wr)) (fun i _ => n + 9 - (RowKit.intOf i).toNat)
  case atStart => exact ⟨0, by omega, by simp, HR2, HB2⟩
  case round =>
    obtain ⟨k, hk, rfl, HR, HB⟩ := hrel
    by_cases hlt : k < 9
    · have hlt' : (n : Int) + (k : Int) < (n : Int) + 9 := by omega
      have hw8 : IntKind.u8.wrap (200 + ((n : Int) + (k : Int)) - (n : Int)) = 200 + (k : Int) := by rw [show 200 + ((n : Int) + (k : Int)) - (n : Int) = 200 + (k : Int) by omega]; exact wrapu8 _ (by omega) (by omega)
      have f := free9 (i := n + k) HR.out
      obtain ⟨y, cy⟩ : ∃ y, wr.cell? ⟨w.heap.size, n + k, none⟩ = some y := ⟨_, (cell9 HR.out).trans (getD_By _ _ (by simp [HLEN.out, mks_len]; omega))⟩
      go_wp2
      go_roundw
      case rel =>
        refine ⟨k + 1, by omega, by go_num, hidden ?_, hidden (HB.out.setCell (by show w.heap.size ≤ w.heap.size; omega) _)⟩
        rw [set_row HR.out, By_set, mks_step l n k HLEN.out hlt]
      case measure => simp [RowKit.intOf]; omega
    · have hge : ¬ ((n : Int) + (k : Int) < (n : Int) + 9) := by omega
      obtain rfl : k = 9 := by omega
      go_wp2
      go_ret
      exact ⟨rfl, by simpa using HR.out, HB.out⟩
set_option maxRecDepth 100000 in
theorem ow_step (X : List Int) (k : Nat) (c : Int) (h : k < X.length) : (List.replicate k c ++ X.drop k).set k c = List.replicate (k + 1) c ++ X.drop (k + 1) := by
  rw [List.set_append_right _ _ (by simp), List.length_replicate, Nat.sub_self, List.drop_eq_getElem_cons h, List.set_cons_zero, List.replicate_succ', List.append_assoc]
  rfl
set_option maxRecDepth 100000 in
theorem ow_get (X : List Int) (k : Nat) (c : Int) : (List.replicate k c ++ X.drop k).getD k 0 = X.getD k 0 := by
  simp only [List.getD]
  rw [List.getElem?_append_right (by simp), List.length_replicate, Nat.sub_self, List.getElem?_drop, Nat.add_zero]
set_option maxRecDepth 100000 in
theorem ow_len (X : List Int) (k : Nat) (c : Int) (h : k ≤ X.length) : (List.replicate k c ++ X.drop k).length = X.length := by simp; omega

set_option maxRecDepth 100000 in
set_option maxHeartbeats 1000000 in
theorem AsLent_any (g n : Nat) (bo : Option Addr) (d : Nat) (l : List Int) (w : World) (hr : w.heap[g]? = some (.cells (By (l ++ mks 9)).toArray 5 (0, 0))) (hb : Sl w bo n d l) :
    Calls Tryd.prog 9 #[.slice (some ⟨g, 0, none⟩) n (n + 9), .slice bo n d] w fun e w' => e = .returned (.bool true) ∧ Cf (fun k => k = g) w w' := by
  have hlen := hb.hlen
  have hroom := hb.hroom
  have hsl : Sl w (some ⟨g, 0, none⟩) n (n + 9) l := ⟨hlen, by omega, hroom, hb.wf, (by intro h; cases h), .inr ⟨g, 0, rfl, lt_some hr, fun i hi => by
    rw [Nat.zero_add, cell9 hr, getD_By _ _ (by rw [List.length_append]; omega)]
    simp only [List.getD]
    rw [List.getElem?_append_left (by omega)]⟩⟩
  have k1 := conv_sl hsl
  have k2 := conv_sl hb
  obtain ⟨S, hS⟩ : ∃ S, strOfNums l = S := ⟨_, rfl⟩
  rw [hS] at k1 k2
  have eS : (S.toList == S.toList) = true := by simp
  obtain ⟨X, hX⟩ : ∃ X, l ++ mks 9 = X := ⟨_, rfl⟩
  have HXL : Hid (X.length = n + 9) := hidden (by rw [← hX, List.length_append, mks_len, hlen])
  have HXG : Hid (∀ j, j < 9 → X.getD (n + j) 0 = 200 + (j : Int)) := hidden fun j hj => by
    rw [← hX]
    have := mks_get 9 j hj
    simp only [List.getD] at this ⊢
    rw [List.getElem?_append_right (by omega), show n + j - l.length = j by omega]
    exact this
  rw [hX] at hr
  have HR := hidden hr
  clear hr hb hsl hS hX hlen
  go_enter Tryd.func9, Tryd.ntmps9
  go_wp2_with fail
  clear k1 k2 eS
  go_loopw [6, 7] (fun t i wr => ∃ k : Nat, k ≤ n + 9 ∧ t = .bool true ∧ i = .int .i64 k ∧ Hid (Cf (fun j => j = g) w wr) ∧ Hid (wr.heap[g]? = some (.cells (By (List.replicate k 77 ++ X.drop k)).toArray 5 (0, 0)))) (fun _ i _ => n + 9 - (RowKit.intOf i).toNat)
  case atStart => exact ⟨0, by omega, rfl, rfl, hidden (Cf.refl _ _), HR⟩
  case round =>
    obtain ⟨k, hk, rfl, rfl, HB, HW⟩ := hrel
    by_cases hlt : k < n + 9
    · have hlt' : (k : Int) < (n : Int) + 9 := by omega
      have f := free9 (i := k) HW.out
      have hcell : wr.cell? ⟨g, k, none⟩ = some (.int .u8 (X.getD k 0)) := (cell9 HW.out).trans ((getD_By _ _ (by rw [ow_len _ _ _ (by rw [HXL.out]; omega), HXL.out]; exact hlt)).trans (by rw [ow_get]))
      by_cases hkn : k < n
      · have hd : decide ((n : Int) ≤ (k : Int)) = false := by simpa using hkn
        have hd' : ¬ ((n : Int) ≤ (k : Int)) := by omega
        go_wp2
        go_roundw
        case rel =>
          refine ⟨k + 1, by omega, rfl, by go_num, hidden (HB.out.go (Cf.setCell (F := fun j => j = g) wr rfl _)), hidden ?_⟩
          rw [set_row HW.out, By_set, ow_step _ _ _ (by rw [HXL.out]; exact hlt)]
        case measure => simp [RowKit.intOf]; omega
      · obtain ⟨j, rfl⟩ : ∃ j, k = n + j := ⟨k - n, by omega⟩
        rw [HXG.out j (by omega)] at hcell
        have hnk : (n : Int) ≤ ((n + j : Nat) : Int) := by omega
        have hw8 : IntKind.u8.wrap (200 + ((n + j : Nat) : Int) - (n : Int)) = 200 + (j : Int) := by rw [show 200 + ((n + j : Nat) : Int) - (n : Int) = 200 + (j : Int) by omega]; exact wrapu8 _ (by omega) (by omega)
        go_wp2
        go_roundw
        case rel =>
          refine ⟨n + j + 1, by omega, rfl, by go_num, hidden (HB.out.go (Cf.setCell (F := fun j => j = g) wr rfl _)), hidden ?_⟩
          rw [set_row HW.out, By_set, ow_step _ _ _ (by rw [HXL.out]; exact hlt)]
        case measure => simp [RowKit.intOf]; omega
    · have hge : ¬ ((k : Int) < (n : Int) + 9) := by omega
      go_wp2
      go_ret
      exact ⟨rfl, HB.out⟩
end Go.Proofs.YtdmpbdppdcaabaaDoor
