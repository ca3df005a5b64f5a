/- The walk of the law PlainThree. -/
import Derived.Test.YtddjepdgigeelabDoorGg
namespace Go.Proofs.YtddjepdgigeelabDoor
open Go.RowKit

set_option maxRecDepth 100000 in
/-- A piece of a slice of cells. -/
theorem SlC.piece {w : World} {b off n cap : Nat} {cs : List Cl} (h : SlC w (some ⟨b, off, none⟩) n cap cs) (i k c : Nat) (hk : i + k ≤ n) (hc : k ≤ c) : SlC w (some ⟨b, off + i * 5, none⟩) k c ((cs.drop i).take k) := by
  have hl := h.hlen
  refine ⟨by rw [List.length_take, List.length_drop]; omega, hc, by have := h.hroom; omega, (by intro h; cases h), ?_⟩
  rcases h.hat with h0 | ⟨b', off', e, hb, hcs⟩
  · exact .inl (by omega)
  · injection e with e
    injection e with e1 e2
    subst e1 e2
    refine .inr ⟨b, off + i * 5, rfl, hb, fun j c hj => ?_⟩
    have hjl := (List.getElem?_eq_some_iff.1 hj).1
    rw [List.length_take, List.length_drop] at hjl
    rw [List.getElem?_take_of_lt (by omega), List.getElem?_drop] at hj
    have := hcs (i + j) c hj
    rwa [show off + (i + j) * 5 = off + i * 5 + j * 5 by omega] at this
set_option maxRecDepth 100000 in
/-- What a slice of cells is made of. -/
theorem SlC.src {w0 : World} {b off n cap : Nat} {cs : List Cl} (h : SlC w0 (some ⟨b, off, none⟩) n cap cs) {w : World} (hb : Below w0.heap.size w0 w) : ∃ us, Row5 w0 us cs ∧ ∀ j u, us[j]? = some u → w.cell? ⟨b, off + j, none⟩ = some u := by
  rcases h.hat with h0 | ⟨b', off', e, hlt, hcs⟩
  · obtain rfl : cs = [] := List.eq_nil_of_length_eq_zero (by rw [h.hlen, h0])
    exact ⟨[], rfl, fun j u hu => by simp at hu⟩
  · injection e with e
    injection e with e1 e2
    subst e1 e2
    obtain ⟨us, h1, h2⟩ := row5_of cs off hcs
    exact ⟨us, h1, fun j u hu => (hb.cell (p := ⟨b, off + j, none⟩) hlt).trans (h2 j u hu)⟩

set_option maxRecDepth 100000 in
theorem szN_one : ∀ {cs : List Cl} {c : Cl}, c ∈ cs → szN [c] ≤ szN cs
  | [], c, h => by cases h
  | d :: r, c, h => by
    have key : szN (d :: r) = ctk d + szN r := by unfold szN; simp; omega
    rcases List.mem_cons.1 h with rfl | h
    · have : szN [c] = 8 + ctk c := by unfold szN; simp
      have h2 : 8 ≤ szN r := by unfold szN; omega
      omega
    · have := szN_one h
      omega

set_option maxRecDepth 100000 in
set_option maxHeartbeats 4000000 in
theorem walk_PlainThree (kd : Int) (co : Option Addr) (cn cc : Nat) (cs : List Cl) (pg : Int) (w : World) (ht : Tab w) (h0 : 1 < w.heap.size) (hs : SlC w co cn cc cs) :
    Calls Tryd.prog 3 #[.int .i64 kd, .slice co cn cc, .int .i64 pg] w fun e w' => e = .returned (.bool true) ∧ Below w.heap.size w w' := by
  have HS := hidden hs
  have HT := hidden ht
  have HAW := hidden (awake_any w ht h0)
  clear hs ht
  go_enter Tryd.func3, Tryd.ntmps3
  go_wp2_with (first | (go_at_call 4; refine HAW.out.mono ?_; rintro e w1 ⟨rfl, hb1⟩; have HB1 := hidden hb1; clear hb1; refine Hid.out ?_))
  apply hidden
  have HG := hidden (great_any co cn cc cs w1 (HS.out.on HB1.out))
  clear HAW
  go_wp2_with (first | (go_at_call 5; refine HG.out.mono ?_; rintro e w2 ⟨b, rfl, HB2, HGQ⟩; refine Hid.out ?_))
  apply hidden
  have HW2 : Hid (Below w.heap.size w w2) := hidden (bl_go HB1.out (Nat.le_refl _) HB2.out)
  clear HG HB1 HB2
  cases b with
  | true =>
    go_wp2
    go_ret
    exact ⟨rfl, HW2.out⟩
  | false =>
    obtain ⟨hcn, hsz⟩ := HGQ.out rfl
    clear HGQ
    by_cases h3 : cn = 3
    · subst h3
      have HSZ := hidden hsz
      have HS2 := hidden (HS.out.on HW2.out)
      obtain ⟨b, off, hco⟩ : ∃ b off, co = some ⟨b, off, none⟩ := by
        obtain ⟨b, off, _, _, _, _, _, e, _⟩ := HS2.out.item 0 (by omega)
        exact ⟨b, off, e⟩
      subst hco
      clear hsz hcn
      go_wp2_with fail
      go_loopw [9, 10] (fun lv i wr => ∃ (j : Nat) (lo : Option Addr) (lc : Nat) (ds : List Cl), j ≤ 3 ∧ i = .int .i64 j ∧ lv = .slice lo j lc ∧ Hid (SlC wr lo j lc ds) ∧ Hid (Rs ds ∧ (∀ c ∈ ds, mayP kd pg c) ∧ (0 < j → isKd kd ∧ pw pg) ∧ (j = 0 → lo = none ∧ lc = 0)) ∧ Hid (Below w2.heap.size w2 wr)) (fun _ i _ => 3 - (intOf i).toNat)
      case atStart => exact ⟨0, none, 0, [], by omega, rfl, rfl, hidden ⟨rfl, Nat.le_refl _, by omega, fun _ => rfl, .inl rfl⟩, hidden ⟨List.Pairwise.nil, (fun c hc => by cases hc), (fun h => by omega), fun _ => ⟨rfl, rfl⟩⟩, hidden (Below.refl _ _)⟩
      case round =>
        obtain ⟨j, lo, lc, ds, hj, rfl, rfl, HL, HD, HB⟩ := hrel
        have bj : (j : Int) ≤ 3 := by omega
        have HBW : Hid (Below w.heap.size w wr) := hidden (bl_go HW2.out (Nat.le_refl _) HB.out)
        by_cases hlt : j < 3
        · have hltI : (j : Int) < 3 := by omega
          obtain ⟨b', off', c, ka, kc, va, vc, hbo, hb, hci, c0, c1, c2, c3, c4, hk, hv⟩ := (HS2.out.on HB.out).item j hlt
          injection hbo with hbo
          injection hbo with hb1 hb2
          subst hb1 hb2
          have hcap := HS2.out.hcap
          have hone : (cs.drop j).take 1 = [c] := by
            obtain ⟨hjl, e⟩ := List.getElem?_eq_some_iff.1 hci
            rw [List.drop_eq_getElem_cons hjl, e]
            rfl
          have HPC : Hid (SlC wr (some ⟨b, off + j * 5, none⟩) 1 (cc - j) [c]) := hidden (by
            have := (HS2.out.on HB.out).piece j 1 (cc - j) (by omega) (by omega)
            rwa [hone] at this)
          have HEN := hidden (encode_plain kd pg (some ⟨b, off + j * 5, none⟩) 1 (cc - j) [c] wr HPC.out (by have := szN_one (List.mem_of_getElem? hci); have := HSZ.out; omega) (HT.out.on HBW.out h0) (Nat.lt_of_lt_of_le h0 HBW.out.size))
          have HKS := hidden hk
          have HVS := hidden hv
          have HC5 : Hid (CAt wr b (off + j * 5) c) := hidden ⟨ka, kc, va, vc, c0, c1, c2, c3, c4, hk, hv⟩
          have HGL := hidden hb
          have HCC : Hid (wr.cell? ⟨b, off + j * 5, none⟩ = some (.slice ka c.key.length kc) ∧ wr.cell? ⟨b, off + j * 5 + 1, none⟩ = some (.int .i64 c.kd) ∧ wr.cell? ⟨b, off + j * 5 + 2, none⟩ = some (.slice va c.val.length vc) ∧ wr.cell? ⟨b, off + j * 5 + 3, none⟩ = some (.int .i64 c.pg) ∧ wr.cell? ⟨b, off + j * 5 + 4, none⟩ = some (.int .i64 c.ct)) := hidden ⟨c0, c1, c2, c3, c4⟩
          clear hk hv hci c0 c1 c2 c3 c4 hb hone HPC
          go_wp2_with (first | (go_at_call 6; refine HEN.out.mono ?_; rintro e w3 ⟨eo, em, ecp, ece, rfl, HB3, HEQ⟩; refine Hid.out ?_))
          apply hidden
          have HBW3 : Hid (Below w.heap.size w w3) := hidden (bl_go HBW.out (Nat.le_refl _) HB3.out)
          have hce := HEQ.out.1
          clear HEQ HEN
          rcases enc_one (k := kd) (p := pg) (c := c) with ⟨he, hkd, hpw, hmay⟩ | he | he
          · rw [he] at hce
            subst hce
            have HKP := hidden (And.intro hkd hpw)
            have HMAY := hidden hmay
            have HL3 := hidden (HL.out.on HB3.out)
            have HLEN := hidden HL.out.hlen
            obtain ⟨r, hr⟩ := fnd_ex (rs_rise HD.out.1) c.key
            have HR := hidden hr
            have hrj : r ≤ j := by have := hr.le; have := HLEN.out; omega
            have HB23 : Hid (Below w2.heap.size w2 w3) := hidden (bl_go HB.out (Nat.le_refl _) HB3.out)
            have HK3 := hidden (HKS.out.on (Nat.le_refl _) HB3.out)
            have HV3 := hidden (HVS.out.on (Nat.le_refl _) HB3.out)
            have HG3 : Hid (b < w3.heap.size) := hidden (Nat.lt_of_lt_of_le HGL.out HB3.out.size)
            have HC3 : Hid (w3.cell? ⟨b, off + j * 5, none⟩ = some (.slice ka c.key.length kc) ∧ w3.cell? ⟨b, off + j * 5 + 1, none⟩ = some (.int .i64 c.kd) ∧ w3.cell? ⟨b, off + j * 5 + 2, none⟩ = some (.slice va c.val.length vc) ∧ w3.cell? ⟨b, off + j * 5 + 3, none⟩ = some (.int .i64 c.pg) ∧ w3.cell? ⟨b, off + j * 5 + 4, none⟩ = some (.int .i64 c.ct)) := hidden ⟨(HB3.out.cell (p := ⟨b, off + j * 5, none⟩) HGL.out).trans HCC.out.1, (HB3.out.cell (p := ⟨b, off + j * 5 + 1, none⟩) HGL.out).trans HCC.out.2.1, (HB3.out.cell (p := ⟨b, off + j * 5 + 2, none⟩) HGL.out).trans HCC.out.2.2.1, (HB3.out.cell (p := ⟨b, off + j * 5 + 3, none⟩) HGL.out).trans HCC.out.2.2.2.1, (HB3.out.cell (p := ⟨b, off + j * 5 + 4, none⟩) HGL.out).trans HCC.out.2.2.2.2⟩
            clear he hkd hpw hmay hr HB HL HC5 HCC HKS HVS HGL HB3 HBW
            go_wp2_with fail
            go_loopw [13, 14] (fun at_ k wq => ∃ t p : Nat, t ≤ j ∧ p ≤ j ∧ k = .int .i64 t ∧ at_ = .int .i64 p ∧ Hid (p = min t r) ∧ Hid (∀ i d, i < t → ds[i]? = some d → d.key ≠ c.key) ∧ Hid (Below w3.heap.size w3 wq)) (fun _ k _ => j - (intOf k).toNat)
            case atStart => exact ⟨0, 0, by omega, by omega, rfl, rfl, hidden (by simp), hidden (fun i d hi => by omega), hidden (Below.refl _ _)⟩
            case round =>
              obtain ⟨t, p, htj, hpj, rfl, rfl, HP, HNE, HBQ⟩ := hrel
              have bt : (t : Int) ≤ 3 := by omega
              have bp : (p : Int) ≤ 3 := by omega
              have HBWQ : Hid (Below w.heap.size w wr) := hidden (bl_go HBW3.out (Nat.le_refl _) HBQ.out)
              have c0 := (HBQ.out.cell (p := ⟨b, off + j * 5, none⟩) HG3.out).trans HC3.out.1
              by_cases htl : t < j
              · have htI : (t : Int) < (j : Int) := by omega
                obtain ⟨g, of, d, da, dc, dva, dvc, rfl, hgb, hdi, e0, e1, e2, e3, e4, hdk, hdv⟩ := (HL3.out.on HBQ.out).item t htl
                have HDI := hidden hdi
                have HGB := hidden hgb
                have HDK := hidden hdk
                have k1 : ∀ z, (convert 25 9 (.slice da d.key.length dc)).run Tryd.prog (wr.drewN z) = .ok (.string (strOfNums d.key)) (wr.drewN z) := fun z => conv_sl (hdk.drewN z)
                have k2 : ∀ z, (convert 25 9 (.slice ka c.key.length kc)).run Tryd.prog (wr.drewN z) = .ok (.string (strOfNums c.key)) (wr.drewN z) := fun z => conv_sl ((HK3.out.on (Nat.le_refl _) HBQ.out).drewN z)
                have hse := str_beq hdk.wf HK3.out.wf
                have hls := str_less hdk.wf HK3.out.wf
                have HLT : Hid (decide (kl d.key c.key) = decide (t < r)) := hidden (decide_eq_decide.2 (HR.out.iff t d hdi))
                clear hdk hdv hdi e1 e2 e3 e4 hgb
                by_cases heq : d.key = c.key
                · have hse2 : ((strOfNums d.key).toList == (strOfNums c.key).toList) = true := by rw [hse]; simpa using heq
                  clear hls heq hse
                  go_wp2_with fail
                  go_quiet (fail)
                  go_wp2
                  go_ret
                  exact ⟨rfl, bl_dr HBWQ.out _⟩
                · have hse2 : ((strOfNums d.key).toList == (strOfNums c.key).toList) = false := by rw [hse]; simpa using heq
                  have HNX : Hid (∀ i d, i < t + 1 → ds[i]? = some d → d.key ≠ c.key) := hidden fun i x hi hx => by
                    by_cases e : i = t
                    · subst e
                      rw [HDI.out] at hx
                      injection hx with hx
                      subst hx
                      exact heq
                    · exact HNE.out i x (by omega) hx
                  rw [HLT.out] at hls
                  clear hse heq
                  go_wp2_with fail
                  go_quiet (fail)
                  have HZ : Hid (Below wr.heap.size wr (wr.drewN nq)) := hidden (bl_dr (Below.refl _ _) _)
                  obtain ⟨wz, hz⟩ : ∃ wz, wr.drewN nq = wz := ⟨_, rfl⟩
                  rw [hz] at HZ ⊢
                  have c0z := (HZ.out.cell (p := ⟨b, off + j * 5, none⟩) (Nat.lt_of_lt_of_le HG3.out HBQ.out.size)).trans c0
                  have e0z := (HZ.out.cell (p := ⟨g, of + t * 5, none⟩) HGB.out).trans e0
                  have k1z : ∀ z, (convert 25 9 (.slice da d.key.length dc)).run Tryd.prog (wz.drewN z) = .ok (.string (strOfNums d.key)) (wz.drewN z) := fun z => conv_sl ((HDK.out.on (Nat.le_refl _) HZ.out).drewN z)
                  have k2z : ∀ z, (convert 25 9 (.slice ka c.key.length kc)).run Tryd.prog (wz.drewN z) = .ok (.string (strOfNums c.key)) (wz.drewN z) := fun z => conv_sl ((HK3.out.on (Nat.le_refl _) (bl_go HBQ.out (Nat.le_refl _) HZ.out)).drewN z)
                  have HBZ : Hid (Below w3.heap.size w3 wz) := hidden (bl_go HBQ.out (Nat.le_refl _) HZ.out)
                  clear k1 k2 e0 c0 hse2 hz
                  by_cases htr : t < r
                  · have hls2 : Op.bytesLess (strOfNums d.key).toList (strOfNums c.key).toList = true := by rw [hls]; simpa using htr
                    clear hls
                    go_wp2_with fail
                    go_quiet (fail)
                    go_wp2
                    go_roundw
                    case rel => exact ⟨t + 1, p + 1, by omega, by have := HP.out; omega, by go_num, by go_num, hidden (by have := HP.out; omega), HNX, hidden (bl_dr HBZ.out _)⟩
                    case measure => simp [intOf]; omega
                  · have hls2 : Op.bytesLess (strOfNums d.key).toList (strOfNums c.key).toList = false := by rw [hls]; simpa using htr
                    clear hls
                    go_wp2_with fail
                    go_quiet (fail)
                    go_wp2
                    go_roundw
                    case rel => exact ⟨t + 1, p, by omega, by omega, by go_num, by go_num, hidden (by have := HP.out; omega), HNX, hidden (bl_dr HBZ.out _)⟩
                    case measure => simp [intOf]; omega
              · obtain rfl : t = j := by omega
                have htI : ¬ (t : Int) < (t : Int) := by omega
                obtain rfl : p = r := by have := HP.out; omega
                obtain ⟨d0, d1, d2, d3, d4⟩ := HC3.out
                have c1 := (HBQ.out.cell (p := ⟨b, off + t * 5 + 1, none⟩) HG3.out).trans d1
                have c2 := (HBQ.out.cell (p := ⟨b, off + t * 5 + 2, none⟩) HG3.out).trans d2
                have c3 := (HBQ.out.cell (p := ⟨b, off + t * 5 + 3, none⟩) HG3.out).trans d3
                have c4 := (HBQ.out.cell (p := ⟨b, off + t * 5 + 4, none⟩) HG3.out).trans d4
                have HK4 := hidden (HK3.out.on (Nat.le_refl _) HBQ.out)
                have HV4 := hidden (HV3.out.on (Nat.le_refl _) HBQ.out)
                have HL4 := hidden (HL3.out.on HBQ.out)
                have HGW : Hid (b < wr.heap.size) := hidden (Nat.lt_of_lt_of_le HG3.out HBQ.out.size)
                have HCV : Hid (Row5 wr [.slice ka c.key.length kc, .int .i64 c.kd, .slice va c.val.length vc, .int .i64 c.pg, .int .i64 c.ct] [c]) := hidden ⟨ka, kc, va, vc, [], rfl, HK4.out, HV4.out, rfl⟩
                have HNEW : Hid (Rs (ds.take p ++ [c] ++ ds.drop p) ∧ (∀ x ∈ ds.take p ++ [c] ++ ds.drop p, mayP kd pg x) ∧ (ds.take p ++ [c] ++ ds.drop p).length = t + 1) := hidden (by
                  refine ⟨?_, fun x hx => ?_, ?_⟩
                  · have := rs_ins HD.out.1 HR.out (fun d hd => by
                      obtain ⟨i, hi, e⟩ := List.getElem_of_mem hd
                      exact HNE.out i d (by have := HLEN.out; omega) (by rw [← e]; exact List.getElem?_eq_getElem hi))
                    rwa [List.append_assoc]
                  · simp only [List.mem_append, List.mem_cons, List.not_mem_nil, or_false] at hx
                    rcases hx with (hx | rfl) | hx
                    · exact HD.out.2.1 x (List.mem_of_mem_take hx)
                    · exact HMAY.out
                    · exact HD.out.2.1 x (List.mem_of_mem_drop hx)
                  · have := HLEN.out
                    simp only [List.length_append, List.length_take, List.length_drop, List.length_cons, List.length_nil]
                    omega)
                clear d0 d1 d2 d3 d4
                by_cases ht0 : t = 0
                · subst ht0
                  obtain ⟨rfl, rfl⟩ := HD.out.2.2.2 rfl
                  obtain rfl : p = 0 := by omega
                  obtain rfl : ds = [] := List.eq_nil_of_length_eq_zero HLEN.out
                  simp only [Nat.zero_mul, Nat.add_zero] at c0 c1 c2 c3 c4
                  have HBU1 : Hid (Below wr.heap.size wr wr) := hidden (Below.refl _ _)
                  have HO1 : Hid (OwnK wr wr (.slice none 0 0) []) := hidden (OwnK.nil _ _)
                  have HO1b : Hid (OwnK wr (wr.alloc (.cells #[.slice ka c.key.length kc, .int .i64 c.kd, .slice va c.val.length vc, .int .i64 c.pg, .int .i64 c.ct] 30)) (.slice none 0 0) []) := hidden (HO1.out.go (bl_al (Below.refl _ _) (Nat.le_refl _) _))
                  have HBU1b : Hid (Below wr.heap.size wr (wr.alloc (.cells #[.slice ka c.key.length kc, .int .i64 c.kd, .slice va c.val.length vc, .int .i64 c.pg, .int .i64 c.ct] 30))) := hidden (bl_al HBU1.out (Nat.le_refl _) _)
                  have HX2 : Hid (∀ j u, ([.slice ka c.key.length kc, .int .i64 c.kd, .slice va c.val.length vc, .int .i64 c.pg, .int .i64 c.ct] : List Value)[j]? = some u → (wr.alloc (.cells #[.slice ka c.key.length kc, .int .i64 c.kd, .slice va c.val.length vc, .int .i64 c.pg, .int .i64 c.ct] 30)).cell? ⟨wr.heap.size, 0 + j, none⟩ = some u) := hidden (by
                    obtain ⟨f0, f1, f2, f3, f4⟩ := (C5.box wr (.slice ka c.key.length kc) (.int .i64 c.kd) (.slice va c.val.length vc) (.int .i64 c.pg) (.int .i64 c.ct)).cells
                    intro j u hu
                    have hj5 : j < 5 := (List.getElem?_eq_some_iff.1 hu).1
                    have hj' : j = 0 ∨ j = 1 ∨ j = 2 ∨ j = 3 ∨ j = 4 := by omega
                    rcases hj' with rfl | rfl | rfl | rfl | rfl <;> (simp only [List.getElem?_cons_zero, List.getElem?_cons_succ, Option.some.injEq] at hu; subst hu; assumption))
                  go_wp2_with (at_builtin; refine app_ck wr _ rfl _ _ rfl [] [c] (.slice none 0 0) (some ⟨wr.heap.size, 0, none⟩) 1 1 rfl rfl HO1b.out rfl (.inr ⟨wr.heap.size, 0, _, rfl, HCV.out, HX2.out⟩) (by simp) HBU1b.out ?_; intro v2 u2 HO2 HBU2; refine Hid.out ?_)
                  apply hidden
                  go_wp2_with (at_builtin; refine app_ck wr u2 rfl _ _ rfl ([] ++ [c]) [] v2 none 0 0 rfl rfl HO2.out rfl (.inl ⟨rfl, rfl, rfl⟩) (by simp) HBU2.out ?_; intro v3 u3 HO3 HBU3; refine Hid.out ?_)
                  apply hidden
                  obtain ⟨ao, cap, rfl, hslc⟩ := HO3.out.slc HBU3.out (by simp)
                  have HLN : Hid ((([] ++ [c] ++ [] : List Cl)).length = 0 + 1) := hidden (by simp)
                  have HSLC := hidden hslc
                  rw [HLN.out] at HSLC ⊢
                  have HFIN : Hid (Rs (([] ++ [c] ++ [] : List Cl)) ∧ (∀ x ∈ ([] ++ [c] ++ [] : List Cl), mayP kd pg x) ∧ (0 < 0 + 1 → isKd kd ∧ pw pg) ∧ (0 + 1 = 0 → ao = none ∧ cap = 0)) := hidden ⟨by simpa using HNEW.out.1, by simpa using HNEW.out.2.1, fun _ => HKP.out, fun h => by omega⟩
                  have HB24 : Hid (Below w2.heap.size w2 u3) := hidden (bl_go (bl_go HB23.out (Nat.le_refl _) HBQ.out) (Nat.le_refl _) HBU3.out)
                  clear hslc
                  go_wp2
                  go_roundw
                  case rel => exact ⟨0 + 1, ao, cap, _, by omega, by go_num, by go_num, HSLC, HFIN, HB24⟩
                  case measure => simp [intOf]
                · obtain ⟨g, of, rfl⟩ : ∃ g of, lo = some ⟨g, of, none⟩ := by
                    rcases HL4.out.hat with h | ⟨g, of, e, _⟩
                    · exact absurd h ht0
                    · exact ⟨g, of, e⟩
                  have hlc := HL4.out.hcap
                  have hpI : (p : Int) ≤ (t : Int) := by omega
                  have hpl : p ≤ lc := by omega
                  have hplI : (p : Int) ≤ (lc : Int) := by omega
                  have htlI : (t : Int) ≤ (lc : Int) := by omega
                  have h1 := HL4.out.piece 0 p lc (by omega) (by omega)
                  rw [Nat.zero_mul, Nat.add_zero, List.drop_zero] at h1
                  obtain ⟨us1, hu1⟩ := h1.src (Below.refl _ wr)
                  have HU1 := hidden hu1
                  have h2 := HL4.out.piece p (t - p) (lc - p) (by omega) (by omega)
                  have e2 : (ds.drop p).take (t - p) = ds.drop p := List.take_of_length_le (by rw [List.length_drop, HLEN.out]; exact Nat.le_refl _)
                  rw [e2] at h2
                  have HS2P := hidden h2
                  have HTK : Hid ((ds.take p).length = p) := hidden (by rw [List.length_take, HLEN.out]; omega)
                  have HDK : Hid ((ds.drop p).length = t - p) := hidden (by rw [List.length_drop, HLEN.out])
                  clear h1 h2 hu1 e2 ht0
                  go_wp2_with (at_builtin; refine app_ck wr wr rfl _ _ rfl [] (ds.take p) (.slice none 0 0) (some ⟨g, of, none⟩) p lc rfl rfl (OwnK.nil _ _) HTK.out (.inr ⟨g, of, us1, rfl, HU1.out.1, HU1.out.2⟩) (by simp; omega) (Below.refl _ _) ?_; intro v1 u1 HO1 HBU1; refine Hid.out ?_)
                  apply hidden
                  have f0 := (HBU1.out.cell (p := ⟨b, off + t * 5, none⟩) HGW.out).trans c0
                  have f1 := (HBU1.out.cell (p := ⟨b, off + t * 5 + 1, none⟩) HGW.out).trans c1
                  have f2 := (HBU1.out.cell (p := ⟨b, off + t * 5 + 2, none⟩) HGW.out).trans c2
                  have f3 := (HBU1.out.cell (p := ⟨b, off + t * 5 + 3, none⟩) HGW.out).trans c3
                  have f4 := (HBU1.out.cell (p := ⟨b, off + t * 5 + 4, none⟩) HGW.out).trans c4
                  clear c0 c1 c2 c3 c4
                  rw [List.nil_append] at HO1
                  have HO1b : Hid (OwnK wr (u1.alloc (.cells #[.slice ka c.key.length kc, .int .i64 c.kd, .slice va c.val.length vc, .int .i64 c.pg, .int .i64 c.ct] 30)) v1 (ds.take p)) := hidden (HO1.out.go (bl_al (Below.refl _ _) (Nat.le_refl _) _))
                  have HBU1b : Hid (Below wr.heap.size wr (u1.alloc (.cells #[.slice ka c.key.length kc, .int .i64 c.kd, .slice va c.val.length vc, .int .i64 c.pg, .int .i64 c.ct] 30))) := hidden (bl_al HBU1.out (Nat.le_refl _) _)
                  have HX2 : Hid (∀ j u, ([.slice ka c.key.length kc, .int .i64 c.kd, .slice va c.val.length vc, .int .i64 c.pg, .int .i64 c.ct] : List Value)[j]? = some u → (u1.alloc (.cells #[.slice ka c.key.length kc, .int .i64 c.kd, .slice va c.val.length vc, .int .i64 c.pg, .int .i64 c.ct] 30)).cell? ⟨u1.heap.size, 0 + j, none⟩ = some u) := hidden (by
                    obtain ⟨f0, f1, f2, f3, f4⟩ := (C5.box u1 (.slice ka c.key.length kc) (.int .i64 c.kd) (.slice va c.val.length vc) (.int .i64 c.pg) (.int .i64 c.ct)).cells
                    intro j u hu
                    have hj5 : j < 5 := (List.getElem?_eq_some_iff.1 hu).1
                    have hj' : j = 0 ∨ j = 1 ∨ j = 2 ∨ j = 3 ∨ j = 4 := by omega
                    rcases hj' with rfl | rfl | rfl | rfl | rfl <;> (simp only [List.getElem?_cons_zero, List.getElem?_cons_succ, Option.some.injEq] at hu; subst hu; assumption))
                  go_wp2_with (at_builtin; refine app_ck wr _ rfl _ _ rfl (ds.take p) [c] v1 (some ⟨u1.heap.size, 0, none⟩) 1 1 rfl rfl HO1b.out rfl (.inr ⟨u1.heap.size, 0, _, rfl, HCV.out, HX2.out⟩) (by rw [HTK.out]; omega) HBU1b.out ?_; intro v2 u2 HO2 HBU2; refine Hid.out ?_)
                  apply hidden
                  clear f0 f1 f2 f3 f4 HX2 HO1b HBU1b HO1 HBU1
                  obtain ⟨us2, hu2⟩ := HS2P.out.src HBU2.out
                  have HU2 := hidden hu2
                  have HL2 : Hid ((ds.take p ++ [c]).length = p + 1) := hidden (by rw [List.length_append, HTK.out]; rfl)
                  clear hu2
                  by_cases hpc : p < lc
                  · have hpcI : (p : Int) < (lc : Int) := by omega
                    have hpc1 : ¬ lc = p := by omega
                    have hpc2 : lc - p ≠ 0 := by omega
                    have hpc3 : ¬ (lc ≤ p) := by omega
                    go_wp2_with (at_builtin; refine app_ck wr u2 rfl _ _ rfl (ds.take p ++ [c]) (ds.drop p) v2 (some ⟨g, of + p * 5, none⟩) (t - p) (lc - p) rfl rfl HO2.out HDK.out (.inr ⟨g, of + p * 5, us2, rfl, HU2.out.1, HU2.out.2⟩) (by rw [HL2.out]; omega) HBU2.out ?_; intro v3 u3 HO3 HBU3; refine Hid.out ?_)
                    apply hidden
                    obtain ⟨ao, cap, rfl, hslc⟩ := HO3.out.slc HBU3.out (by have := HNEW.out.2.2; simp at this ⊢; omega)
                    have HLN : Hid ((ds.take p ++ [c] ++ ds.drop p).length = t + 1) := hidden (by have := HNEW.out.2.2; simpa using this)
                    have HSLC := hidden hslc
                    rw [HLN.out] at HSLC ⊢
                    have HFIN : Hid (Rs (ds.take p ++ [c] ++ ds.drop p) ∧ (∀ x ∈ ds.take p ++ [c] ++ ds.drop p, mayP kd pg x) ∧ (0 < t + 1 → isKd kd ∧ pw pg) ∧ (t + 1 = 0 → ao = none ∧ cap = 0)) := hidden ⟨by simpa using HNEW.out.1, by simpa using HNEW.out.2.1, fun _ => HKP.out, fun h => by omega⟩
                    have HB24 : Hid (Below w2.heap.size w2 u3) := hidden (bl_go (bl_go HB23.out (Nat.le_refl _) HBQ.out) (Nat.le_refl _) HBU3.out)
                    clear hslc
                    go_wp2
                    go_roundw
                    case rel => exact ⟨t + 1, ao, cap, _, by omega, by go_num, by go_num, HSLC, HFIN, HB24⟩
                    case measure => simp [intOf]; omega
                  · obtain rfl : lc = p := by omega
                    obtain rfl : t = lc := by omega
                    have HDZ : Hid ((ds.drop t).length = 0) := hidden (by have := HDK.out; omega)
                    have HDN : Hid (ds.drop t = []) := hidden (List.eq_nil_of_length_eq_zero HDZ.out)
                    go_wp2_with (at_builtin; refine app_ck wr u2 rfl _ _ rfl (ds.take t ++ [c]) (ds.drop t) v2 (some ⟨g, of, none⟩) 0 0 rfl rfl HO2.out HDZ.out (.inr ⟨g, of, [], rfl, by rw [HDN.out]; rfl, fun j u hu => by simp at hu⟩) (by rw [HL2.out]; omega) HBU2.out ?_; intro v3 u3 HO3 HBU3; refine Hid.out ?_)
                    apply hidden
                    obtain ⟨ao, cap, rfl, hslc⟩ := HO3.out.slc HBU3.out (by have := HNEW.out.2.2; simp at this ⊢; omega)
                    have HLN : Hid ((ds.take t ++ [c] ++ ds.drop t).length = t + 1) := hidden (by have := HNEW.out.2.2; simpa using this)
                    have HSLC := hidden hslc
                    rw [HLN.out] at HSLC ⊢
                    have HFIN : Hid (Rs (ds.take t ++ [c] ++ ds.drop t) ∧ (∀ x ∈ ds.take t ++ [c] ++ ds.drop t, mayP kd pg x) ∧ (0 < t + 1 → isKd kd ∧ pw pg) ∧ (t + 1 = 0 → ao = none ∧ cap = 0)) := hidden ⟨by simpa using HNEW.out.1, by simpa using HNEW.out.2.1, fun _ => HKP.out, fun h => by omega⟩
                    have HB24 : Hid (Below w2.heap.size w2 u3) := hidden (bl_go (bl_go HB23.out (Nat.le_refl _) HBQ.out) (Nat.le_refl _) HBU3.out)
                    clear hslc
                    go_wp2
                    go_roundw
                    case rel => exact ⟨t + 1, ao, cap, _, by omega, by go_num, by go_num, HSLC, HFIN, HB24⟩
                    case measure => simp [intOf]; omega
          · rw [he] at hce
            subst hce
            go_wp2
            go_ret
            exact ⟨rfl, HBW3.out⟩
          · rw [he] at hce
            subst hce
            go_wp2
            go_ret
            exact ⟨rfl, HBW3.out⟩
        · obtain rfl : j = 3 := by omega
          have hltI : ¬ ((3 : Nat) : Int) < 3 := by omega
          have HL3 := HL.out.hlen
          have HEN := hidden (encode_plain kd pg lo 3 lc ds wr HL.out (by
            have h1 := three_fit HD.out.2.1 (HD.out.2.2.1 (by omega)).2 (by omega)
            have h2 := pw_le (HD.out.2.2.1 (by omega)).2
            omega) (HT.out.on HBW.out h0) (Nat.lt_of_lt_of_le h0 HBW.out.size))
          have HE0 : Hid (encE kd pg ds = 0) := hidden (enc_all (HD.out.2.2.1 (by omega)).1 (HD.out.2.2.1 (by omega)).2 HD.out.2.1 HD.out.1 (by omega))
          go_wp2_with (first | (go_at_call 6; refine HEN.out.mono ?_; rintro e w3 ⟨eo, em, ecp, ece, rfl, HB3, HEQ⟩; refine Hid.out ?_))
          apply hidden
          obtain rfl : ece = 0 := by rw [HEQ.out.1, HE0.out]
          go_wp2
          go_ret
          exact ⟨rfl, bl_go HBW.out (Nat.le_refl _) HB3.out⟩
    · have d1 : ((cn : Int) == 3) = false := by simp; omega
      go_wp2
      go_ret
      exact ⟨rfl, HW2.out⟩
end Go.Proofs.YtddjepdgigeelabDoor
