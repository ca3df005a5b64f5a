/- Layer 6: Encode of both sides, one contract without cases; cells put behind one another. -/
import Derived.Test.YtmdabgpeeelhmaaDoorZh
import Derived.Test.YtmdabgpeeelhmaaDoorJm
import Derived.Test.YtmdabgpeeelhmaaDoorJk
import Derived.Test.YtmdabgpeeelhmaaDoorJi
namespace Go.Proofs.YtmdabgpeeelhmaaDoor
open Go.RowKit

set_option maxRecDepth 100000 in
theorem Fo.of {F : Nat → Prop} {w : World} {x : Value} (h : ∀ z, x.ownBlock = some z → F z) : Fo F w x := fun z hz => .inl (h z hz)
/-- The page, or none. -/
def en6 (k n : Int) (cs : List Cl) : List Int := if encE k n cs = 0 then pgB k n.toNat cs else []
set_option maxRecDepth 100000 in
theorem en6_size {k n : Int} {cs : List Cl} (h : encE k n cs = 0) : isKd k ∧ pw n ∧ (szN cs : Int) ≤ n := by
  unfold encE at h
  by_cases h1 : isKd k ∧ pw n
  · rw [if_pos h1] at h
    by_cases h2 : chk k n none cs = 0
    · rw [if_pos h2] at h
      by_cases h3 : n < szN cs
      · rw [if_pos h3] at h; cases h
      · exact ⟨h1.1, h1.2, by omega⟩
    · rw [if_neg h2] at h; exact absurd h h2
  · rw [if_neg h1] at h; cases h
set_option maxRecDepth 100000 in
theorem en6_len {k n : Int} {cs : List Cl} : (en6 k n cs).length ≤ 65536 := by
  unfold en6
  split
  · rename_i h
    obtain ⟨_, h2, h3⟩ := en6_size h
    have := pw_le h2
    rw [pgB_length _ _ _ (by omega)]
    omega
  · simp
set_option maxRecDepth 100000 in
theorem en6_wf {k n : Int} {cs : List Cl} (hw : ∀ c ∈ cs, c.Wf) : Wf (en6 k n cs) := by
  unfold en6
  split
  · rename_i h
    obtain ⟨h1, _⟩ := en6_size h
    exact pgB_wf (by unfold isKd at h1; omega) hw
  · exact Wf.nil
set_option maxRecDepth 100000 in
theorem encU6 (k n : Int) (co : Option Addr) (cn cc : Nat) (cs : List Cl) (w : World) (hs : SlC w co cn cc cs) (hz : szN cs ≤ 1099511627776) (ht : Tab w) (h0 : 1 < w.heap.size) :
    Calls Tryd.prog 9 #[.int .i64 k, .slice co cn cc, .int .i64 n] w fun e w' => ∃ ao m cap, e = .returned (.tuple #[.slice ao m cap, .int .i64 (encE k n cs)]) ∧ Hid (OwnB w' w.heap.size (.slice ao m cap) (en6 k n cs)) ∧ Hid (Below w.heap.size w w') := by
  refine (encode_plain k n co cn cc cs w hs hz ht h0).mono ?_
  rintro e w' ⟨ao, m, cap, c, rfl, hb, hq⟩
  obtain ⟨rfl, h⟩ := hq.out
  refine ⟨ao, m, cap, rfl, hidden ?_, hb⟩
  unfold en6
  rcases h with ⟨h1, rfl, rfl, rfl⟩ | ⟨h1, h2⟩
  · rw [if_neg h1]
    exact OwnB.nil _ _
  · rw [if_pos h1]
    obtain ⟨g, rfl, rfl, rfl, hg, hbk⟩ := h2
    obtain ⟨_, h4, h5⟩ := en6_size h1
    have hp := pw_le h4
    have hl : (pgB k n.toNat cs).length = n.toNat := pgB_length _ _ _ (by omega)
    have := own_of_heap (l := pgB k n.toNat cs) hbk hg (by rw [hl]; unfold maxLen; omega)
    rw [hl] at this
    exact this
set_option maxRecDepth 100000 in
theorem rencU6 (k n : Int) (co : Option Addr) (cn cc : Nat) (cs : List Cl) (w : World) (hs : SlC w co cn cc cs) (hcn : cn ≤ 900000) (hz : szN cs ≤ 1099511627776) :
    Calls Tryd.prog 6 #[.int .i64 k, .slice co cn cc, .int .i64 n] w fun e w' => ∃ ao m cap, e = .returned (.tuple #[.slice ao m cap, .int .i64 (encE k n cs)]) ∧ Hid (OwnB w' w.heap.size (.slice ao m cap) (en6 k n cs)) ∧ Hid (Below w.heap.size w w') := by
  by_cases he : encE k n cs = 0
  · obtain ⟨h1, h2, h3⟩ := en6_size he
    have := pw_le h2
    obtain ⟨N, rfl⟩ := Int.eq_ofNat_of_zero_le (show 0 ≤ n by omega)
    refine (rencode6_yes k N co cn cc cs w hs hcn he).mono ?_
    rintro e w' ⟨v, rfl, ho, hb⟩
    obtain ⟨ao, c, rfl⟩ := own_slice6 ho.out
    refine ⟨ao, _, c, by rw [he], hidden ?_, hb⟩
    unfold en6
    rw [if_pos he, Int.toNat_natCast]
    exact ho.out
  · refine (rencode6_no k n co cn cc cs w hs hcn hz he).mono ?_
    rintro e w' ⟨rfl, hb⟩
    refine ⟨none, 0, 0, rfl, hidden ?_, hb⟩
    unfold en6
    rw [if_neg he]
    exact OwnB.nil _ _
set_option maxRecDepth 100000 in
theorem szN_cons6 (d : Cl) (r : List Cl) : szN (d :: r) = ctk d + szN r := by unfold szN; simp; omega
set_option maxRecDepth 100000 in
theorem szN_sub {fs cs : List Cl} (h : fs.Sublist cs) : szN fs ≤ szN cs := by
  induction h with
  | slnil => exact Nat.le_refl _
  | cons a _ ih => rw [szN_cons6]; omega
  | cons_cons a _ ih => rw [szN_cons6, szN_cons6]; omega
set_option maxRecDepth 100000 in
theorem SlC.rooms {w : World} {ao : Option Addr} {n cap : Nat} {cs : List Cl} (h : SlC w ao n cap cs) : ∀ c ∈ cs, c.key.length ≤ 140737488355328 ∧ c.val.length ≤ 140737488355328 := by
  intro c hc
  obtain ⟨i, hi, e⟩ := List.getElem_of_mem hc
  rcases h.hat with h0 | ⟨b, off, _, _, hcs⟩
  · have := h.hlen; omega
  · obtain ⟨_, _, _, _, _, _, _, _, _, h5, h6⟩ := hcs i c (by rw [List.getElem?_eq_getElem hi, e])
    exact ⟨h5.hroom, h6.hroom⟩
set_option maxRecDepth 100000 in
theorem Lent6.slc2 {w : World} {R n L : Nat} {cs : List Cl} (h : Lent6 w R cs n L) (hl : cs.length = n) (hn : n ≤ 900000) (hw : ∀ c ∈ cs, c.Wf) (hk : ∀ c ∈ cs, c.key.length ≤ 140737488355328 ∧ c.val.length ≤ 140737488355328) : SlC w (some ⟨R, 0, none⟩) n (n + 3) cs := by
  obtain ⟨g, h1, h2, _⟩ := h
  refine ⟨hl, by omega, by omega, (by intro h; cases h), .inr ⟨R, 0, rfl, h2.lt, fun i c hi => ?_⟩⟩
  have hil : i < n := by have := (List.getElem?_eq_some_iff.1 hi).1; omega
  obtain ⟨a0, a1, a2, a3, a4, a5, a6⟩ := h1.at_ i c (by omega) hil hi
  have hm := List.mem_of_getElem? hi
  have := hk c hm
  rw [Nat.zero_add]
  exact ⟨_, _, _, _, a0, a1, a2, a3, a4, sl_lent a5 (hw c hm).1 this.1, sl_lent a6 (hw c hm).2 this.2⟩
set_option maxRecDepth 100000 in
theorem OwnK.slc2 {w0 w : World} {v : Value} {cs : List Cl} (h : OwnK w0 w v cs) (hb : Below w0.heap.size w0 w) (hl : cs.length ≤ 200000) : ∃ ao cap, v = .slice ao cs.length cap ∧ SlC w ao cs.length cap cs := by
  obtain ⟨vs, h1, h2⟩ := h
  rcases h1.2 with ⟨rfl, h0⟩ | ⟨g, cap, cur, rfl, hg, hh, hnc, hm, hs, ht⟩
  · rw [h0]
    exact ⟨none, 0, rfl, ⟨h0, Nat.le_refl _, by omega, fun _ => rfl, .inl rfl⟩⟩
  · refine ⟨_, cap, rfl, ⟨rfl, hnc, by omega, (by intro h; cases h), .inr ⟨g, 0, rfl, lt_some hh, ?_⟩⟩⟩
    exact Row5.cat hb 0 h2 (fun j u hu => by
      have := World.ownsRow.cells h1 (g := g) rfl j u hu
      simpa [Addr.add_lit] using this)
set_option maxRecDepth 100000 in
/-- 'append(m, x...)', as app_ck, for more cells. -/
theorem app_ck2 {ops : Array Oper} {rest : List Oper} {o : Oper} {a : Act} {Q : Exit → Act → World → Prop} (w0 w : World) (hgd : o.guard = none) (s x : Operand)
    (ho : o.op = .call { callee := .builtin .append, args := #[s, x], argTypes := #[22, 22] }) (cs ds : List Cl) (v : Value) (b off n c : Nat) (us : List Value) (hs : a.eval s = v) (hx : a.eval x = .slice (some ⟨b, off, none⟩) n c)
    (hown : OwnK w0 w v cs) (hn : ds.length = n) (hr : Row5 w0 us ds) (hc : ∀ j u, us[j]? = some u → w.cell? ⟨b, off + j, none⟩ = some u) (hb : cs.length + n ≤ 200000) (hbase : Below w0.heap.size w0 w)
    (h : ∀ v' w', Hid (OwnK w0 w' v' (cs ++ ds)) → Hid (Below w0.heap.size w0 w') → wpList Tryd.prog ops Q rest (a.put o.dst v') w') : wpList Tryd.prog ops Q (o :: rest) a w := by
  obtain ⟨i0, hi, hz0, hz1, hz2⟩ := info_parts infoC
  obtain ⟨vs, h1, h2⟩ := hown
  refine wpList_append_own_at w hgd s x 22 ho w0.heap.size 31 i0 _ 5 72 Tryd.underlying22 hi hz0 hz1 hz2 rfl (by decide) v cs.length vs hs h1 ⟨b, off, none⟩ n c us hx (by rw [hr.len, hn])
    (fun j u hu => by
      rw [Addr.add_lit]
      exact hc j u hu) hr.one (by unfold maxLen; omega) (by omega) hbase.size ?_
  intro v' w' g1 g2 _ _
  refine h v' w' (hidden ⟨vs ++ us, ?_, Row5.append hr h2⟩) (hidden ?_)
  · rw [List.length_append, hn]
    exact g1
  · exact hbase.trans (own_below h1 hbase.size g2)
end Go.Proofs.YtmdabgpeeelhmaaDoor

/- The walk of the law PlainEncodes. -/

namespace Go.Proofs.YtmdabgpeeelhmaaDoor
open Go.RowKit

set_option maxRecDepth 100000 in
set_option maxHeartbeats 16000000 in
theorem walk_PlainEncodes (kd : Int) (co : Option Addr) (cn cc : Nat) (cs : List Cl) (p : Int) (w : World) (ht : Tab w) (h0 : 1 < w.heap.size) (hs : SlC w co cn cc cs) :
    Calls Tryd.prog 3 #[.int .i64 kd, .slice co cn cc, .int .i64 p] w fun e w' => e = .returned (.bool true) ∧ Below w.heap.size w w' := by
  have HS := hidden hs
  have HT := hidden ht
  have HLEN := hidden hs.hlen
  have HWF := hidden hs.wf
  have HRM := hidden hs.rooms
  have HAW := hidden (awake_any w ht h0)
  clear hs ht
  go_enter Tryd.func3, Tryd.ntmps3
  go_wp2_with (first | (go_at_call 4; refine HAW.out.mono ?_; rintro e w1 ⟨rfl, hb1⟩; have HB1 := hidden hb1; clear hb1; refine Hid.out ?_))
  apply hidden
  have HG := hidden (great_any co cn cc cs w1 (HS.out.on HB1.out))
  clear HAW
  go_wp2_with (first | (go_at_call 5; refine HG.out.mono ?_; rintro e w2 ⟨b, rfl, HBa, HGQ⟩; refine Hid.out ?_))
  apply hidden
  have HB2 : Hid (Below w.heap.size w w2) := hidden (bl_go HB1.out (Nat.le_refl _) HBa.out)
  clear HG HB1 HBa
  cases b with
  | true =>
    go_wp2
    go_ret
    exact ⟨rfl, HB2.out⟩
  | false =>
    obtain ⟨hcn, hsz⟩ := HGQ.out rfl
    have HSZ := hidden hsz
    have hcI : (cn : Int) ≤ 100000 := by omega
    have hc9 : cn ≤ 900000 := by omega
    have HCN := hidden hcn
    have HXL : Hid ((en6 kd p cs).length ≤ 65536) := hidden en6_len
    have HXW : Hid (Wf (en6 kd p cs)) := hidden (en6_wf HWF.out)
    have HENC : Hid (∀ (u : World) (bo : Option Addr) (d : Nat), SlC u bo cn d cs → Tab u → 1 < u.heap.size → Calls Tryd.prog 9 #[.int .i64 kd, .slice bo cn d, .int .i64 p] u fun e w' => ∃ eo en ec, e = .returned (.tuple #[.slice eo en ec, .int .i64 (encE kd p cs)]) ∧ Hid (OwnB w' u.heap.size (.slice eo en ec) (en6 kd p cs)) ∧ Hid (Below u.heap.size u w')) := hidden (fun u bo d h1 h2 h3 => encU6 kd p bo cn d cs u h1 (by have := HSZ.out; omega) h2 h3)
    have HR1 := hidden (rencU6 kd p co cn cc cs w2 (HS.out.on HB2.out) hc9 (by omega))
    obtain ⟨X, hX⟩ : ∃ X, en6 kd p cs = X := ⟨_, rfl⟩
    obtain ⟨E, hE⟩ : ∃ E, encE kd p cs = E := ⟨_, rfl⟩
    rw [hX] at HXL HXW HENC HR1
    rw [hE] at HENC HR1
    clear HGQ hsz hX hE hcn
    go_wp2_with (first | (go_at_call 6; refine HR1.out.mono ?_; rintro e w3 ⟨ro, rn, rc, rfl, HW3, HBb⟩; refine Hid.out ?_))
    apply hidden
    have HB3 : Hid (Below w.heap.size w w3) := hidden (bl_go HB2.out (Nat.le_refl _) HBb.out)
    have hX6 : X.length ≤ 140737488355328 := by have := HXL.out; omega
    have HSW3 : Hid (Sl w3 ro rn rc X) := hidden (HW3.out.sl2 HXW.out hX6)
    have HRS := hidden (rsize6_any kd co cn cc cs w3 (HS.out.on HB3.out) (by have := HSZ.out; omega))
    clear HR1 HW3 HBb HB2
    go_wp2_with (first | (go_at_call 7; refine HRS.out.mono ?_; rintro e w4 ⟨rfl, HBb⟩; refine Hid.out ?_))
    apply hidden
    have HB4 : Hid (Below w.heap.size w w4) := hidden (bl_go HB3.out (Nat.le_refl _) HBb.out)
    have HSW4 : Hid (Sl w4 ro rn rc X) := hidden (HSW3.out.on (Nat.le_refl _) HBb.out)
    have HS4 : Hid (SlC w4 co cn cc cs) := hidden (HS.out.on HB4.out)
    have HT4 : Hid (Tab w4) := hidden (HT.out.on HB4.out h0)
    have HH4 : Hid (1 < w4.heap.size) := hidden (Nat.lt_of_lt_of_le h0 HB4.out.size)
    obtain ⟨Z, hZ⟩ : ∃ Z : Nat, szN cs = Z := ⟨_, rfl⟩
    rw [hZ]
    have HZ := hidden hZ
    clear HRS HSW3 HBb HB3 hZ HT HS
    go_wp2_with fail
    go_loopw [12, 13] (fun v i wr => ∃ (ov : Value) (k : Nat) (fs : List Cl), ov = v ∧ k ≤ cn + 1 ∧ i = .int .i64 k ∧ Hid (OwnK w4 wr ov fs) ∧ Hid (fs.Sublist (cs.take k) ∧ fs.length ≤ k) ∧ Hid (Below w4.heap.size w4 wr)) (fun _ i _ => cn + 2 - (intOf i).toNat)
    case atStart => exact ⟨_, 0, [], rfl, by omega, rfl, hidden (OwnK.nil _ _), hidden ⟨List.nil_sublist _, by simp⟩, hidden (Below.refl _ _)⟩
    case round =>
      obtain ⟨ov, k, fs, hov, hk, rfl, HO, HF, HB⟩ := hrel
      subst hov
      have bk : (k : Int) ≤ 100001 := by omega
      by_cases hlt : k < cn
      · have hltI : (k : Int) < (cn : Int) := by omega
        obtain ⟨b, off, c, ka, kc, va, vc, rfl, hbl, hci, c0, c1, c2, c3, c4, hk1, hv1⟩ := HS4.out.item k hlt
        have d0 := (HB.out.cell (p := ⟨b, off + k * 5, none⟩) hbl).trans c0
        have d1 := (HB.out.cell (p := ⟨b, off + k * 5 + 1, none⟩) hbl).trans c1
        have d2 := (HB.out.cell (p := ⟨b, off + k * 5 + 2, none⟩) hbl).trans c2
        have d3 := (HB.out.cell (p := ⟨b, off + k * 5 + 3, none⟩) hbl).trans c3
        have d4 := (HB.out.cell (p := ⟨b, off + k * 5 + 4, none⟩) hbl).trans c4
        have HRO : Hid (Row5 w4 [.slice ka c.key.length kc, .int .i64 c.kd, .slice va c.val.length vc, .int .i64 c.pg, .int .i64 c.ct] [c]) := hidden ⟨ka, kc, va, vc, [], rfl, hk1, hv1, rfl⟩
        have HCI := hidden hci
        have HBN : Hid (fs.length + 1 ≤ 200000) := hidden (by have := HF.out.2; have := HCN.out; omega)
        have HFN : Hid ((fs ++ [c]).Sublist (cs.take (k + 2)) ∧ (fs ++ [c]).length ≤ k + 2) := hidden (by
          refine ⟨?_, by have := HF.out.2; simp; omega⟩
          have e1 : cs.take (k + 1) = cs.take k ++ [c] := by rw [List.take_add_one, HCI.out]; rfl
          have h1 : (fs ++ [c]).Sublist (cs.take (k + 1)) := by rw [e1]; exact HF.out.1.append (List.Sublist.refl _)
          exact h1.trans (by rw [show cs.take (k + 1) = (cs.take (k + 2)).take (k + 1) by rw [List.take_take, Nat.min_eq_left (by omega)]]; exact List.take_sublist _ _))
        obtain ⟨kn, hkn⟩ : ∃ kn, c.key.length = kn := ⟨_, rfl⟩
        obtain ⟨vn, hvn⟩ : ∃ vn, c.val.length = vn := ⟨_, rfl⟩
        obtain ⟨kd', hkd⟩ : ∃ kd', c.kd = kd' := ⟨_, rfl⟩
        obtain ⟨pg, hpg⟩ : ∃ pg, c.pg = pg := ⟨_, rfl⟩
        obtain ⟨ct, hct⟩ : ∃ ct, c.ct = ct := ⟨_, rfl⟩
        rw [hkn] at d0 HRO
        rw [hkd] at d1 HRO
        rw [hvn] at d2 HRO
        rw [hpg] at d3 HRO
        rw [hct] at d4 HRO
        clear c0 c1 c2 c3 c4 hk1 hv1 hci hkn hvn hkd hpg hct
        obtain ⟨y, hy⟩ : ∃ y, wr.alloc (.cells #[.slice ka kn kc, .int .i64 kd', .slice va vn vc, .int .i64 pg, .int .i64 ct] 31) = y := ⟨_, rfl⟩
        have hby : Below wr.heap.size wr y := by rw [← hy]; exact bl_al (Below.refl _ _) (Nat.le_refl _) _
        have HOY : Hid (OwnK w4 y ov fs) := hidden (HO.out.go hby)
        have HBY : Hid (Below w4.heap.size w4 y) := hidden (bl_go HB.out (Nat.le_refl _) hby)
        have HXY : Hid (∀ j u, ([.slice ka kn kc, .int .i64 kd', .slice va vn vc, .int .i64 pg, .int .i64 ct] : List Value)[j]? = some u → y.cell? ⟨wr.heap.size, 0 + j, none⟩ = some u) := hidden (by
          obtain ⟨f0, f1, f2, f3, f4⟩ := (C5.box wr (.slice ka kn kc) (.int .i64 kd') (.slice va vn vc) (.int .i64 pg) (.int .i64 ct)).cells
          rw [hy] at f0 f1 f2 f3 f4
          intro j u hu
          have hj5 : j < 5 := (List.getElem?_eq_some_iff.1 hu).1
          have hj' : j = 0 ∨ j = 1 ∨ j = 2 ∨ j = 3 ∨ j = 4 := by omega
          rcases hj' with rfl | rfl | rfl | rfl | rfl <;> (simp only [List.getElem?_cons_zero, List.getElem?_cons_succ, Option.some.injEq] at hu; subst hu; assumption))
        clear hby HO HB HF
        go_wp2_with (at_builtin; refine app_ck2 w4 _ rfl _ _ rfl fs [c] ov wr.heap.size 0 1 1 _ rfl rfl HOY.out rfl HRO.out HXY.out HBN.out HBY.out ?_; intro v2 u2 HO2 HBU2; refine Hid.out ?_)
        apply hidden
        clear HOY HBY HXY HRO hy d0 d1 d2 d3 d4
        go_wp2
        go_roundw
        case rel => exact ⟨_, k + 2, _, rfl, by omega, by go_num, HO2, HFN, HBU2⟩
        case measure => simp [intOf]; omega
      · have hltI : ¬ (k : Int) < (cn : Int) := by omega
        have HFL : Hid (fs.length ≤ 200000) := hidden (by have := HF.out.2; have := HCN.out; omega)
        obtain ⟨fo, fc, hv, hfs⟩ := HO.out.slc2 HB.out HFL.out
        subst hv
        have HFS := hidden hfs
        have HFW := hidden hfs.wf
        have HFR := hidden hfs.rooms
        have HFZ : Hid (szN fs ≤ 1099511627776) := hidden (by
          have h1 := szN_sub HF.out.1
          have h2 := szN_sub (List.take_sublist k cs)
          have := HSZ.out
          omega)
        obtain ⟨fn, hfn⟩ : ∃ fn, fs.length = fn := ⟨_, rfl⟩
        rw [hfn] at HFS HFL
        rw [hfn]
        have HFN := hidden hfn
        have hf2 : fn ≤ 200000 := HFL.out
        have hf9 : fn ≤ 900000 := by omega
        have hfI : (fn : Int) ≤ 200000 := by omega
        have HYL : Hid ((en6 kd p fs).length ≤ 65536) := hidden en6_len
        have HYW : Hid (Wf (en6 kd p fs)) := hidden (en6_wf HFW.out)
        have HENF : Hid (∀ (u : World) (bo : Option Addr) (d : Nat), SlC u bo fn d fs → Tab u → 1 < u.heap.size → Calls Tryd.prog 9 #[.int .i64 kd, .slice bo fn d, .int .i64 p] u fun e w' => ∃ eo en ec, e = .returned (.tuple #[.slice eo en ec, .int .i64 (encE kd p fs)]) ∧ Hid (OwnB w' u.heap.size (.slice eo en ec) (en6 kd p fs)) ∧ Hid (Below u.heap.size u w')) := hidden (fun u bo d h1 h2 h3 => encU6 kd p bo fn d fs u h1 HFZ.out h2 h3)
        have HR2 := hidden (rencU6 kd p fo fn fc fs wr HFS.out hf9 HFZ.out)
        obtain ⟨Y, hY⟩ : ∃ Y, en6 kd p fs = Y := ⟨_, rfl⟩
        obtain ⟨F, hF⟩ : ∃ F, encE kd p fs = F := ⟨_, rfl⟩
        rw [hY] at HYL HYW HENF HR2
        rw [hF] at HENF HR2
        have hY6 : Y.length ≤ 140737488355328 := by have := HYL.out; omega
        clear hfs hfn hY hF HF HO hk bk hlt
        go_wp2_with (first | (go_at_call 6; refine HR2.out.mono ?_; rintro e wg ⟨so, sn, sc, rfl, HWg, HBb⟩; refine Hid.out ?_))
        apply hidden
        have HB4g : Hid (Below w4.heap.size w4 wg) := hidden (bl_go HB.out (Nat.le_refl _) HBb.out)
        have HBg : Hid (Below w.heap.size w wg) := hidden (bl_go HB4.out (Nat.le_refl _) HB4g.out)
        have HSY : Hid (Sl wg so sn sc Y) := hidden (HWg.out.sl2 HYW.out hY6)
        have HSX : Hid (Sl wg ro rn rc X) := hidden (HSW4.out.on (Nat.le_refl _) HB4g.out)
        have HSG : Hid (SlC wg co cn cc cs) := hidden (HS4.out.on HB4g.out)
        have HFG : Hid (SlC wg fo fn fc fs) := hidden (HFS.out.on HBb.out)
        have HTG : Hid (Tab wg) := hidden (HT4.out.on HB4g.out HH4.out)
        have HHG : Hid (1 < wg.heap.size) := hidden (Nat.lt_of_lt_of_le HH4.out HB4g.out.size)
        have HLN := hidden (lent6_any co cn cc cs wg HSG.out hc9)
        obtain ⟨R, hR⟩ : ∃ R, wg.heap.size = R := ⟨_, rfl⟩
        rw [hR] at HLN
        clear HR2 HWg HBb HB4g HB HB4 HSW4 HS4 HFS HT4 HH4
        go_wp2_with (first | (go_at_call 8; refine HLN.out.mono ?_; rintro e u1 ⟨rfl, HL1, HBx⟩; refine Hid.out ?_))
        apply hidden
        have HG1 : Hid (Below wg.heap.size wg u1) := hidden (by rw [hR]; exact HBx.out)
        have HRL : Hid (R < u1.heap.size) := hidden (by obtain ⟨g, _, h2, _⟩ := HL1.out; exact h2.lt)
        have HLM := hidden (lent6_any fo fn fc fs u1 (HFG.out.on HG1.out) hf9)
        obtain ⟨L, hL⟩ : ∃ L, u1.heap.size = L := ⟨_, rfl⟩
        rw [hL] at HLM HL1 HRL
        clear HLN HBx
        go_wp2_with (first | (go_at_call 8; refine HLM.out.mono ?_; rintro e u2 ⟨rfl, HM2, HBx⟩; refine Hid.out ?_))
        apply hidden
        have hbx : Below u1.heap.size u1 u2 := by rw [hL]; exact HBx.out
        have HG2 : Hid (Below wg.heap.size wg u2) := hidden (bl_go HG1.out (Nat.le_refl _) hbx)
        have HL2 : Hid (Lent6 u2 R cs cn L) := hidden (HL1.out.on hbx)
        have HML : Hid (L < u2.heap.size) := hidden (by obtain ⟨g, _, h2, _⟩ := HM2.out; exact h2.lt)
        have HSL : Hid (∀ u, Lent6 u R cs cn L → SlC u (some ⟨R, 0, none⟩) cn (cn + 3) cs) := hidden (fun u h => h.slc2 HLEN.out hc9 HWF.out HRM.out)
        obtain ⟨M, hM⟩ : ∃ M, u2.heap.size = M := ⟨_, rfl⟩
        rw [hM] at HM2 HML
        have HSM : Hid (∀ u, Lent6 u L fs fn M → SlC u (some ⟨L, 0, none⟩) fn (fn + 3) fs) := hidden (fun u h => h.slc2 HFN.out hf9 HFW.out HFR.out)
        have HE1 := hidden (HENC.out u2 _ (cn + 3) (HSL.out _ HL2.out) (HTG.out.on HG2.out HHG.out) (Nat.lt_of_lt_of_le HHG.out HG2.out.size))
        rw [hM] at HE1
        clear hbx HBx HLM HL1 HG1 hL
        go_wp2_with (first | (go_at_call 9; refine HE1.out.mono ?_; rintro e u3 ⟨ao, an, ac, rfl, HA3, HBx⟩; refine Hid.out ?_))
        apply hidden
        have hbx : Below u2.heap.size u2 u3 := by rw [hM]; exact HBx.out
        have HG3 : Hid (Below wg.heap.size wg u3) := hidden (bl_go HG2.out (Nat.le_refl _) hbx)
        have HL3 : Hid (Lent6 u3 R cs cn L) := hidden (HL2.out.on hbx)
        have HM3 : Hid (Lent6 u3 L fs fn M) := hidden (HM2.out.on hbx)
        have HS3 : Hid (M ≤ u3.heap.size) := hidden (by rw [← hM]; exact hbx.size)
        have HE2 := hidden (HENC.out u3 _ (cn + 3) (HSL.out _ HL3.out) (HTG.out.on HG3.out HHG.out) (Nat.lt_of_lt_of_le HHG.out HG3.out.size))
        clear hbx HBx HE1 HG2 HL2 HM2 hM
        go_wp2_with (first | (go_at_call 9; refine HE2.out.mono ?_; rintro e u4 ⟨bo, bn, bc, rfl, HB4, HBx⟩; refine Hid.out ?_))
        apply hidden
        have HG4 : Hid (Below wg.heap.size wg u4) := hidden (bl_go HG3.out (Nat.le_refl _) HBx.out)
        have HL4 : Hid (Lent6 u4 R cs cn L) := hidden (HL3.out.on HBx.out)
        have HM4 : Hid (Lent6 u4 L fs fn M) := hidden (HM3.out.on HBx.out)
        have HA4 : Hid (OwnB u4 M (.slice ao an ac) X) := hidden (HA3.out.on (Nat.le_refl _) HBx.out)
        have HNab : Hid ((Value.slice ao an ac).ownBlock = none ∨ (Value.slice ao an ac).ownBlock ≠ (Value.slice bo bn bc).ownBlock) := hidden (own_two HA3.out HB4.out (Nat.le_refl _))
        have HS4 : Hid (u3.heap.size ≤ u4.heap.size) := hidden HBx.out.size
        have HB4M : Hid (OwnB u4 M (.slice bo bn bc) X) := hidden (HB4.out.low HS3.out)
        have HE3 := hidden (HENF.out u4 _ (fn + 3) (HSM.out _ HM4.out) (HTG.out.on HG4.out HHG.out) (Nat.lt_of_lt_of_le HHG.out HG4.out.size))
        clear HBx HE2 HG3 HL3 HM3
        go_wp2_with (first | (go_at_call 9; refine HE3.out.mono ?_; rintro e u5 ⟨eo, en, ec, rfl, HC5, HBx⟩; refine Hid.out ?_))
        apply hidden
        have HG5 : Hid (Below wg.heap.size wg u5) := hidden (bl_go HG4.out (Nat.le_refl _) HBx.out)
        have HL5 : Hid (Lent6 u5 R cs cn L) := hidden (HL4.out.on HBx.out)
        have HM5 : Hid (Lent6 u5 L fs fn M) := hidden (HM4.out.on HBx.out)
        have HSM4 : Hid (M ≤ u4.heap.size) := hidden (Nat.le_trans HS3.out HS4.out)
        have HA5 : Hid (OwnB u5 M (.slice ao an ac) X) := hidden (HA4.out.on (Nat.le_refl _) HBx.out)
        have HB5 : Hid (OwnB u5 M (.slice bo bn bc) X) := hidden (HB4M.out.on (Nat.le_refl _) HBx.out)
        have HNac : Hid ((Value.slice ao an ac).ownBlock = none ∨ (Value.slice ao an ac).ownBlock ≠ (Value.slice eo en ec).ownBlock) := hidden (own_two HA4.out HC5.out (Nat.le_refl _))
        have HNbc : Hid ((Value.slice bo bn bc).ownBlock = none ∨ (Value.slice bo bn bc).ownBlock ≠ (Value.slice eo en ec).ownBlock) := hidden (own_two HB4.out HC5.out (Nat.le_refl _))
        have HC5M : Hid (OwnB u5 M (.slice eo en ec) Y) := hidden (HC5.out.low HSM4.out)
        have HSM5 : Hid (M ≤ u5.heap.size) := hidden (Nat.le_trans HSM4.out HBx.out.size)
        have HE4 := hidden (HENC.out u5 _ (cn + 3) (HSL.out _ HL5.out) (HTG.out.on HG5.out HHG.out) (Nat.lt_of_lt_of_le HHG.out HG5.out.size))
        clear HBx HE3 HG4 HL4 HM4 HA3 HA4 HB4 HB4M HC5 HS3 HS4 HSM4
        go_wp2_with (first | (go_at_call 9; refine HE4.out.mono ?_; rintro e u6 ⟨zo, zn, zc, rfl, HD6, HBx⟩; refine Hid.out ?_))
        apply hidden
        have HG6 : Hid (Below wg.heap.size wg u6) := hidden (bl_go HG5.out (Nat.le_refl _) HBx.out)
        have HL6 : Hid (Lent6 u6 R cs cn L) := hidden (HL5.out.on HBx.out)
        have HM6 : Hid (Lent6 u6 L fs fn M) := hidden (HM5.out.on HBx.out)
        have HA6 : Hid (OwnB u6 M (.slice ao an ac) X) := hidden (HA5.out.on (Nat.le_refl _) HBx.out)
        have HB6 : Hid (OwnB u6 M (.slice bo bn bc) X) := hidden (HB5.out.on (Nat.le_refl _) HBx.out)
        have HC6 : Hid (OwnB u6 M (.slice eo en ec) Y) := hidden (HC5M.out.on (Nat.le_refl _) HBx.out)
        have HNad : Hid ((Value.slice ao an ac).ownBlock = none ∨ (Value.slice ao an ac).ownBlock ≠ (Value.slice zo zn zc).ownBlock) := hidden (own_two HA5.out HD6.out (Nat.le_refl _))
        have HNbd : Hid ((Value.slice bo bn bc).ownBlock = none ∨ (Value.slice bo bn bc).ownBlock ≠ (Value.slice zo zn zc).ownBlock) := hidden (own_two HB5.out HD6.out (Nat.le_refl _))
        have HNcd : Hid ((Value.slice eo en ec).ownBlock = none ∨ (Value.slice eo en ec).ownBlock ≠ (Value.slice zo zn zc).ownBlock) := hidden (own_two HC5M.out HD6.out (Nat.le_refl _))
        have HD6M : Hid (OwnB u6 M (.slice zo zn zc) X) := hidden (HD6.out.low HSM5.out)
        have HSM6 : Hid (M ≤ u6.heap.size) := hidden (Nat.le_trans HSM5.out HBx.out.size)
        have HPS := hidden (size_any kd (some ⟨R, 0, none⟩) cn (cn + 3) cs u6 (HSL.out _ HL6.out) (by have := HSZ.out; omega))
        rw [HZ.out] at HPS
        clear HBx HE4 HG5 HL5 HM5 HA5 HB5 HC5M HD6 HSM5
        go_wp2_with (first | (go_at_call 10; refine HPS.out.mono ?_; rintro e u7 ⟨rfl, hbx⟩; have HBx := hidden hbx; clear hbx; refine Hid.out ?_))
        apply hidden
        have HG7 : Hid (Below wg.heap.size wg u7) := hidden (bl_go HG6.out (Nat.le_refl _) HBx.out)
        have HL7 : Hid (Lent6 u7 R cs cn L) := hidden (HL6.out.on HBx.out)
        have HM7 : Hid (Lent6 u7 L fs fn M) := hidden (HM6.out.on HBx.out)
        have HA7 : Hid (OwnB u7 M (.slice ao an ac) X) := hidden (HA6.out.on (Nat.le_refl _) HBx.out)
        have HB7 : Hid (OwnB u7 M (.slice bo bn bc) X) := hidden (HB6.out.on (Nat.le_refl _) HBx.out)
        have HC7 : Hid (OwnB u7 M (.slice eo en ec) Y) := hidden (HC6.out.on (Nat.le_refl _) HBx.out)
        have HD7 : Hid (OwnB u7 M (.slice zo zn zc) X) := hidden (HD6M.out.on (Nat.le_refl _) HBx.out)
        have HSM7 : Hid (M ≤ u7.heap.size) := hidden (Nat.le_trans HSM6.out HBx.out.size)
        have HRG : Hid (∀ (L' M' : Nat) (a b : World), R ≤ L' → wg.heap.size ≤ a.heap.size → Cf (Bt L' M') a b → Below wg.heap.size a b) := hidden (fun L' M' a b h1 h2 hc => hc.below h2 (fun k hk e => by have := e.1; rw [hR] at hk; omega))
        have HAS := hidden (asLent6_any L R cn co cc cs u7 HL7.out (fun u hu => HSG.out.on (HG7.out.trans (HRG.out _ _ _ _ (Nat.le_refl _) HG7.out.size hu))) hc9)
        clear HBx HPS HG6 HL6 HM6 HA6 HB6 HC6 HD6M HSM6 HL7
        go_wp2_with (first | (go_at_call 11; refine HAS.out.mono ?_; rintro e u8 ⟨rfl, HCx⟩; refine Hid.out ?_))
        apply hidden
        have HG8 : Hid (Below wg.heap.size wg u8) := hidden (HG7.out.trans (HRG.out _ _ _ _ (Nat.le_refl _) HG7.out.size HCx.out))
        have HM8 : Hid (Lent6 u8 L fs fn M) := hidden (HM7.out.cf HCx.out (fun k h1 _ e => by have := e.2; omega))
        have HKP : Hid (∀ v l, OwnB u7 M v l → OwnB u8 M v l) := hidden (fun v l h => h.cfX HCx.out (fun k hk e => by have := own_in h hk; have := e.2; have := HML.out; omega))
        have HA8 := hidden (HKP.out _ _ HA7.out)
        have HB8 := hidden (HKP.out _ _ HB7.out)
        have HC8 := hidden (HKP.out _ _ HC7.out)
        have HD8 := hidden (HKP.out _ _ HD7.out)
        have HSM8 : Hid (M ≤ u8.heap.size) := hidden (Nat.le_trans HSM7.out HCx.out.size)
        have HBS := hidden (asLent6_any M L fn fo fc fs u8 HM8.out (fun u hu => HFG.out.on (HG8.out.trans (HRG.out _ _ _ _ (Nat.le_of_lt HRL.out) HG8.out.size hu))) hf9)
        clear HCx HAS HG7 HM7 HA7 HB7 HC7 HD7 HSM7 HKP HM8
        go_wp2_with (first | (go_at_call 11; refine HBS.out.mono ?_; rintro e u9 ⟨rfl, HCx⟩; refine Hid.out ?_))
        apply hidden
        have HG9 : Hid (Below wg.heap.size wg u9) := hidden (HG8.out.trans (HRG.out _ _ _ _ (Nat.le_of_lt HRL.out) HG8.out.size HCx.out))
        have HKP : Hid (∀ v l, OwnB u8 M v l → OwnB u9 M v l) := hidden (fun v l h => h.cfX HCx.out (fun k hk e => by have := own_in h hk; have := e.2; omega))
        have HA9 := hidden (HKP.out _ _ HA8.out)
        have HB9 := hidden (HKP.out _ _ HB8.out)
        have HC9 := hidden (HKP.out _ _ HC8.out)
        have HD9 := hidden (HKP.out _ _ HD8.out)
        have HSM9 : Hid (M ≤ u9.heap.size) := hidden (Nat.le_trans HSM8.out HCx.out.size)
        have HGM : Hid (wg.heap.size ≤ M) := hidden (by rw [hR]; have := HRL.out; have := HML.out; omega)
        have k1 := conv_sl (HA9.out.sl2 HXW.out hX6)
        have k2 := conv_sl (HB9.out.sl2 HXW.out hX6)
        have k3 := conv_sl (HC9.out.sl2 HYW.out hY6)
        have k4 := conv_sl (HD9.out.sl2 HXW.out hX6)
        have k5 := conv_sl (HSX.out.on (Nat.le_refl _) HG9.out)
        have k6 := conv_sl (HSY.out.on (Nat.le_refl _) HG9.out)
        obtain ⟨S, hS⟩ : ∃ S, strOfNums X = S := ⟨_, rfl⟩
        obtain ⟨T, hT⟩ : ∃ T, strOfNums Y = T := ⟨_, rfl⟩
        rw [hS] at k1 k2 k4 k5
        rw [hT] at k3 k6
        have eS : (S.toList == S.toList) = true := by simp
        have eT : (T.toList == T.toList) = true := by simp
        have eE : (E == E) = true := by simp
        have eF : (F == F) = true := by simp
        have eZ : ((Z : Int) == (Z : Int)) = true := by simp
        clear HCx HBS HG8 HA8 HB8 HC8 HD8 HSM8 HKP hS hT
        go_wp2_with (first | (go_at_call 12; refine Hid.out ?_))
        apply hidden
        clear k1 k2 k3 k4 k5 k6 eS eT eE eF eZ
        obtain ⟨bk, hbk⟩ : ∃ bk, u9.heap.size = bk := ⟨_, rfl⟩
        obtain ⟨x, hx⟩ : ∃ x, u9.alloc (.cells #[.slice none 0 0] 37) = x := ⟨_, rfl⟩
        have hbx : Below u9.heap.size u9 x := by rw [← hx]; exact bl_al (Below.refl _ _) (Nat.le_refl _) _
        have HX0 : Hid (Bo9 x M bk (.slice none 0 0) [] (fun _ => [])) := hidden (box9 (by rw [← hx, ← hbk]; exact Array.getElem?_push_size))
        have HGx : Hid (Below wg.heap.size wg x) := hidden (bl_go HG9.out (Nat.le_refl _) hbx)
        have HAx : Hid (OwnB x M (.slice ao an ac) X) := hidden (HA9.out.on (Nat.le_refl _) hbx)
        have HBx : Hid (OwnB x M (.slice bo bn bc) X) := hidden (HB9.out.on (Nat.le_refl _) hbx)
        have HCx : Hid (OwnB x M (.slice eo en ec) Y) := hidden (HC9.out.on (Nat.le_refl _) hbx)
        have HDx : Hid (OwnB x M (.slice zo zn zc) X) := hidden (HD9.out.on (Nat.le_refl _) hbx)
        have HSx : Hid (M ≤ x.heap.size) := hidden (Nat.le_trans HSM9.out hbx.size)
        have HBk : Hid (M ≤ bk) := hidden (by rw [← hbk]; exact HSM9.out)
        rw [hx, hbk]
        clear hx hbk hbx HA9 HB9 HC9 HD9 HG9 HSM9
        have HT1 := hidden (take9B x M bk _ _ _ ao an ac _ HX0.out (by simp) HSx.out HBk.out HAx.out HXW.out HXL.out (fun t u ht => by simp at ht))
        refine HT1.out.mono ?_
        rintro e x1 ⟨rfl, v1, D1', HX1, HY1, HO1⟩
        have HG1 : Hid (Below wg.heap.size wg x1) := hidden (HGx.out.trans (HY1.out.below HGx.out.size (fun k hk e => by have := HGM.out; omega)))
        have HS1 : Hid (M ≤ x1.heap.size) := hidden (Nat.le_trans HSx.out HY1.out.size)
        have HA1 := hidden (HO1.out _ _ _ HAx.out)
        have HB1 := hidden (HO1.out _ _ _ HBx.out)
        have HC1 := hidden (HO1.out _ _ _ HCx.out)
        have HD1 := hidden (HO1.out _ _ _ HDx.out)
        have HT2 := hidden (take9B x1 M bk _ _ _ bo bn bc _ HX1.out (by simp) HS1.out HBk.out HB1.out HXW.out HXL.out (fun t u ht => by
          have ht0 : t = 0 := by have := (List.getElem?_eq_some_iff.1 ht).1; simpa using this
          subst ht0
          simp at ht
          subst ht
          exact HNab.out))
        clear HT1 HX0 HY1 HO1 HX1 HGx HSx HAx HBx HCx HDx
        go_wp2_with (first | (go_at_call 12; refine HT2.out.mono ?_; rintro e x2 ⟨rfl, v2, D2', HX2, HY2, HO2⟩; refine Hid.out ?_))
        apply hidden
        have HG2 : Hid (Below wg.heap.size wg x2) := hidden (HG1.out.trans (HY2.out.below HG1.out.size (fun k hk e => by have := HGM.out; omega)))
        have HS2 : Hid (M ≤ x2.heap.size) := hidden (Nat.le_trans HS1.out HY2.out.size)
        have HA2 := hidden (HO2.out _ _ _ HA1.out)
        have HB2 := hidden (HO2.out _ _ _ HB1.out)
        have HC2 := hidden (HO2.out _ _ _ HC1.out)
        have HD2 := hidden (HO2.out _ _ _ HD1.out)
        have HT3 := hidden (take9B x2 M bk _ _ _ eo en ec _ HX2.out (by simp) HS2.out HBk.out HC2.out HYW.out HYL.out (fun t u ht => by
          have ht0 : t < 2 := by have := (List.getElem?_eq_some_iff.1 ht).1; simpa using this
          have : t = 0 ∨ t = 1 := by omega
          rcases this with rfl | rfl
          · simp at ht
            subst ht
            exact HNac.out
          · simp at ht
            subst ht
            exact HNbc.out))
        clear HT2 HY2 HO2 HX2 HG1 HS1 HA1 HB1 HC1 HD1
        go_wp2_with (first | (go_at_call 12; refine HT3.out.mono ?_; rintro e x3 ⟨rfl, v3, D3', HX3, HY3, HO3⟩; refine Hid.out ?_))
        apply hidden
        have HG3 : Hid (Below wg.heap.size wg x3) := hidden (HG2.out.trans (HY3.out.below HG2.out.size (fun k hk e => by have := HGM.out; omega)))
        have HS3 : Hid (M ≤ x3.heap.size) := hidden (Nat.le_trans HS2.out HY3.out.size)
        have HA3 := hidden (HO3.out _ _ _ HA2.out)
        have HB3 := hidden (HO3.out _ _ _ HB2.out)
        have HC3 := hidden (HO3.out _ _ _ HC2.out)
        have HD3 := hidden (HO3.out _ _ _ HD2.out)
        have HT4 := hidden (take9B x3 M bk _ _ _ zo zn zc _ HX3.out (by simp) HS3.out HBk.out HD3.out HXW.out HXL.out (fun t u ht => by
          have ht0 : t < 3 := by have := (List.getElem?_eq_some_iff.1 ht).1; simpa using this
          have : t = 0 ∨ t = 1 ∨ t = 2 := by omega
          rcases this with rfl | rfl | rfl
          · simp at ht
            subst ht
            exact HNad.out
          · simp at ht
            subst ht
            exact HNbd.out
          · simp at ht
            subst ht
            exact HNcd.out))
        clear HT3 HY3 HO3 HX3 HG2 HS2 HA2 HB2 HC2 HD2
        go_wp2_with (first | (go_at_call 12; refine HT4.out.mono ?_; rintro e x4 ⟨rfl, v4, D4', HX4, HY4, HO4⟩; refine Hid.out ?_))
        apply hidden
        have HG4 : Hid (Below wg.heap.size wg x4) := hidden (HG3.out.trans (HY4.out.below HG3.out.size (fun k hk e => by have := HGM.out; omega)))
        have HS4 : Hid (M ≤ x4.heap.size) := hidden (Nat.le_trans HS3.out HY4.out.size)
        have HOW := hidden (owned9F (fun z => M ≤ z) x4 M bk 4 _ _ _ HX4.out (fun t u ht => by
          have ht2 : t < 4 := by have := (List.getElem?_eq_some_iff.1 ht).1; simpa using this
          have : t = 0 ∨ t = 1 ∨ t = 2 ∨ t = 3 := by omega
          rcases this with rfl | rfl | rfl | rfl
          · simp at ht
            subst ht
            exact Fo.of (fun z hz => (own_in HA3.out hz).1)
          · simp at ht
            subst ht
            exact Fo.of (fun z hz => (own_in HB3.out hz).1)
          · simp at ht
            subst ht
            exact Fo.of (fun z hz => (own_in HC3.out hz).1)
          · simp at ht
            subst ht
            exact Fo.of (fun z hz => (own_in HD3.out hz).1)) (by simp) (by omega) HS4.out)
        clear HT4 HY4 HO4 HX4 HG3 HS3 HA3 HB3 HC3 HD3
        go_wp2_with (first | (go_at_call 13; refine HOW.out.mono ?_; rintro e x5 ⟨rfl, HY5⟩))
        go_ret
        exact ⟨rfl, bl_go HBg.out (Nat.le_refl _) (HG4.out.trans (HY5.out.below HG4.out.size (fun k hk e => by have := HGM.out; omega)))⟩
end Go.Proofs.YtmdabgpeeelhmaaDoor
