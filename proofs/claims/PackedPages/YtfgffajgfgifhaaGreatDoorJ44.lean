import Derived.Test.YtfgffajgfgifhaaGreatDoorJ43
namespace Go.Proofs.YtfgffajgfgifhaaGreatDoor
set_option maxRecDepth 100000
set_option maxHeartbeats 8000000
open Go.RowKit
def remN (i q : Nat) : Nat := if q ≤ i then q else q - 1
def remV (vs : List Value) (i q : Nat) : List Value := if q ≤ i then vs.take (q * 5) else vs.take (i * 5) ++ (vs.drop ((i + 1) * 5)).take ((q - 1 - i) * 5)
theorem rem_step (vs : List Value) (i q : Nat) (h : ¬ q = i) : remN i (q + 1) = remN i q + 1 ∧ remV vs i (q + 1) = remV vs i q ++ (vs.drop (q * 5)).take 5 := by
 unfold remN remV
 by_cases h1 : q < i
 ·rw [if_pos (by omega), if_pos (by omega), if_pos (by omega), if_pos (by omega)]
  exact ⟨rfl, take_five vs q⟩
 ·rw [if_neg (by omega), if_neg (by omega), if_neg (by omega), if_neg (by omega)]
  refine ⟨by omega, ?_⟩
  rw [zM, show q + 1 - 1 - i = q - 1 - i + 1 by omega, take_five, List.drop_drop, show (i + 1) * 5 + (q - 1 - i) * 5 = q * 5 by omega]
theorem rem_skip (vs : List Value) (i : Nat) : remN i (i + 1) = remN i i ∧ remV vs i (i + 1) = remV vs i i := by
 unfold remN remV
 rw [if_neg (by omega), if_pos (by omega), if_neg (by omega), if_pos (by omega)]
 refine ⟨by omega, ?_⟩
 rw [show i + 1 - 1 - i = 0 by omega]
 simp
theorem rem_end (vs : List Value) (i N : Nat) (hi : i < N) (hl : vs.length = N * 5) : remN i N = N - 1 ∧ remV vs i N = vs.take (i * 5) ++ vs.drop ((i + 1) * 5) := by
 unfold remN remV
 rw [if_neg (by omega), if_neg (by omega)]
 refine ⟨rfl, ?_⟩
 rw [List.take_of_length_le (l := vs.drop ((i + 1) * 5)) (by rw [zK]; omega)]
theorem cut_mem {α : Type} {l : List α} {i j : Nat} {x : α} (h : x ∈ l.take i ++ l.drop j) : x ∈ l := by
 rcases List.mem_append.1 h with h | h
 ·exact List.mem_of_mem_take h
 ·exact List.mem_of_mem_drop h
theorem Qok.laidR {k : Int} {n : Nat} {s : Qs} (h : Qok k n s) (i : Nat) (hz : szQ k (shP k (s.cs.take i ++ s.cs.drop (i + 1))).length (s.cs.take i ++ s.cs.drop (i + 1)) ≤ n) : Qok k n ⟨shP k (s.cs.take i ++ s.cs.drop (i + 1)), s.cs.take i ++ s.cs.drop (i + 1), 0⟩ := by
 refine ⟨zbe k _, rs_cut i (i + 1) (by omega) h.rs, fun d hd => h.may d (cut_mem hd), fun d hd => h.wf d (cut_mem hd), ?_⟩
 rw [zca]
 simpa using hz
theorem Qok.remR {k : Int} {n : Nat} {s : Qs} (h : Qok k n s) {i : Nat} {d : Cl} (hd : s.cs[i]? = some d) (hk : ¬ (k = 3 ∧ i = 0)) : Qok k n ⟨s.P, s.cs.take i ++ s.cs.drop (i + 1), s.ws + (qB s.P.length d).length⟩ := by
 have hi := (zH.1 hd).1
 refine ⟨beg_of fun q e he hq => ?_, rs_cut i (i + 1) (by omega) h.rs, fun e he => h.may e (cut_mem he), fun e he => h.wf e (cut_mem he), ?_⟩
 ·rw [cut_get _ _ _ (by omega)] at he
  split at he
  ·exact h.beg e (zaw he hq)
  ·exact h.beg e (zaw he (by omega))
 ·have h1 := h.fit
  have h2 := lvQ_rem k s.P s.cs i (i + 1) d rfl hd hk
  unfold filQ at *
  simp only [zG, zJ, zK]
  omega
theorem dremove_any (w : World) (K : Nat → Prop) (r : Nat) (k : Int) (n : Nat) (s : Qs) (h : Dm w K r k n s) (hn : pw n) (I : Int) :
  Calls Tryz.prog 34 #[.pointer (some ⟨r, 0, none⟩), .int .i64 I] w (ChD (RemR k n s I) K r k n w) := by
 have hn2 := zai hn
 obtain ⟨lo, N, lc, vs, so, sn, sc, hA⟩ := h
 obtain ⟨l1, l2, l3, l4, l5⟩ := hA.lens hn
 have HM0 := zaa (Mid.start hA)
 obtain ⟨t0, t1, t2, t3, t4⟩ := HM0.out.row.cells
 have HOK := zaa hA.ok
 have HL := zaa (And.intro l1 l2)
 have NI : (N : Int) ≤ 65000 := by omega
 by_cases hin : 0 ≤ I ∧ I < (N : Int)
 ·obtain ⟨i, rfl⟩ : ∃ i : Nat, I = (i : Int) := ⟨I.toNat, by omega⟩
  have hiN : i < N := by omega
  have hn0 : ¬ (i : Int) < 0 := by omega
  have hnN : ¬ (N : Int) ≤ (i : Int) := by omega
  have hiNI : (i : Int) < (N : Int) := by omega
  obtain ⟨d, hd⟩ : ∃ d, s.cs[i]? = some d := ⟨_, zI (by omega)⟩
  have HDD := zaa hd
  obtain ⟨g, d', dka, dkc, dva, dvc, hlo, hd', e0, e1, e2, e3, e4, _, hdk, hdv⟩ := HM0.out.cells.item i hiN
  rw [hd] at hd'
  injection hd' with hd'
  subst hd' hlo
  obtain ⟨L, hL⟩ : ∃ L, (qB (hdQ k i s.P).length d).length = L := ⟨_, rfl⟩
  have hft := (HOK.out.may d (List.mem_of_getElem? hd)).fit (by omega)
  have hLb : L ≤ 200000 := by
   have := qB_most (hdQ k i s.P).length d
   have := hft.key
   have := hft.val
   omega
  have LI : (L : Int) ≤ 200000 := by omega
  have HBY : Hid (∀ u, Below w.heap.size w u → Calls Tryz.prog 74 #[.int .i64 k, .int .i64 (i : Int), .agg #[.slice dka d.key.length dkc, .int .i64 d.kd, .slice dva d.val.length dvc, .int .i64 d.pg, .int .i64 d.ct], .int .i64 (sn : Int)] u fun e w' => ∃ ao cp, e = .returned (.slice ao L cp) ∧ Hid (Below w.heap.size w w')) := zaa fun u hu => by
   have h2 := hft.key
   have h3 := hft.val
   refine (rbytesG_any k (i : Int) d dka dva dkc dvc sn u (hdk.on Lr hu) (hdv.on Lr hu) (by omega)).mono ?_
   rintro e w' ⟨v, rfl, HO, HB⟩
   have hcu : cutG k (i : Int) sn d.key.length = (hdQ k i s.P).length := by
    unfold cutG hdQ
    by_cases hh : k = 3 ∧ i = 0
    ·rw [if_pos (.inl ⟨hh.1, by omega⟩), if_pos hh]; rfl
    ·have h4 := zbv (HOK.out.beg d (zaw hd hh))
     have h5 := HL.out.2
     rw [if_neg (by omega), if_neg hh, h5]
   obtain ⟨ao, cp, rfl⟩ := HO.out.shape
   rw [hcu, hL]
   exact ⟨ao, cp, rfl, zaa (zab hu Lr HB.out)⟩
  have HLL := zaa hL
  obtain ⟨kd', hkd'⟩ : ∃ y, d.kd = y := ⟨_, rfl⟩
  obtain ⟨pg', hpg'⟩ : ∃ y, d.pg = y := ⟨_, rfl⟩
  obtain ⟨ct', hct'⟩ : ∃ y, d.ct = y := ⟨_, rfl⟩
  obtain ⟨kn', hkn'⟩ : ∃ y, d.key.length = y := ⟨_, rfl⟩
  obtain ⟨vn', hvn'⟩ : ∃ y, d.val.length = y := ⟨_, rfl⟩
  rw [hkd', hpg', hct', hkn', hvn'] at HBY
  rw [hkn'] at e0
  rw [hkd'] at e1
  rw [hvn'] at e2
  rw [hpg'] at e3
  rw [hct'] at e4
  have snI : (sn : Int) ≤ 65536 := by omega
  have HPN := zaa hn
  have HKL := zaa hA.kl
  have HVL : Hid (vs.length = N * 5) := zaa hA.cells.own.1
  clear hd hdk hdv hL hkd' hpg' hct' hkn' hvn' hA l1 l2 hin hn hn2 hft
  go_enter Tryz.func34, Tryz.ntmps34
  go_upto_region 3 with fail
  go_cut [5] from 20 to 37 (fun v u => ∃ ao cp, v = .slice ao L cp ∧ Hid (Below w.heap.size w u))
  case first =>
   go_wp2_with fail
   go_region_with (first | (go_at_call 74; refine (HBY.out _ (by first | exact Br | exact Br.drew | exact zad Br _)).mono ?_; rintro e w4 ⟨ao, cp, rfl, HB4⟩))
   all_goals (try go_wp2_with fail)
   all_goals go_meet
   all_goals exact ⟨_, _, rfl, by first | exact HB4 | exact zaa HB4.out.drew | exact zaa (zad HB4.out _)⟩
  obtain ⟨bao, bcp, rfl, HBC⟩ := hcut
  obtain ⟨x, hx⟩ : ∃ x, x = wc := ⟨_, rfl⟩
  subst hx
  have HMX := zaa (HM0.out.go HBC.out)
  clear t0 t1 t2 t3 t4 e0 e1 e2 e3 e4 HBY
  go_wp2_with fail
  go_loopw [6, 7] (fun o kv wr => ∃ (q : Nat) (ov : Value), ov = o ∧ q ≤ N ∧ kv = .int .i64 (q : Int) ∧ Hid (wr.ownsRow x.heap.size 39 5 ov (remN i q) (remV vs i q)) ∧ Hid (Below x.heap.size x wr)) (fun _ kv _ => N - (intOf kv).toNat)
  case atStart => exact ⟨0, _, rfl, by omega, rfl, zaa (by simpa [remN, remV] using World.ownsRow_nil _ _ _ _), zaa Br⟩
  case round =>
   obtain ⟨q, ov, rfl, hq, rfl, HO, HB⟩ := hrel
   have qI : (q : Int) ≤ 65536 := by omega
   have HMW := zaa (HMX.out.go HB.out)
   obtain ⟨t0, t1, t2, t3, t4⟩ := HMW.out.row.cells
   by_cases hlt : q < N
   ·have hqN : (q : Int) < (N : Int) := by omega
    by_cases hqi : q = i
    ·have hqiI : (q : Int) = (i : Int) := by omega
     have HO2 : Hid (wr.ownsRow x.heap.size 39 5 ov (remN i (q + 1)) (remV vs i (q + 1))) := zaa (by
      rw [hqi, (rem_skip vs i).1, (rem_skip vs i).2, ← hqi]
      exact hqi ▸ HO.out)
     clear HO
     go_wp2
     go_roundw
     case rel => exact ⟨q + 1, _, rfl, by omega, by go_num, HO2, HB⟩
     case measure => simp [intOf]; omega
    ·have hqiI : ¬ (q : Int) = (i : Int) := by omega
     obtain ⟨g', e, ka', kc', va', vc', hg', hci, d0, d1, d2, d3, d4, hvs, hk', hv'⟩ := HMW.out.cells.item q hlt
     injection hg' with hg'
     injection hg' with hg'
     subst hg'
     obtain ⟨kn, hkn⟩ : ∃ kn, e.key.length = kn := ⟨_, rfl⟩
     obtain ⟨vn, hvn⟩ : ∃ vn, e.val.length = vn := ⟨_, rfl⟩
     obtain ⟨kd', hkd⟩ : ∃ kd', e.kd = kd' := ⟨_, rfl⟩
     obtain ⟨pg, hpg⟩ : ∃ pg, e.pg = pg := ⟨_, rfl⟩
     obtain ⟨ct, hct⟩ : ∃ ct, e.ct = ct := ⟨_, rfl⟩
     rw [hkn] at d0 hvs
     rw [hkd] at d1 hvs
     rw [hvn] at d2 hvs
     rw [hpg] at d3 hvs
     rw [hct] at d4 hvs
     obtain ⟨y, hy⟩ : ∃ y, wr.alloc (.cells #[.slice ka' kn kc', .int .i64 kd', .slice va' vn vc', .int .i64 pg, .int .i64 ct] 39) = y := ⟨_, rfl⟩
     have hby : Below wr.heap.size wr y := by rw [← hy]; exact zac Br Lr _
     have HOY := zaa (own_go HO.out hby)
     have HBY : Hid (Below x.heap.size x y) := zaa (zab HB.out Lr hby)
     have HXY := zaa (five_at hy)
     have HTK : Hid (remN i (q + 1) = remN i q + 1 ∧ remV vs i (q + 1) = remV vs i q ++ [.slice ka' kn kc', .int .i64 kd', .slice va' vn vc', .int .i64 pg, .int .i64 ct]) := zaa (by
      have h1 := rem_step vs i q hqi
      rw [hvs] at h1
      exact h1)
     obtain ⟨M, hM⟩ : ∃ M, remN i q = M := ⟨_, rfl⟩
     have hMb : M + 1 ≤ 1000000 := by rw [← hM]; unfold remN; split <;> omega
     rw [hM] at HOY HTK
     clear hby HO HB hk' hv' hci hkn hvn hkd hpg hct hvs hM hqi
     go_wp2_with (at_builtin; refine app_v _ x.heap.size rfl _ _ rfl M (remV vs i q) ov wr.heap.size _ rfl rfl HOY.out rfl (five_one _ _ _ _ _ _ _ _ _) HXY.out hMb HBY.out.size ?_; intro v2 u2 HO2 HBU2 HG2; refine Hid.out ?_)
     apply zaa
     have HBU : Hid (Below x.heap.size x u2) := zaa (HBY.out.trans HBU2.out)
     rw [← HTK.out.1, ← HTK.out.2] at HO2
     clear HOY HBY HXY hy d0 d1 d2 d3 d4 HBU2 HG2 t0 t1 t2 t3 t4 hMb
     go_wp2
     go_roundw
     case rel => exact ⟨q + 1, _, rfl, by omega, by go_num, HO2, HBU⟩
     case measure => simp [intOf]; omega
   ·obtain rfl : q = N := by omega
    have hqN : ¬ (q : Int) < (q : Int) := by omega
    obtain ⟨ds, hds⟩ : ∃ ds, s.cs.take i ++ s.cs.drop (i + 1) = ds := ⟨_, rfl⟩
    have HDS := zaa hds
    obtain ⟨M, hM⟩ : ∃ M, q - 1 = M := ⟨_, rfl⟩
    have HRW : Hid (∃ lo' lc' vs', ov = .slice lo' M lc' ∧ RwK wr (Zk K w wr) lo' M lc' vs' ds) := zaa (by
     have ho := HO.out
     have hre := rem_end vs i q hiN HVL.out
     rw [hre.1, hre.2, hM] at ho
     have hrows : ∀ u, Agr (Zk K w wr) wr u → Row5 u (vs.take (i * 5) ++ vs.drop ((i + 1) * 5)) ds := fun u hu => by
      have hr := HMW.out.cells.rows u hu
      rw [← hds]
      exact Row5.append (hr.drop (i + 1)) (hr.take i)
     have hlen : ds.length = M := by
      have := HL.out.1
      rw [← hds]
      simp only [zG, zJ, zK]
      omega
     rcases ho.2 with ⟨e1, h0⟩ | ⟨g, cap, cur, e1, hg, hh, rr⟩
     ·exact ⟨none, 0, _, by rw [e1, h0], ⟨⟨ho.1, .inl ⟨by rw [h0], h0⟩⟩, hlen, (fun z hz => by simp [Value.ownBlock] at hz), hrows⟩⟩
     ·refine ⟨some ⟨g, 0, none⟩, cap, _, e1, ⟨⟨ho.1, .inr ⟨g, cap, cur, rfl, Nat.zero_le _, hh, rr⟩⟩, hlen, (fun z hz => ?_), hrows⟩⟩
      simp only [Value.ownBlock] at hz
      injection hz with hz
      subst hz
      exact .inr ⟨zN HBC.out.size hg, zag hh⟩)
    obtain ⟨lo', lc', vs', rfl, hrw⟩ := HRW.out
    have HR1 := zaa hrw
    have HMM : Hid (M + 1 = s.cs.length ∧ M ≤ 65000 ∧ ds.length = M) := zaa (by have := HL.out.1; have := hrw.len; omega)
    have MI : (M : Int) ≤ 65000 := by omega
    have HAF : Hid (∀ e ∈ ds, e.fit) := zaa fun e he => by
     have h0 := zai HPN.out
     rw [← HDS.out] at he
     exact (HOK.out.may e (cut_mem he)).fit (by omega)
    obtain ⟨Z, hZ0⟩ : ∃ Z, szQ k (shP k ds).length ds = Z := ⟨_, rfl⟩
    have HZ := zaa hZ0
    have HSZ : Hid (Calls Tryz.prog 75 #[.int .i64 k, .slice lo' M lc'] wr fun e w' => e = .returned (.int .i64 (Z : Int)) ∧ Hid (Below wr.heap.size wr w')) := zaa (by
     have h1 := zdb k _ M lc' ds wr (HR1.out.slc (by have := HMM.out; omega)) (by have := HMM.out; omega) (fun e he => by have := (HAF.out e he).key; have := (HAF.out e he).val; omega) (szQ_big k ds HAF.out (by have := HMM.out; omega))
     rw [HZ.out] at h1
     exact h1)
    have HRL : Hid ((k = 3 ∧ i = 0) ∨ s.cs.length = 1 → ∀ code t, LayR k n s ds code t → RemR k n s (i : Int) code t) := zaa fun e code t hl => .inr ⟨i, d, rfl, HDD.out, .inl ⟨e, by rw [HDS.out]; exact hl⟩⟩
    have HQN : Hid (szQ k (shP k ds).length ds ≤ n → Qok k n ⟨shP k ds, ds, 0⟩) := zaa fun e => by
     rw [← HDS.out] at e ⊢
     exact HOK.out.laidR i e
    have HZ0 : Hid (M = 0 → szQ k (shP k ds).length ds ≤ n) := zaa fun e => by
     have h0 := zai HPN.out
     have h1 : ds = [] := List.eq_nil_of_length_eq_zero (by have := HMM.out; omega)
     rw [h1]
     have h2 := zal k (shP k []).length []
     have h3 : szQ k (shP k []).length [] ≤ 10 := by
      simp [szQ, shP, ktl, shr, qsm]
     omega
    obtain ⟨W, hW⟩ : ∃ W, s.ws + L = W := ⟨_, rfl⟩
    have hWI : (s.ws : Int) + (L : Int) = (W : Int) := by omega
    have hWw : IntKind.i64.wrap (W : Int) = (W : Int) := by rw [IntKind.wrap_i64]; omega
    have hWb : (W : Int) ≤ 300000 := by omega
    have HWW : Hid (¬ (k = 3 ∧ i = 0) → s.ws + (qB s.P.length d).length = W) := zaa fun e => by
     have h1 := HLL.out
     rw [show hdQ k i s.P = s.P by unfold hdQ; rw [if_neg e]] at h1
     omega
    have HQP : Hid (¬ (k = 3 ∧ i = 0) → Qok k n ⟨s.P, ds, W⟩) := zaa fun e => by
     have h1 := HOK.out.remR HDD.out e
     rwa [HDS.out, HWW.out e] at h1
    have HRP : Hid (¬ (k = 3 ∧ i = 0) → ¬ s.cs.length = 1 → RemR k n s (i : Int) 0 ⟨s.P, ds, W⟩) := zaa fun e f => .inr ⟨i, d, rfl, HDD.out, .inr ⟨fun h => h.elim e f, rfl, by rw [HDS.out, HWW.out e]⟩⟩
    clear HO HRW hrw hZ0 hds hM hlt hq hiN
    go_wp2_with (go_at_call 75; refine HSZ.out.mono ?_; rintro e uc ⟨rfl, HB5⟩; refine Hid.out ?_)
    apply zaa
    have HMc := zaa (HMW.out.go HB5.out)
    have HR2 := zaa ((HR1.out.keep (Agr.below HMW.out.lt HB5.out)).wide (zk_sub HB5.out.size))
    obtain ⟨uL, huL⟩ : ∃ u3, uc.setCell ⟨r, 2, none⟩ (.slice lo' M lc') = u3 := ⟨_, rfl⟩
    obtain ⟨u3, hu3⟩ : ∃ u3, uL.setCell ⟨r, 4, none⟩ (.int .i64 (W : Int)) = u3 := ⟨_, rfl⟩
    have HML : Hid (Mid w uL K r k n lo' M lc' vs' ds so sn sc s.P s.ws) := zaa (by rw [← huL]; exact HMc.out.hang HR2.out)
    have hcf3 : Cf (· = r) uL u3 := by rw [← hu3]; exact Cf.set _ _ _ _
    have HM3 : Hid (Mid w u3 K r k n lo' M lc' vs' ds so sn sc s.P W) := zaa (HML.out.set hcf3 (by rw [← hu3]; exact HML.out.row.set4 _))
    have HTD : Hid (∀ u, Mid w u K r k n lo' M lc' vs' ds so sn sc s.P W → szQ k (shP k ds).length ds ≤ n → Calls Tryz.prog 35 #[.pointer (some ⟨r, 0, none⟩)] u fun e w' => e = .returned (.tuple #[]) ∧ Hid (∃ so sn sc, Mid w w' K r k n lo' M lc' vs' ds so sn sc (shP k ds) 0)) := zaa fun u hm h1 => by
     have h0 := zai HPN.out
     have h2 := zal k (shP k ds).length ds
     obtain ⟨h4, h5, h6⟩ := HMM.out
     refine dtidy_mid hm (by omega) (fun e he => ?_) (by omega)
     rw [← HDS.out] at he
     exact HOK.out.wf e (cut_mem he)
    clear t0 t1 t2 t3 t4
    obtain ⟨t0, t1, t2, t3, t4⟩ := HMc.out.row.cells
    have f2 := HMc.out.row.free 2
    obtain ⟨v0, v1, v2, v3, v4⟩ := HML.out.row.cells
    have f4 := HML.out.row.free 4
    obtain ⟨y0, y1, y2, y3, y4⟩ := HM3.out.row.cells
    have nI : (n : Int) ≤ 65536 := by have := zai HPN.out; omega
    clear hcf3 HR1 HR2 HSZ hW
    by_cases hk3 : k = 3
    ·have hk3B : decide (k = 3) = true := decide_eq_true hk3
     by_cases hi0 : i = 0
     ·have hi0I : (i : Int) = 0 := by omega
      have hi0B : decide (i = 0) = true := decide_eq_true hi0
      have HLY : Hid ((k = 3 ∧ i = 0) ∨ s.cs.length = 1) := zaa (.inl ⟨hk3, hi0⟩)
      by_cases hZ : Z ≤ n
      ·have hZI : ¬ (n : Int) < (Z : Int) := by omega
       have HZN : Hid (szQ k (shP k ds).length ds ≤ n) := zaa (by rw [HZ.out]; exact hZ)
       clear hZ
       go_wp2_with (go_at_call 35; refine (HTD.out _ HM3.out HZN.out).mono ?_; rintro e w6 ⟨rfl, HM6⟩)
       go_ret
       obtain ⟨so6, sn6, sc6, hm6⟩ := HM6.out
       exact ⟨0, ⟨shP k ds, ds, 0⟩, rfl, zaa (HRL.out HLY.out _ _ (.inl ⟨HZN.out, rfl, rfl⟩)), zaa (hm6.dm (HQN.out HZN.out)), zaa hm6.cf⟩
      ·have hZI : (n : Int) < (Z : Int) := by omega
       have HZN : Hid (¬ szQ k (shP k ds).length ds ≤ n) := zaa (by rw [HZ.out]; exact hZ)
       clear hZ
       go_wp2
       go_ret
       exact ⟨61, s, rfl, zaa (HRL.out HLY.out _ _ (.inr ⟨HZN.out, rfl, rfl⟩)), zaa (HMc.out.dm HOK.out), zaa HMc.out.cf⟩
     ·have hi0I : ¬ (i : Int) = 0 := by omega
      have hi0B : decide (i = 0) = false := decide_eq_false hi0
      have hi0C : ((i : Int) == 0) = false := by simpa using hi0I
      have HA : Hid (¬ (k = 3 ∧ i = 0)) := zaa fun e => hi0 e.2
      by_cases hM0 : M = 0
      ·have hM0I : (M : Int) = 0 := by omega
       have hM0B : decide (M = 0) = true := decide_eq_true hM0
       have HLY : Hid ((k = 3 ∧ i = 0) ∨ s.cs.length = 1) := zaa (.inr (by have := HMM.out; omega))
       have HZN : Hid (szQ k (shP k ds).length ds ≤ n) := zaa (HZ0.out hM0)
       clear hM0I hM0B
       subst hM0
       go_wp2_with (go_at_call 35; refine (HTD.out _ HM3.out HZN.out).mono ?_; rintro e w6 ⟨rfl, HM6⟩)
       go_ret
       obtain ⟨so6, sn6, sc6, hm6⟩ := HM6.out
       exact ⟨0, ⟨shP k ds, ds, 0⟩, rfl, zaa (HRL.out HLY.out _ _ (.inl ⟨HZN.out, rfl, rfl⟩)), zaa (hm6.dm (HQN.out HZN.out)), zaa hm6.cf⟩
      ·have hM0I : ¬ (M : Int) = 0 := by omega
       have hM0B : decide (M = 0) = false := decide_eq_false hM0
       have hM0C : ((M : Int) == 0) = false := by simpa using hM0I
       have HM1 : Hid (¬ s.cs.length = 1) := zaa (by have := HMM.out; omega)
       go_wp2
       go_ret
       exact ⟨0, ⟨s.P, ds, W⟩, rfl, zaa (HRP.out HA.out HM1.out), zaa (HM3.out.dm (HQP.out HA.out)), zaa HM3.out.cf⟩
    ·have hk3B : decide (k = 3) = false := decide_eq_false hk3
     have HA : Hid (¬ (k = 3 ∧ i = 0)) := zaa fun e => hk3 e.1
     by_cases hM0 : M = 0
     ·have hM0I : (M : Int) = 0 := by omega
      have hM0B : decide (M = 0) = true := decide_eq_true hM0
      have HLY : Hid ((k = 3 ∧ i = 0) ∨ s.cs.length = 1) := zaa (.inr (by have := HMM.out; omega))
      have HZN : Hid (szQ k (shP k ds).length ds ≤ n) := zaa (HZ0.out hM0)
      clear hM0I hM0B
      subst hM0
      go_wp2_with (go_at_call 35; refine (HTD.out _ HM3.out HZN.out).mono ?_; rintro e w6 ⟨rfl, HM6⟩)
      go_ret
      obtain ⟨so6, sn6, sc6, hm6⟩ := HM6.out
      exact ⟨0, ⟨shP k ds, ds, 0⟩, rfl, zaa (HRL.out HLY.out _ _ (.inl ⟨HZN.out, rfl, rfl⟩)), zaa (hm6.dm (HQN.out HZN.out)), zaa hm6.cf⟩
     ·have hM0I : ¬ (M : Int) = 0 := by omega
      have hM0B : decide (M = 0) = false := decide_eq_false hM0
      have hM0C : ((M : Int) == 0) = false := by simpa using hM0I
      have HM1 : Hid (¬ s.cs.length = 1) := zaa (by have := HMM.out; omega)
      go_wp2
      go_ret
      exact ⟨0, ⟨s.P, ds, W⟩, rfl, zaa (HRP.out HA.out HM1.out), zaa (HM3.out.dm (HQP.out HA.out)), zaa HM3.out.cf⟩
 ·have HNI : Hid (¬ (0 ≤ I ∧ I < (s.cs.length : Int))) := zaa (by rw [l1]; exact hin)
  by_cases h0 : I < 0
  ·clear hA l1 l2 hin hn hn2
   go_enter Tryz.func34, Tryz.ntmps34
   go_wp2
   go_ret
   exact ⟨64, s, rfl, zaa (.inl ⟨HNI.out, rfl, rfl⟩), zaa (HM0.out.dm HOK.out), zaa HM0.out.cf⟩
  ·have h1 : (N : Int) ≤ I := by omega
   clear hA l1 l2 hin hn hn2
   go_enter Tryz.func34, Tryz.ntmps34
   go_wp2
   go_ret
   exact ⟨64, s, rfl, zaa (.inl ⟨HNI.out, rfl, rfl⟩), zaa (HM0.out.dm HOK.out), zaa HM0.out.cf⟩
theorem dcell_any (w : World) (K : Nat → Prop) (r : Nat) (k : Int) (n : Nat) (lo : Option Addr) (N lc : Nat) (sv : Value) (ws : Int) (vs : List Value) (cs : List Cl) (h : QD w r k n (.slice lo N lc) sv ws) (hr : RwK w K lo N lc vs cs) (hkl : ∀ b, K b → b < w.heap.size) (hN : N ≤ 65536) (x : Int) :
  Calls Tryz.prog 79 #[.pointer (some ⟨r, 0, none⟩), .int .i64 x] w (CelQ (cellQ cs x) (if 0 ≤ x ∧ x < (cs.length : Int) then 0 else 64) w) := by
 have hcs := hr.len
 obtain ⟨s, hs⟩ : ∃ s, w.heap.size = s := ⟨_, rfl⟩
 obtain ⟨y, hy⟩ : ∃ y, w.alloc (.cells #[.slice none 0 0, .int .i64 0, .slice none 0 0, .int .i64 0, .int .i64 0] 39) = y := ⟨_, rfl⟩
 have hby : Below w.heap.size w y := by rw [← hy]; exact zac Br Lr _
 have HRES : Hid (C5 y s (.slice none 0 0) (.int .i64 0) (.slice none 0 0) (.int .i64 0) (.int .i64 0)) := by rw [← hy, ← hs]; exact zaa (C5.box _ _ _ _ _ _)
 have HBY := zaa hby
 have hqy : QD y r k n (.slice lo N lc) sv ws := zaf h hby
 have hry := hr.keep (Agr.below hkl hby)
 have hys : s + 1 ≤ y.heap.size := by rw [← hy, ← hs]; simp
 obtain ⟨t0, t1, t2, t3, t4⟩ := hqy.cells
 have NI : (N : Int) ≤ 65536 := by omega
 unfold cellQ
 rw [hcs]
 by_cases hx : 0 ≤ x ∧ x < (N : Int)
 ·rw [if_pos hx, if_pos hx]
  obtain ⟨i, rfl⟩ : ∃ i : Nat, x = (i : Int) := ⟨x.toNat, by omega⟩
  rw [Int.toNat_natCast]
  obtain ⟨g, c, ka, kc, va, vc, rfl, hci, d0, d1, d2, d3, d4, _, hk, hv⟩ := hry.item i (by omega)
  rw [hci, Option.getD_some]
  have HC := zaa (dcopied_any c ka va kc vc y hk hv)
  obtain ⟨key, kd, val, pg, ct⟩ := c
  simp only at d0 d1 d2 d3 d4 HC ⊢
  obtain ⟨kn, hkn⟩ : ∃ kn, key.length = kn := ⟨_, rfl⟩
  obtain ⟨vn, hvn⟩ : ∃ vn, val.length = vn := ⟨_, rfl⟩
  rw [hkn] at d0 HC
  rw [hvn] at d2 HC
  have HKN := zaa hkn
  have HVN := zaa hvn
  have HYS := zaa hys
  have HSW := zaa hs
  have hiI : (i : Int) < (N : Int) := hx.2
  have hi0 : ¬ (i : Int) < 0 := by omega
  have hiN : ¬ (N : Int) ≤ (i : Int) := by omega
  clear h hr hqy hry hci hby hys hx hcs hk hv hkn hvn hkl
  go_enter Tryz.func79, Tryz.ntmps79
  go_wp2_with (go_at_call 112; refine HC.out.mono ?_; rintro e u2 ⟨ao, a2, bo, b2, rfl, HG, HU2⟩; refine Hid.out ?_)
  apply zaa
  have hres1 : C5 u2 s (.slice none 0 0) (.int .i64 0) (.slice none 0 0) (.int .i64 0) (.int .i64 0) := zaf HRES.out HU2.out
  have HR2 := zaa hres1
  obtain ⟨b0, b1, b2', b3, b4⟩ := hres1.cells
  obtain ⟨h0, h1, h2, h3, h4⟩ := hres1.free
  clear hres1 HC t0 t1 t2 t3 t4 d0 d1 d2 d3 d4
  go_wp2
  refine bodyPost_ret (zdi rfl _ _ s 39 #[.slice ao kn a2, .int .i64 kd, .slice bo vn b2, .int .i64 pg, .int .i64 ct] (0, 0) _ (.int .i64 0) (by rfl) (by rfl) (HR2.out.put _ _ _ _ _) Tryz.underlying39 rfl zbu) rfl ?_
  have hf := zce u2 s (.slice ao kn a2) (.int .i64 kd) (.slice bo vn b2) (.int .i64 pg) (.int .i64 ct)
  have hys := HYS.out
  have hsw := HSW.out
  obtain ⟨hg1, hg2, hg3⟩ := HG.out
  have hbu := zab HBY.out Lr HU2.out
  have e1 := HKN.out
  have e2 := HVN.out
  subst e1 e2
  refine ⟨ao, a2, bo, b2, rfl, zaa ⟨?_, ?_, hg3⟩, zaa (hbu.trans (hf.below hbu.size (by intro i hi e; omega)))⟩
  ·exact (hg1.low (by omega)).cf hf (hg1.apart5 HR2.out)
  ·exact (hg2.low (by omega)).cf hf (hg2.apart5 HR2.out)
 ·rw [if_neg hx, if_neg hx]
  obtain ⟨b0, b1, b2', b3, b4⟩ := HRES.out.cells
  obtain ⟨h0, h1, h2, h3, h4⟩ := HRES.out.free
  have HF := zaa (zce y s (.slice none 0 0) (.int .i64 0) (.slice none 0 0) (.int .i64 0) (.int .i64 0))
  have HS := zaa hs
  by_cases hx0 : x < 0
  ·clear h hr hqy hry hby hys hx hcs hkl
   go_enter Tryz.func79, Tryz.ntmps79
   go_wp2
   refine bodyPost_ret (zdi rfl _ _ s 39 #[.slice none 0 0, .int .i64 0, .slice none 0 0, .int .i64 0, .int .i64 0] (0, 0) _ (.int .i64 64) (by rfl) (by rfl) (HRES.out.put _ _ _ _ _) Tryz.underlying39 rfl zbu) rfl ?_
   exact ⟨none, 0, none, 0, rfl, zaa ⟨OwnB.nil _ _, OwnB.nil _ _, fun z h1 => (by simp [Value.ownBlock] at h1)⟩, zaa (HBY.out.trans (HF.out.below HBY.out.size (by intro i hi e; have := HS.out; omega)))⟩
  ·have hxN : (N : Int) ≤ x := by omega
   clear h hr hqy hry hby hys hx hcs hkl
   go_enter Tryz.func79, Tryz.ntmps79
   go_wp2
   refine bodyPost_ret (zdi rfl _ _ s 39 #[.slice none 0 0, .int .i64 0, .slice none 0 0, .int .i64 0, .int .i64 0] (0, 0) _ (.int .i64 64) (by rfl) (by rfl) (HRES.out.put _ _ _ _ _) Tryz.underlying39 rfl zbu) rfl ?_
   exact ⟨none, 0, none, 0, rfl, zaa ⟨OwnB.nil _ _, OwnB.nil _ _, fun z h1 => (by simp [Value.ownBlock] at h1)⟩, zaa (HBY.out.trans (HF.out.below HBY.out.size (by intro i hi e; have := HS.out; omega)))⟩
def SeenD (cs : List Cl) (q : List Int) (t m : Nat) : Prop := (∀ j c, j < m → cs[j]? = some c → kl c.key q) ∧ (∀ j c, m ≤ j → j < t → cs[j]? = some c → ¬ kl c.key q) ∧ (∀ j c, j < t → cs[j]? = some c → ¬ c.key = q)
theorem dfind_any (w : World) (K : Nat → Prop) (r : Nat) (k : Int) (n : Nat) (lo : Option Addr) (N lc : Nat) (sv : Value) (ws : Int) (vs : List Value) (cs : List Cl) (h : QD w r k n (.slice lo N lc) sv ws) (hr : RwK w K lo N lc vs cs) (hkl : ∀ b, K b → b < w.heap.size) (hN : N ≤ 65536) (hrs : Rs cs) (qo : Option Addr) (qn qc : Nat) (q : List Int) (hq : Sl w qo qn qc q) :
  Calls Tryz.prog 80 #[.pointer (some ⟨r, 0, none⟩), .slice qo qn qc] w (zbk cs q w) := by
 have HU : Hid (∀ u, Below w.heap.size w u → QD u r k n (.slice lo N lc) sv ws ∧ RwK u K lo N lc vs cs ∧ Sl u qo qn qc q) := zaa fun u hu => ⟨zaf h hu, hr.keep (Agr.below hkl hu), hq.on Lr hu⟩
 have HRS := zaa hrs
 have HLN := zaa hr.len
 have NI : (N : Int) ≤ 65536 := by omega
 clear h hr hkl hq hrs
 go_enter Tryz.func80, Tryz.ntmps80
 go_wp2_with fail
 go_loopw [6, 7] (fun nv iv wr => ∃ t m : Nat, t ≤ N ∧ m ≤ t ∧ nv = .int .i64 (m : Int) ∧ iv = .int .i64 (t : Int) ∧ Hid (SeenD cs q t m) ∧ Hid (Below w.heap.size w wr)) (fun _ iv _ => N - (intOf iv).toNat)
 case atStart => exact ⟨0, 0, by omega, by omega, rfl, rfl, zaa ⟨fun j c e => by omega, fun j c _ e => by omega, fun j c e => by omega⟩, zaa Br⟩
 case round =>
  obtain ⟨t, m, htN, hmt, rfl, rfl, HS, HB⟩ := hrel
  obtain ⟨hqd, hrw, hqs⟩ := HU.out wr HB.out
  obtain ⟨t0, t1, t2, t3, t4⟩ := hqd.cells
  have tI : (t : Int) ≤ 65536 := by omega
  have mI : (m : Int) ≤ 65536 := by omega
  by_cases hlt : t < N
  ·have hltI : (t : Int) < (N : Int) := by omega
   obtain ⟨g, c, ka, kc, va, vc, rfl, hci, d0, d1, d2, d3, d4, _, hk, hv⟩ := hrw.item t hlt
   have HO := zaa (order_any ka qo _ qn kc qc c.key q wr hk hqs)
   have HCI := zaa hci
   obtain ⟨kn, hkn⟩ : ∃ kn, c.key.length = kn := ⟨_, rfl⟩
   rw [hkn] at d0 HO
   obtain ⟨O, hO⟩ : ∃ O, ordL c.key q = O := ⟨_, rfl⟩
   rw [hO] at HO
   have HOO := zaa hO
   clear hqd hrw hqs hci hk hv d1 d2 d3 d4 hkn
   rcases zbt c.key q with h3 | h3 | h3
   ·obtain rfl : O = 0 := by rw [← hO]; exact h3
    clear h3 hO
    go_wp2_with (go_at_call 122; refine zbn HO.out ?_; intro z; refine Hid.out ?_)
    apply zaa
    go_wp2
    go_ret2
    refine ⟨t, true, rfl, zaa (zad HB.out _), zaa ⟨⟨by rw [HLN.out]; omega, fun j e hj he => ?_, fun j e hj he hke => ?_⟩, ⟨fun _ => ⟨c, HCI.out, ordL_eq _ _ HOO.out⟩, fun _ => rfl⟩⟩⟩
    ·rw [← ordL_eq _ _ HOO.out]
     exact rs_at HRS.out hj he HCI.out
    ·by_cases hjt : j = t
     ·subst hjt
      rw [HCI.out] at he
      injection he with he
      subst he
      unfold kl at hke
      have := HOO.out
      omega
     ·have h5 := rs_at HRS.out (show t < j by omega) HCI.out he
      rw [ordL_eq _ _ HOO.out] at h5
      have h6 := zbp _ _ _ h5 hke
      unfold kl at h6
      rw [zcp] at h6
      omega
   ·obtain rfl : O = -1 := by rw [← hO]; exact h3
    have HNX : Hid (SeenD cs q (t + 1) (t + 1)) := zaa ⟨fun j e hj he => by
      by_cases hjt : j = t
      ·subst hjt
       rw [HCI.out] at he
       injection he with he
       subst he
       exact HOO.out
      ·exact zbp _ _ _ (rs_at HRS.out (show j < t by omega) he HCI.out) HOO.out, fun j e h1 h2 => by omega, fun j e hj he hke => by
      by_cases hjt : j = t
      ·subst hjt
       rw [HCI.out] at he
       injection he with he
       subst he
       have h7 := HOO.out
       rw [hke, zcp] at h7
       omega
      ·exact HS.out.2.2 j e (by omega) he hke⟩
    clear h3 hO
    go_wp2_with (go_at_call 122; refine zbn HO.out ?_; intro z; refine Hid.out ?_)
    apply zaa
    go_wp2
    go_roundw
    case rel => exact ⟨t + 1, t + 1, by omega, by omega, by go_num, by go_num, HNX, zaa (zad HB.out _)⟩
    case measure => simp [intOf]; omega
   ·obtain rfl : O = 1 := by rw [← hO]; exact h3
    have HNX : Hid (SeenD cs q (t + 1) m) := zaa ⟨HS.out.1, fun j e h1 h2 he hke => by
      by_cases hjt : j = t
      ·subst hjt
       rw [HCI.out] at he
       injection he with he
       subst he
       have h7 := HOO.out
       unfold kl at hke
       omega
      ·exact HS.out.2.1 j e h1 (by omega) he hke, fun j e hj he hke => by
      by_cases hjt : j = t
      ·subst hjt
       rw [HCI.out] at he
       injection he with he
       subst he
       have h7 := HOO.out
       rw [hke, zcp] at h7
       omega
      ·exact HS.out.2.2 j e (by omega) he hke⟩
    clear h3 hO
    go_wp2_with (go_at_call 122; refine zbn HO.out ?_; intro z; refine Hid.out ?_)
    apply zaa
    go_wp2
    go_roundw
    case rel => exact ⟨t + 1, m, by omega, by omega, rfl, by go_num, HNX, zaa (zad HB.out _)⟩
    case measure => simp [intOf]; omega
  ·have hltI : ¬ (t : Int) < (N : Int) := by omega
   clear hqd hrw hqs
   go_wp2
   go_ret2
   have hS := HS.out
   have hL := HLN.out
   refine ⟨m, false, rfl, HB, zaa ⟨⟨by omega, hS.1, fun j e h1 he => hS.2.1 j e h1 (by have := (zH.1 he).1; omega) he⟩, ⟨(fun e => by cases e), fun ⟨c, hc, e⟩ => absurd e (hS.2.2 m c (by have := (zH.1 hc).1; omega) hc)⟩⟩⟩
theorem dbytes_any (w : World) (r : Nat) (k : Int) (n : Nat) (lo : Option Addr) (N lc : Nat) (sv : Value) (ws : Int) (cs : List Cl) (h : QD w r k n (.slice lo N lc) sv ws) (hs : SlC w lo N lc cs) (hN : N ≤ 65536) (hf : ∀ c ∈ cs, c.fit) (he : encQ k n cs = 0) :
  Calls Tryz.prog 36 #[.pointer (some ⟨r, 0, none⟩)] w fun e w' => ∃ v, e = .returned v ∧ Hid (OwnB w' w.heap.size v (pkB k n cs)) ∧ Hid (Below w.heap.size w w') := by
 obtain ⟨c0, c1, c2, c3, c4⟩ := h.cells
 have HT : Hid (∀ u, Below w.heap.size w u → Calls Tryz.prog 77 #[.int .i64 k, .slice lo N lc, .int .i64 (n : Int)] u fun e w' => ∃ v, e = .returned (.tuple #[v, .int .i64 0]) ∧ Hid (OwnB w' w.heap.size v (pkB k n cs)) ∧ Hid (Below w.heap.size w w')) := zaa fun u hu => by
  have h3 := hs.hlen
  refine (rencode_yes k n lo N lc cs u (hs.on hu) (by omega) (fun c hc => by have := (hf c hc).key; have := (hf c hc).val; omega) (szQ_big k cs hf (by omega)) he).mono ?_
  rintro e w' ⟨v, rfl, HO, HB⟩
  exact ⟨v, rfl, zaa (HO.out.low hu.size), zaa (zab hu Lr HB.out)⟩
 clear h hs hf he
 go_enter Tryz.func36, Tryz.ntmps36
 go_wp2_with fail
 go_region_with (first | (go_at_call 77; refine (HT.out _ (by first | exact Br | exact Br.drew | exact zad Br _)).mono ?_; rintro e w2 ⟨v2, rfl, HO2, HB2⟩))
 all_goals
  go_wp2
  go_ret
  exact ⟨v2, rfl, by first | exact HO2 | exact zaa HO2.out.drew | exact zaa (HO2.out.on Lr Br.drew), by first | exact HB2 | exact zaa HB2.out.drew | exact zaa (zad HB2.out _)⟩
end Go.Proofs.YtfgffajgfgifhaaGreatDoor
