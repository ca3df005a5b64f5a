import Derived.Test.YtfgffajgfgifhaaGreatDoorJ09
namespace Go.Proofs.YtfgffajgfgifhaaGreatDoor
set_option maxRecDepth 100000
set_option maxHeartbeats 8000000
open Go.RowKit
def OwnZ (w : World) (g N : Nat) (l : List Int) : Prop := Bk w g (l ++ zs (N - l.length)) ∧ l.length ≤ N
theorem OwnZ.on {w w' : World} {g N : Nat} {l : List Int} (h : OwnZ w g N l) (hb : Below w.heap.size w w') : OwnZ w' g N l := ⟨h.1.on hb, h.2⟩
theorem OwnZ.owns {w : World} {g N : Nat} {l : List Int} (h : OwnZ w g N l) (hN : N ≤ 140737488355328) : OwnB w 0 (.slice (some ⟨g, 0, none⟩) l.length N) l := by
 obtain ⟨h1, h2⟩ := h
 refine ⟨by simp [By], .inr ⟨g, N, _, rfl, Nat.zero_le _, h1, h2, by unfold maxLen; omega, ?_, ?_⟩⟩
 ·simp [By, zcc]
  omega
 ·simp [By]
theorem app_z {ops : Array Oper} {rest : List Oper} {o : Oper} {a : Act} {Q : Exit → Act → World → Prop} (w : World) (hgd : o.guard = none) (s x : Operand)
  (ho : o.op = .call { callee := .builtin .append, args := #[s, x], argTypes := #[37, 37] }) (g N : Nat) (l news : List Int) (L : Nat) (ao : Option Addr) (n c : Nat) (hL : l.length = L) (hs : a.eval s = .slice (some ⟨g, 0, none⟩) L N) (hx : a.eval x = .slice ao n c)
  (hz : OwnZ w g N l) (hsl : Sl w ao n c news) (hroom : L + n ≤ N) (hN : N ≤ 140737488355328)
  (h : ∀ w', Hid (OwnZ w' g N (l ++ news)) → Hid (Cf (· = g) w w') → wpList Tryz.prog ops Q rest (a.put o.dst (.slice (some ⟨g, 0, none⟩) (L + n) N)) w') : wpList Tryz.prog ops Q (o :: rest) a w := by
 obtain ⟨i0, hi, hz0, hz1, hz2⟩ := info_parts info5
 have hlen := hsl.hlen
 subst hL
 cases ao with
 | none =>
  have : n = 0 := by have := hsl.hnil rfl; have := hsl.hcap; omega
  subst this
  have hc0 := hsl.hnil rfl
  subst hc0
  obtain rfl : news = [] := List.eq_nil_of_length_eq_zero hlen
  exact wpList_append_own_none hgd s x 37 ho 0 5 i0 1 Tryz.underlying37 hi _ l.length (By l) hs (hz.owns hN) hx (h w (zaa (by simpa using hz)) (zaa (Cf.refl _ _)))
 | some ad =>
  refine wpList_plain hgd fun K hK => ?_
  have hr := run_append_room (P := Tryz.prog) w 37 o.type 5 i0 Tryz.underlying37 hi g l.length N _ hz.1 ad n c (By news) (by rw [hz1]; simp [By, hlen])
   (fun j u hu => by
    obtain ⟨h1, h2⟩ := getElem?_By news j u hu
    rw [h2]
    rcases hsl.hat with h0 | ⟨b, off, e, _, hc⟩
    ·omega
    ·injection e with e
     subst e
     rw [Addr.add_lit]
     exact hc j (by omega)) (By_one news) hroom (by rw [hz1]; simp only [By, List.length_map, List.size_toArray, zG, zcc, Nat.mul_one]; omega)
  have hfin : ∀ w', w' = w.setRow g ((By (l ++ zs (N - l.length))).toArray.toList.take (l.length * i0.size) ++ By news ++ (By (l ++ zs (N - l.length))).toArray.toList.drop (l.length * i0.size + (By news).length)).toArray → Hid (OwnZ w' g N (l ++ news)) ∧ Hid (Cf (· = g) w w') := by
   rintro w' rfl
   refine ⟨zaa ⟨?_, by rw [zG]; omega⟩, zaa ⟨rfl, rfl, rfl, by simp, fun k _ hk => setRow_other w g k _ hk⟩⟩
   unfold Bk
   rw [setRow_heap w g _ _ 5 _ hz.1]
   congr 3
   rw [hz1, Nat.mul_one]
   have e1 : (By (l ++ zs (N - l.length))).take l.length = By l := by simp [By]
   have e2 : (By (l ++ zs (N - l.length))).drop (l.length + news.length) = By (zs (N - (l ++ news).length)) := by
    simp only [By, List.map_append, zG]
    rw [← List.drop_drop, List.drop_left' (by simp)]
    simp only [zs, List.map_replicate, List.drop_replicate]
    congr 1
    omega
   simp only [zbl]
   rw [e1, e2]
   simp [By]
  unfold Oper.wp execOp
  simp only [ho, resolve, invoke, builtin, Sem.run_bind, Sem.run_pure, Result.andThen_ok, List.map_toArray, List.map_cons, List.map_nil, hs, hx, hr]
  exact hK _ _ (h _ (hfin _ rfl).1 (hfin _ rfl).2)
theorem fB2_sl (w : World) (n : Nat) (hn : n < 65536) : Sl (w.alloc (.cells #[.int .u8 ((n : Int) / 256), .int .u8 ((n : Int) % 256)] 5)) (some ⟨w.heap.size, 0, none⟩) 2 2 (fB 2 (n : Int)) := by
 rw [← short_fB n, show (n : Int) / 256 % 256 = (n : Int) / 256 by omega]
 refine ⟨rfl, Lr, by omega, Wf.cons (by omega) (Wf.cons (by omega) Wf.nil), (by intro h; cases h), .inr ⟨w.heap.size, 0, rfl, by simp, fun i hi => ?_⟩⟩
 have hi' : i = 0 ∨ i = 1 := by omega
 rcases hi' with rfl | rfl <;> simp
theorem withShort_z (g N : Nat) (l : List Int) (L n : Nat) (w : World) (hL : l.length = L) (hz : OwnZ w g N l) (hn : n < 65536) (hroom : L + 2 ≤ N) (hN : N ≤ 65536) :
  Calls Tryz.prog 96 #[.slice (some ⟨g, 0, none⟩) L N, .int .i64 (n : Int)] w fun e w' => e = .returned (.slice (some ⟨g, 0, none⟩) (L + 2) N) ∧ Hid (OwnZ w' g N (l ++ fB 2 (n : Int))) ∧ Hid (Cf (· = g) w w') := by
 obtain ⟨x, hx⟩ : ∃ x, w.alloc (.cells #[.int .u8 ((n : Int) / 256), .int .u8 ((n : Int) % 256)] 5) = x := ⟨_, rfl⟩
 have hbx : Below w.heap.size w x := by rw [← hx]; exact zac Br Lr _
 have HS : Hid (Sl x (some ⟨w.heap.size, 0, none⟩) 2 2 (fB 2 (n : Int))) := zaa (by rw [← hx]; exact fB2_sl w n hn)
 have HZ := zaa (hz.on hbx)
 have HC : Hid (Cf (· = g) w x) := zaa (Cf.of_below hbx)
 have w1 : IntKind.u8.wrap ((n : Int) / 256) = (n : Int) / 256 := by rw [IntKind.wrap_u8]; omega
 have w2 : IntKind.u8.wrap (n : Int) = (n : Int) % 256 := by rw [IntKind.wrap_u8]
 clear hz hbx
 go_enter Tryz.func96, Tryz.ntmps96
 go_wp2_with (at_builtin; refine app_z _ rfl _ _ rfl g N l (fB 2 (n : Int)) L (some ⟨w.heap.size, 0, none⟩) 2 2 hL rfl rfl HZ.out HS.out hroom (by omega) ?_; refine Hid.out ?_)
 apply zaa
 intro w3 HO3 HC3
 go_wp2
 go_ret
 exact ⟨rfl, HO3, zaa (HC.out.go HC3.out)⟩
theorem bz {w u u' : World} {g : Nat} (hg : w.heap.size = g) (hb : Below w.heap.size w u) (hc : Cf (· = g) u u') : Below w.heap.size w u' := hb.trans (hc.below hb.size (by intro k hk e; omega))
theorem made_bk (w : World) (n : Nat) : OwnZ (w.alloc (.cells (madeCells #[.int .u8 0] n) 5)) w.heap.size n [] := by
 refine ⟨?_, Nat.zero_le _⟩
 unfold Bk
 rw [heap_alloc_last]
 congr 2
 apply Array.toList_inj.1
 rw [toList_madeCells_one]
 simp [By, zs]
theorem OwnZ.more {w : World} {g N : Nat} {l : List Int} (h : OwnZ w g N l) (m : Nat) (hm : l.length + m ≤ N) : OwnZ w g N (l ++ zs m) := by
 obtain ⟨h1, h2⟩ := h
 refine ⟨?_, by rw [zG, zcc]; exact hm⟩
 rw [zM, ← zs_add, zG, zcc, show m + (N - (l.length + m)) = N - l.length by omega]
 exact h1
theorem OwnZ.sl {w : World} {g N : Nat} {l : List Int} (h : OwnZ w g N l) (hw : Wf l) (hN : N ≤ 140737488355328) : Sl w (some ⟨g, 0, none⟩) l.length N l := by
 obtain ⟨h1, h2⟩ := h
 refine ⟨rfl, h2, by omega, hw, (by intro h; cases h), .inr ⟨g, 0, rfl, zag h1, fun i hi => ?_⟩⟩
 rw [Nat.zero_add, h1.cell i (by rw [zG]; omega)]
 simp [List.getD, zL hi]
def wrL (k : Int) (n : Nat) (P body : List Int) (st : List Nat) : List Int := [k, 2] ++ (fB 2 st.length ++ (fB 2 P.length ++ (P ++ (sloB (st.map (6 + P.length + 2 * st.length + ·)) ++ (body ++ zs (n - (10 + P.length + 2 * st.length + body.length)))))))
theorem sloB_take (l : List Nat) (j : Nat) (s : Nat) (h : l[j]? = some s) : sloB (l.take (j + 1)) = sloB (l.take j) ++ fB 2 (s : Int) := by
 rw [List.take_add_one, h]
 simp [sloB]
theorem written_any (w : World) (a : Nat) (k : Int) (n : Nat) (po : Option Addr) (pn pc : Nat) (bo : Option Addr) (bn bc : Nat) (so : Option Addr) (sn sc : Nat) (ws : Int) (P body : List Int) (st : List Nat) (h : PgQ w a k n po pn pc bo bn bc so sn sc ws P body st) (hk : isKd k) (hn : n ≤ 65536)
  (hfit : 10 + P.length + 2 * st.length + body.length ≤ n) (hst : ∀ s ∈ st, s ≤ body.length) (ht : Tab w) (h0 : 0 < w.heap.size) :
  Calls Tryz.prog 55 #[.pointer (some ⟨a, 0, none⟩)] w fun e w' => ∃ g, e = .returned (.slice (some ⟨g, 0, none⟩) n n) ∧ w.heap.size ≤ g ∧ Hid (Bk w' g (sealB (wrL k n P body st))) ∧ Hid (Below w.heap.size w w') := by
 have HPG := zaa h
 have HT := zaa ht
 have hk2 : IntKind.u8.wrap k = k := by unfold isKd at hk; rw [IntKind.wrap_u8]; omega
 have hkb : 0 ≤ k ∧ k ≤ 255 := by unfold isKd at hk; omega
 have hPl : P.length = pn := h.pre.hlen
 have hBl : body.length = bn := h.body.hlen
 have hSl : st.length = sn := h.starts.hlen
 rw [hPl, hBl, hSl] at hfit
 have HPL := zaa hPl
 have HBL := zaa hBl
 have HSL := zaa hSl
 have HST := zaa hst
 obtain ⟨g, hg⟩ : ∃ g, w.heap.size = g := ⟨_, rfl⟩
 have HG := zaa hg
 have hmk := made_run n (by omega)
 obtain ⟨x, hx⟩ : ∃ x, w.alloc (.cells (madeCells #[.int .u8 0] n) 5) = x := ⟨_, rfl⟩
 have hbx : Below w.heap.size w x := by rw [← hx]; exact zac Br Lr _
 have HZ0 : Hid (OwnZ x g n []) := zaa (by rw [← hx, ← hg]; exact made_bk w n)
 obtain ⟨y, hy⟩ : ∃ y, x.alloc (.cells #[.int .u8 k, .int .u8 2] 5) = y := ⟨_, rfl⟩
 have hby : Below x.heap.size x y := by rw [← hy]; exact zac Br Lr _
 have HZ1 : Hid (OwnZ y g n []) := zaa (HZ0.out.on hby)
 have HS1 : Hid (Sl y (some ⟨x.heap.size, 0, none⟩) 2 2 [k, 2]) := zaa (by
  refine ⟨rfl, Lr, by omega, Wf.cons hkb (Wf.cons (by omega) Wf.nil), (by intro h; cases h), .inr ⟨x.heap.size, 0, rfl, by rw [← hy]; simp, fun i hi => ?_⟩⟩
  have hi' : i = 0 ∨ i = 1 := by omega
  rw [← hy]
  rcases hi' with rfl | rfl <;> simp)
 have HB1 : Hid (Below w.heap.size w y) := zaa (zab hbx Lr hby)
 obtain ⟨c0, c1, c2, c3, c4, c5⟩ := h.cells
 obtain ⟨d0, d1, d2, d3, d4, d5⟩ := (h.on hbx).cells
 have hnI : (n : Int) ≤ 65536 := by omega
 have hsnI : (sn : Int) ≤ 65536 := by omega
 have hpnI : (pn : Int) ≤ 65536 := by omega
 clear h ht hk hst hbx hby hPl hBl hSl
 go_enter Tryz.func55, Tryz.ntmps55
 go_wp2_with (at_builtin; refine app_z _ rfl _ _ rfl g n [] [k, 2] 0 (some ⟨x.heap.size, 0, none⟩) 2 2 rfl rfl rfl HZ1.out HS1.out (by omega) (by omega) ?_; refine Hid.out ?_)
 apply zaa
 intro w2 HZ2 HC2
 have HB2 : Hid (Below w.heap.size w w2) := zaa (bz HG.out HB1.out HC2.out)
 clear HZ0 HZ1 HS1 HB1 HC2 c0 c1 c2 c3 c4 c5 d0 d1 d2 d3 d4 d5 hx hy
 obtain ⟨c0, c1, c2, c3, c4, c5⟩ := (HPG.out.on HB2.out).cells
 have HW := zaa (withShort_z g n [k, 2] 2 sn w2 rfl HZ2.out (by omega) (by omega) hn)
 go_wp2_with (go_at_call 96; refine HW.out.mono ?_; rintro e w3 ⟨rfl, HZ3, HC3⟩; refine Hid.out ?_)
 apply zaa
 have HB3 : Hid (Below w.heap.size w w3) := zaa (bz HG.out HB2.out HC3.out)
 clear HW HZ2 HC3 HB2 c0 c1 c2 c3 c4 c5
 obtain ⟨c0, c1, c2, c3, c4, c5⟩ := (HPG.out.on HB3.out).cells
 have HW := zaa (withShort_z g n ([k, 2] ++ fB 2 (sn : Int)) 4 pn w3 (by simp [zao]) HZ3.out (by omega) (by omega) hn)
 go_wp2_with (go_at_call 96; refine HW.out.mono ?_; rintro e w4 ⟨rfl, HZ4, HC4⟩; refine Hid.out ?_)
 apply zaa
 have HB4 : Hid (Below w.heap.size w w4) := zaa (bz HG.out HB3.out HC4.out)
 clear HW HZ3 HC4 HB3 c0 c1 c2 c3 c4 c5
 obtain ⟨c0, c1, c2, c3, c4, c5⟩ := (HPG.out.on HB4.out).cells
 obtain ⟨L4, hL4⟩ : ∃ L, [k, 2] ++ fB 2 (sn : Int) ++ fB 2 (pn : Int) = L := ⟨_, rfl⟩
 replace HZ4 : Hid (OwnZ w4 g n L4) := zaa (by rw [← hL4]; simpa using HZ4.out)
 have HL4 : Hid (L4.length = 6) := zaa (by rw [← hL4]; simp [zao])
 have HE4 := zaa hL4
 have HP4 := zaa (HPG.out.on HB4.out).pre
 clear hL4
 go_wp2_with (at_builtin; refine app_z _ rfl _ _ rfl g n L4 P 6 po pn pc HL4.out rfl rfl HZ4.out HP4.out (by omega) (by omega) ?_; refine Hid.out ?_)
 apply zaa
 intro w5 HZ5 HC5
 have HB5 : Hid (Below w.heap.size w w5) := zaa (bz HG.out HB4.out HC5.out)
 clear HZ4 HC5 HB4 HP4 c0 c1 c2 c3 c4 c5
 obtain ⟨c0, c1, c2, c3, c4, c5⟩ := (HPG.out.on HB5.out).cells
 obtain ⟨L5, hL5⟩ : ∃ L, L4 ++ P = L := ⟨_, rfl⟩
 replace HZ5 : Hid (OwnZ w5 g n L5) := zaa (by rw [← hL5]; simpa using HZ5.out)
 have HL5 : Hid (L5.length = 6 + pn) := zaa (by rw [← hL5, zG, HL4.out, HPL.out])
 have HE5 := zaa hL5
 obtain ⟨F, hF⟩ : ∃ F, 6 + pn + 2 * sn = F := ⟨_, rfl⟩
 have HF := zaa hF
 have hFI : 6 + (pn : Int) + 2 * (sn : Int) = (F : Int) := by omega
 have hFb : (F : Int) ≤ 65536 := by omega
 clear hL5
 obtain ⟨tt, htt⟩ : ∃ tt, st.map (F + ·) = tt := ⟨_, rfl⟩
 have HTL : Hid (tt.length = sn) := zaa (by rw [← htt, List.length_map, HSL.out])
 have HTT : Hid (∀ j s, st[j]? = some s → tt[j]? = some (F + s)) := zaa (by intro j s hj; rw [← htt, List.getElem?_map, hj]; rfl)
 have HTE := zaa htt
 clear htt
 go_wp2_with fail
 go_loopw [3, 54] (fun v i wr => ∃ j : Nat, j ≤ sn ∧ i = .int .i64 j ∧ v = .slice (some ⟨g, 0, none⟩) (6 + pn + 2 * j) n ∧ Hid (OwnZ wr g n (L5 ++ sloB (tt.take j))) ∧ Hid (Below w.heap.size w wr)) (fun _ i _ => sn - (intOf i).toNat)
 case atStart => exact ⟨0, by omega, rfl, by simp, zaa (by simpa [sloB] using HZ5.out), HB5⟩
 case round =>
  obtain ⟨j, hj, rfl, rfl, HZ, HB⟩ := hrel
  clear HZ5 HB5 c0 c1 c2 c3 c4 c5
  have bj : (j : Int) ≤ 65536 := by omega
  have HPR := zaa (HPG.out.on HB.out)
  obtain ⟨c0, c1, c2, c3, c4, c5⟩ := HPR.out.cells
  have HLJ : Hid ((L5 ++ sloB (tt.take j)).length = 6 + pn + 2 * j) := zaa (by
   rw [zG, HL5.out, zcw, zJ, HTL.out]
   omega)
  by_cases hlt : j < sn
  ·have hltI : (j : Int) < (sn : Int) := by omega
   obtain ⟨gs, offs, rfl, hgs, hcs⟩ : ∃ b off, so = some ⟨b, off, none⟩ ∧ b < wr.heap.size ∧ ∀ j, j < sn → wr.cell? ⟨b, off + j, none⟩ = some (.int .i64 ((st.getD j 0 : Nat) : Int)) := by
    rcases HPR.out.starts.hat with h0 | h0
    ·omega
    ·exact h0
   have cj := hcs j hlt
   obtain ⟨s, hs⟩ : ∃ s, st[j]? = some s := ⟨_, zI (by rw [HSL.out]; exact hlt)⟩
   rw [show st.getD j 0 = s from by simp [List.getD, hs]] at cj
   have hsb := HST.out s (List.mem_of_getElem? hs)
   rw [HBL.out] at hsb
   have HSJ := zaa (sloB_take tt j (F + s) (HTT.out j s hs))
   obtain ⟨q, hq⟩ : ∃ q, F + s = q := ⟨_, rfl⟩
   rw [hq] at HSJ
   have hqI : (F : Int) + (s : Int) = (q : Int) := by omega
   have hqb : (q : Int) ≤ 65536 := by omega
   have hsbI : (s : Int) ≤ 65536 := by omega
   have HW := zaa (withShort_z g n (L5 ++ sloB (tt.take j)) (6 + pn + 2 * j) q wr HLJ.out HZ.out (by omega) (by omega) hn)
   clear hcs hs hq
   go_wp2_with (go_at_call 96; refine HW.out.mono ?_; rintro e w6 ⟨rfl, HZ6, HC6⟩; refine Hid.out ?_)
   apply zaa
   have HB6 : Hid (Below w.heap.size w w6) := zaa (bz HG.out HB.out HC6.out)
   have HZ7 : Hid (OwnZ w6 g n (L5 ++ sloB (tt.take (j + 1)))) := zaa (by rw [HSJ.out, ← zM]; exact HZ6.out)
   clear HW HZ6 HC6 HZ HB HPR HSJ cj
   go_wp2
   go_roundw
   case rel => exact ⟨j + 1, by omega, by go_num, by simp; omega, HZ7, HB6⟩
   case measure => simp [intOf]; omega
  ·obtain rfl : j = sn := by omega
   have hlI : ¬ (j : Int) < (j : Int) := by omega
   obtain ⟨L6, hL6⟩ : ∃ L, L5 ++ sloB tt = L := ⟨_, rfl⟩
   have HZ6 : Hid (OwnZ wr g n L6) := zaa (by
    have := HZ.out
    rwa [List.take_of_length_le (by rw [HTL.out]; exact Lr), hL6] at this)
   have HL6 : Hid (L6.length = 6 + pn + 2 * j) := zaa (by
    have := HLJ.out
    rwa [List.take_of_length_le (by rw [HTL.out]; exact Lr), hL6] at this)
   have HE6 := zaa hL6
   have HBD := zaa HPR.out.body
   clear HZ HLJ hL6
   go_wp2_with (at_builtin; refine app_z _ rfl _ _ rfl g n L6 body (6 + pn + 2 * j) bo bn bc HL6.out rfl rfl HZ6.out HBD.out (by omega) (by omega) ?_; refine Hid.out ?_)
   apply zaa
   intro w7 HZ7 HC7
   have HB7 : Hid (Below w.heap.size w w7) := zaa (bz HG.out HB.out HC7.out)
   clear HZ6 HC7 HB HPR HBD c0 c1 c2 c3 c4 c5
   obtain ⟨c0, c1, c2, c3, c4, c5⟩ := (HPG.out.on HB7.out).cells
   obtain ⟨E, hE⟩ : ∃ E, n - 4 = E := ⟨_, rfl⟩
   have hEI : (n : Int) - 4 = (E : Int) := by omega
   have hE4 : E + 4 = n := by omega
   have hEn : (E : Int) ≤ (n : Int) := by omega
   have hEw : IntKind.i64.wrap (E : Int) = (E : Int) := by rw [IntKind.wrap_i64]; omega
   obtain ⟨H, hH⟩ : ∃ H, L6 ++ body ++ zs (E - (6 + pn + 2 * j + bn)) = H := ⟨_, rfl⟩
   have hL7 : (L6 ++ body).length = 6 + pn + 2 * j + bn := by rw [zG, HL6.out, HBL.out]
   have HZ8 : Hid (OwnZ w7 g n H) := zaa (by rw [← hH]; exact HZ7.out.more _ (by rw [hL7]; omega))
   have HHL : Hid (H.length = E) := zaa (by rw [← hH, zG, hL7, zcc]; omega)
   have HWR : Hid (wrL k n P body st = H) := zaa (by
    unfold wrL
    rw [HSL.out, HPL.out, HBL.out, HF.out, HTE.out, ← hH, ← HE6.out, ← HE5.out, ← HE4.out]
    simp only [zM]
    rw [show n - (10 + pn + 2 * j + bn) = E - (6 + pn + 2 * j + bn) by omega])
   have HHW : Hid (Wf H) := zaa (by
    rw [← hH, ← HE6.out, ← HE5.out, ← HE4.out]
    exact ((((((Wf.cons hkb (Wf.cons (by omega) Wf.nil)).append (fB_wf _ _)).append (fB_wf _ _)).append HPG.out.pre.wf).append (sloB_wf _)).append HPG.out.body.wf).append (zs_wf _))
   clear HZ7 hH hL7 HE4 HE5 HE6 HTE
   have HSB : Hid (Sl w7 (some ⟨g, 0, none⟩) E n H) := zaa (by have := HZ8.out.sl HHW.out (by omega); rwa [HHL.out] at this)
   have hs32 := sumN_lt H HHW.out
   obtain ⟨SN, hS⟩ : ∃ SN, sumN [H] = SN := ⟨_, rfl⟩
   rw [hS] at hs32
   have HSS := zaa hS
   have hws : IntKind.u64.wrap ((SN : Nat) : Int) = (SN : Int) := by rw [IntKind.wrap_u64]; omega
   have HSUM : Hid (Calls Tryz.prog 98 #[.slice (some ⟨w7.heap.size, 0, none⟩) 1 1] (w7.alloc (.cells #[.slice (some ⟨g, 0, none⟩) E n] 37)) fun e v2 => e = .returned (.int .u32 (SN : Int)) ∧ Hid (Below w7.heap.size w7 v2)) := by
    have hss : SlS (w7.alloc (.cells #[.slice (some ⟨g, 0, none⟩) E n] 37)) (some ⟨w7.heap.size, 0, none⟩) 1 1 [H] := sls_one5 w7 _ _ _ _ HSB.out _ rfl
    refine zaa ((sum_any _ _ _ _ _ hss ((HT.out.on HB7.out h0).on (Br.alloc Lr _) (zO h0 HB7.out.size))).mono ?_)
    rintro e v2 ⟨rfl, q, rfl⟩
    rw [HSS.out]
    exact ⟨rfl, zad (zac Br Lr _) q⟩
   clear hS HSB
   go_wp2_with (go_at_call 98; refine HSUM.out.mono ?_; rintro e w8 ⟨rfl, HB8⟩; refine Hid.out ?_)
   apply zaa
   have HFX := zaa (fixed_row (SN : Int) 4 w8 (by omega) (by omega) (by omega))
   clear HSUM
   go_wp2_with (go_at_call 97; refine HFX.out.mono ?_; rintro e w9 ⟨fb, fo, fc, rfl, HFS, HB9⟩; refine Hid.out ?_)
   apply zaa
   have HB79 : Hid (Below w7.heap.size w7 w9) := zaa (zab HB8.out Lr HB9.out)
   have HZ9 : Hid (OwnZ w9 g n H) := zaa (HZ8.out.on HB79.out)
   have HBW9 : Hid (Below w.heap.size w w9) := zaa (zab HB7.out Lr HB79.out)
   clear HFX HZ8 HB8 HB9 HB79
   go_wp2_with (at_builtin; refine app_z _ rfl _ _ rfl g n H (fB 4 (SN : Int)) E (some ⟨fb, fo, none⟩) 4 fc HHL.out rfl rfl HZ9.out HFS.out (by omega) (by omega) ?_; refine Hid.out ?_)
   apply zaa
   intro wA HZA HCA
   have HBA : Hid (Below w.heap.size w wA) := zaa (bz HG.out HBW9.out HCA.out)
   have HBK : Hid (Bk wA g (sealB (wrL k n P body st))) := zaa (by
    have h1 := HZA.out.1
    rw [show n - (H ++ fB 4 (SN : Int)).length = 0 by rw [zG, HHL.out, zao]; omega] at h1
    rw [HWR.out]
    unfold sealB
    rw [HSS.out]
    simpa [zs] using h1)
   have HGE : Hid (w.heap.size ≤ g) := zaa (by have := HG.out; omega)
   clear HZ9 HZA HCA HBW9 HFS
   go_wp2
   go_ret
   exact ⟨g, rfl, HGE.out, HBK, HBA⟩
end Go.Proofs.YtfgffajgfgifhaaGreatDoor
