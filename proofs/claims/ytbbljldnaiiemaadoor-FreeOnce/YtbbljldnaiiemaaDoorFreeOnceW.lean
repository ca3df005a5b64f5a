/- The walk of the law FreeOnce. -/
import Derived.Test.YtbbljldnaiiemaaDoorVi
namespace Go.Proofs.YtbbljldnaiiemaaDoor
open Go.RowKit Go.Maps

set_option maxRecDepth 100000 in
theorem new8 : newE eig = 0 := by decide
set_option maxRecDepth 100000 in
theorem setl0 (k : Nat) (h : k < 10) : ([0, 0, 0, 0, 0, 0, 0, 0, 0, 0] : List Int).set k 0 = [0, 0, 0, 0, 0, 0, 0, 0, 0, 0] := by
  have : k = 0 ∨ k = 1 ∨ k = 2 ∨ k = 3 ∨ k = 4 ∨ k = 5 ∨ k = 6 ∨ k = 7 ∨ k = 8 ∨ k = 9 := by omega
  rcases this with rfl | rfl | rfl | rfl | rfl | rfl | rfl | rfl | rfl | rfl <;> rfl
/-- What stands ahead of each op. -/
structure Os1 (w : World) (b m s : Nat) (u : World) (K : Int → Option Int) (st : List Int) : Prop where
  fl : Fl u b m (.slice none 0 0) 0 K []
  bj : Bj u s st
  onc : Onc K st
  below : Below w.heap.size w u
  hb : w.heap.size ≤ b
  hm : w.heap.size ≤ m
  hs : w.heap.size ≤ s
set_option maxRecDepth 100000 in
theorem Os1.sb {w u : World} {b m s : Nat} {K : Int → Option Int} {st : List Int} (h : Os1 w b m s u K st) : s ≠ b ∧ s ≠ m := by
  obtain ⟨W, hb, _⟩ := h.fl.fs.box
  refine ⟨fun e => ?_, (h.fl.fs.kept.ne h.bj)⟩
  have h1 := h.bj
  unfold Lb at hb
  unfold Bj at h1
  rw [e, hb] at h1
  injection h1 with h1
  injection h1 with _ h2 _
  exact absurd h2 (by decide)
set_option maxRecDepth 100000 in
theorem Os1.on {w u v : World} {b m s : Nat} {K : Int → Option Int} {st : List Int} (h : Os1 w b m s u K st) (hb : Below u.heap.size u v) : Os1 w b m s v K st :=
  ⟨h.fl.on hb, h.bj.on hb, h.onc, h.below.trans (hb.mono h.below.size), h.hb, h.hm, h.hs⟩
set_option maxRecDepth 100000 in
/-- The list has changed. -/
theorem Os1.ch {w u v : World} {b m s : Nat} {K : Int → Option Int} {st : List Int} (h : Os1 w b m s u K st) (hc : Cf (Fb b m (.slice none 0 0) []) u v) : Bj v s st ∧ Below w.heap.size w v := by
  have h1 := h.sb
  refine ⟨(hc.block s (lt_some h.bj) (fun e => ?_)).trans h.bj, h.below.trans (hc.below h.below.size (fun k hk e => ?_))⟩
  · rcases Fb_none e with e | e
    · exact h1.1 e
    · exact h1.2 e
  · have h2 := h.hb
    have h3 := h.hm
    rcases Fb_none e with e | e <;> omega
set_option maxRecDepth 100000 in
/-- The state has changed, too. -/
theorem Os1.put {w v : World} {b m s : Nat} {K K' : Int → Option Int} {st st' : List Int} {u : World} (h : Os1 w b m s u K st) (hf : Fl v b m (.slice none 0 0) 0 K' []) (hj : Bj v s st) (hbl : Below w.heap.size w v) (k : Nat) (x : Int) (ho : Onc K' st') (he : st.set k x = st') : Os1 w b m s (v.setCell ⟨s, k, none⟩ (.int .i64 x)) K' st' := by
  have h1 := h.sb
  have hc : Cf (· = s) v (v.setCell ⟨s, k, none⟩ (.int .i64 x)) := Cf.setCell (F := (· = s)) v (p := ⟨s, k, none⟩) rfl _
  refine ⟨hf.cf hc (fun k hk e => ?_), by rw [← he]; exact hj.set x, ho, hbl.setCell (p := ⟨s, k, none⟩) h.hs _, h.hb, h.hm, h.hs⟩
  rcases Fb_none hk with e2 | e2
  · exact h1.1 (by rw [← e, e2])
  · exact h1.2 (by rw [← e, e2])
/-- An op in a block of its own. -/
def Ob (u : World) (o : Nat) (kd A B : Int) : Prop := u.heap[o]? = some (.cells #[.int .i64 kd, .int .i64 A, .int .i64 B] 42 (0, 0))
set_option maxRecDepth 100000 in
theorem Ob.cells {u : World} {o : Nat} {kd A B : Int} (h : Ob u o kd A B) : u.cell? ⟨o, 0, none⟩ = some (.int .i64 kd) ∧ u.cell? ⟨o, 1, none⟩ = some (.int .i64 A) ∧ u.cell? ⟨o, 2, none⟩ = some (.int .i64 B) := by
  unfold Ob at h
  unfold World.cell?
  refine ⟨?_, ?_, ?_⟩ <;> (rw [h]; rfl)
set_option maxRecDepth 100000 in
theorem Ob.cf {u v : World} {o : Nat} {kd A B : Int} {F : Nat → Prop} (h : Ob u o kd A B) (hc : Cf F u v) (hf : ¬ F o) : Ob v o kd A B := (hc.block o (lt_some h) hf).trans h
set_option maxRecDepth 100000 in
theorem Os1.nfb {w u : World} {b m s o : Nat} {K : Int → Option Int} {st : List Int} (h : Os1 w b m s u K st) (ho : u.heap.size ≤ o) : ¬ Fb b m (.slice none 0 0) [] o ∧ ¬ o = s := by
  have h1 := h.fl.fs.lt
  have h2 := h.fl.fs.mlt
  have h3 := lt_some h.bj
  refine ⟨fun e => ?_, by omega⟩
  rcases Fb_none e with e | e <;> omega
set_option maxRecDepth 100000 in
theorem pL_len (K : Int → Option Int) (f : Int → Bool) (k : Nat) : (pL K f k).length ≤ 8 := by
  unfold pL
  refine Nat.le_trans (List.length_filter_le _ _) ?_
  rw [List.length_drop]
  exact Nat.le_trans (Nat.sub_le _ _) (by decide)
set_option maxRecDepth 100000 in
theorem pL_bd (K : Int → Option Int) (f : Int → Bool) (k : Nat) (x : Int) (hx : x ∈ pL K f k) : 2 ≤ x ∧ x < 10 := by
  unfold pL at hx
  have h1 := List.mem_of_mem_drop (List.mem_filter.1 hx).1
  simp [eig] at h1
  omega
/-- What stands while pages are released. -/
structure RelI (w : World) (b m s o : Nat) (v : World) (K : Int → Option Int) (st : List Int) (A B : Int) (k : Nat) : Prop where
  fl : Fl v b m (.slice none 0 0) 0 (relK K A) []
  bj : Bj v s (relT st A k)
  below : Below w.heap.size w v
  ob : Ob v o 3 A B
set_option maxRecDepth 100000 in
theorem RelI.drew {w : World} {b m s o : Nat} {v : World} {K : Int → Option Int} {st : List Int} {A B : Int} {k : Nat} (h : RelI w b m s o v K st A B k) (q : Nat) : RelI w b m s o (v.drewN q) K st A B k :=
  ⟨h.fl.drew q, h.bj, h.below.trans ⟨rfl, rfl, rfl, Nat.le_refl _, fun _ _ => rfl⟩, h.ob⟩
set_option maxRecDepth 100000 in
theorem RelI.no {w : World} {b m s o : Nat} {v : World} {K : Int → Option Int} {st : List Int} {A B : Int} {k : Nat} (h : RelI w b m s o v K st A B k) (hd : dueF A (st.getD k 0) = false) : RelI w b m s o v K st A B (k + 1) :=
  ⟨h.fl, by rw [relT_no st A k hd]; exact h.bj, h.below, h.ob⟩
set_option maxRecDepth 100000 in
theorem RelI.yes {w : World} {b m s o : Nat} {v : World} {K : Int → Option Int} {st : List Int} {A B : Int} {k : Nat} (h : RelI w b m s o v K st A B k) (h1 : 2 ≤ k) (h2 : k < 10) (hd : dueF A (st.getD k 0) = true) (hsb : s ≠ b ∧ s ≠ m) (hos : ¬ o = s) (hs : w.heap.size ≤ s) (q : Nat) : RelI w b m s o ((v.drewN q).setCell ⟨s, k, none⟩ (.int .i64 0)) K st A B (k + 1) := by
  have hc : Cf (· = s) (v.drewN q) ((v.drewN q).setCell ⟨s, k, none⟩ (.int .i64 0)) := Cf.setCell (F := (· = s)) _ (p := ⟨s, k, none⟩) rfl _
  have hq := h.drew q
  refine ⟨hq.fl.cf hc (fun x hx e => ?_), by rw [← relT_yes st A k h1 h2 hd]; exact hq.bj.set 0, hq.below.setCell (p := ⟨s, k, none⟩) hs _, hq.ob.cf hc hos⟩
  rcases Fb_none hx with e2 | e2
  · exact hsb.1 (by rw [← e, e2])
  · exact hsb.2 (by rw [← e, e2])
set_option maxRecDepth 100000 in
theorem SlZ.tail {w : World} {b off n c : Nat} {x : Int} {l : List Int} (h : SlZ w (some ⟨b, off, none⟩) (n + 1) (c + 1) (x :: l)) : SlZ w (some ⟨b, off + 1, none⟩) n c l := by
  have hl := h.hlen
  have hc := h.hcap
  have hb := h.hbig
  refine ⟨by simpa using hl, by omega, fun y hy => h.wf y (List.mem_cons_of_mem _ hy), by omega, ?_⟩
  rcases h.hat with h0 | ⟨b', off', e, hlt, hcc⟩
  · omega
  · cases e
    refine .inr ⟨b, off + 1, rfl, hlt, fun i hi => ?_⟩
    have := hcc (i + 1) (by omega)
    rw [show off + 1 + i = off + (i + 1) by omega, this]
    simp [List.getD]
set_option maxRecDepth 100000 in
theorem SlZ.none {w : World} (ao : Option Addr) : SlZ w ao 0 0 [] := ⟨rfl, by omega, fun x hx => (by cases hx), Nat.le_refl _, .inl rfl⟩
set_option maxRecDepth 100000 in
set_option maxHeartbeats 8000000 in
theorem walk_FreeOnce (ao : Option Addr) (n cap : Nat) (l : List (Int × Int × Int)) (w : World) (ht : Tab w) (hz : Tz w) (h0 : 1 < w.heap.size) (hs : SlO w ao n l) :
    Calls Tryd.prog 6 #[.slice ao n cap] w fun e u => e = .returned (.bool true) ∧ Below w.heap.size w u := by
  have HLV := hidden (live_any w ht hz h0)
  have HTZ : Hid (∀ u, Below w.heap.size w u → Tz u) := hidden (fun u hu j hj => (hu.cell (p := ⟨0, j, none⟩) (Nat.lt_of_le_of_lt (Nat.zero_le _) h0)).trans (hz j hj))
  have HS := hidden hs
  have hbig := hs.hbig
  have hmk : ∀ u : World, (Instr.makeSlice 23 (.int .i64 10) (.int .i64 10)).run Tryd.prog u = .ok (.slice (some ⟨u.heap.size, 0, none⟩) 10 10) (u.alloc (.cells (madeCells #[.int .i64 0] 10) 3)) := fun u => info64z u 10 (by decide)
  clear ht hz hs
  go_enter Tryd.func6, Tryd.ntmps6
  go_wp2_with (go_at_call 9; refine HLV.out.mono ?_; rintro e w1 ⟨rfl, HB1⟩; refine Hid.out ?_)
  apply hidden
  have HNW := hidden (new_yes _ _ _ _ eig (lit_slz w1 eig (by decide) (by decide)) new8)
  have HB2 : Hid (Below w.heap.size w (w1.alloc (.cells (IV eig).toArray 3))) := hidden (bl_al HB1.out (Nat.le_refl _) _)
  change Hid (Calls Tryd.prog _ #[.slice (some ⟨w1.heap.size, 0, none⟩) 8 8] (w1.alloc (.cells #[.int .i64 2, .int .i64 3, .int .i64 4, .int .i64 5, .int .i64 6, .int .i64 7, .int .i64 8, .int .i64 9] 3)) _) at HNW
  change Hid (Below w.heap.size w (w1.alloc (.cells #[.int .i64 2, .int .i64 3, .int .i64 4, .int .i64 5, .int .i64 6, .int .i64 7, .int .i64 8, .int .i64 9] 3))) at HB2
  clear HLV
  go_wp2_with (go_at_call 11; refine HNW.out.mono ?_; rintro e w3 ⟨b, m, rfl, H3⟩; refine Hid.out ?_)
  apply hidden
  have HB3 : Hid (Below w.heap.size w w3) := hidden (HB2.out.trans (H3.out.1.mono HB2.out.size))
  have HO3 : Hid (Os1 w b m w3.heap.size (w3.alloc (.cells (madeCells #[.int .i64 0] 10) 3)) (KL eig) [0, 0, 0, 0, 0, 0, 0, 0, 0, 0]) := hidden (by
    have hb4 : Below w3.heap.size w3 (w3.alloc (.cells (madeCells #[.int .i64 0] 10) 3)) := bl_al (Below.refl _ _) (Nat.le_refl _) _
    have h5 := HB2.out.size
    exact ⟨H3.out.2.2.2.on hb4, made_j w3 10, Onc.start, HB3.out.trans (hb4.mono HB3.out.size), Nat.le_trans h5 H3.out.2.1, Nat.le_trans h5 H3.out.2.2.1, HB3.out.size⟩)
  clear HNW HB2 H3 HB1
  go_wp2_with fail
  obtain ⟨s, hs⟩ : ∃ s, w3.heap.size = s := ⟨_, rfl⟩
  rw [hs] at HO3 ⊢
  generalize w3.alloc (.cells (madeCells #[.int .i64 0] 10) 3) = w4 at HO3 ⊢
  clear hs hmk HB3
  go_loopw [7] (fun i wr => ∃ k : Nat, 2 ≤ k ∧ k ≤ 10 ∧ i = .int .i64 (k : Int) ∧ Hid (Os1 w b m s wr (KL eig) [0, 0, 0, 0, 0, 0, 0, 0, 0, 0])) (fun i _ => 10 - (RowKit.intOf i).toNat)
  case atStart => exact ⟨2, by omega, by omega, rfl, HO3⟩
  case round =>
    obtain ⟨k, hk1, hk2, rfl, HO⟩ := hrel
    by_cases hlt : k < 10
    · have hltI : (k : Int) < 10 := by omega
      have c1 := HO.out.bj.cell k hlt
      have f1 := HO.out.bj.free k
      obtain ⟨z, c1⟩ : ∃ z, wr.cell? ⟨s, k, none⟩ = some z := ⟨_, c1⟩
      have HO2 := hidden (HO.out.put HO.out.fl HO.out.bj HO.out.below k 0 Onc.start (setl0 k hlt))
      go_wp2_with fail
      go_roundw
      case rel => exact ⟨k + 1, by omega, by omega, by go_num, HO2⟩
      case measure => simp [RowKit.intOf]; omega
    · obtain rfl : k = 10 := by omega
      go_wp2_with fail
      have HOI : Hid (∃ K st, Os1 w b m s wr K st) := hidden ⟨_, _, HO.out⟩
      clear HO HO3 hk1 hk2 hlt
      go_loopw [8] (fun i u => ∃ t : Nat, t ≤ n ∧ i = .int .i64 (t : Int) ∧ Hid (∃ K st, Os1 w b m s u K st)) (fun i _ => n - (RowKit.intOf i).toNat)
      case atStart => exact ⟨0, by omega, rfl, HOI⟩
      case round =>
        obtain ⟨t, ht, rfl, HOK⟩ := hrel
        obtain ⟨K, st, hOK⟩ := HOK.out
        have HO := hidden hOK
        clear hOK HOK HOI
        by_cases hlt : t < n
        · have hltI : (t : Int) < (n : Int) := by omega
          obtain ⟨ob, off, kd, A, B, rfl, c0, c1, c2, hA, hB⟩ := HS.out.at HO.out.below hlt
          have hnf := HO.out.nfb (Nat.le_refl wr.heap.size)
          have HBX : Hid (Below wr.heap.size wr (wr.alloc (.cells #[.int .i64 kd, .int .i64 A, .int .i64 B] 42))) := hidden (bl_al (Below.refl _ _) (Nat.le_refl _) _)
          have HX := hidden (HO.out.on HBX.out)
          have HOB : Hid (Ob (wr.alloc (.cells #[.int .i64 kd, .int .i64 A, .int .i64 B] 42)) wr.heap.size kd A B) := hidden (al_row wr _)
          obtain ⟨k0, k1, k2⟩ := HOB.out.cells
          obtain ⟨x, hx⟩ : ∃ x, wr.alloc (.cells #[.int .i64 kd, .int .i64 A, .int .i64 B] 42) = x := ⟨_, rfl⟩
          rw [hx] at HX HOB k0 k1 k2
          obtain ⟨o, ho⟩ : ∃ o, wr.heap.size = o := ⟨_, rfl⟩
          rw [ho] at HOB k0 k1 k2 hnf
          clear HBX
          by_cases hk1 : kd = 1
          · subst hk1
            have HTK := hidden (take_any HX.out.fl (HTZ.out _ HX.out.below))
            go_wp2_with (go_at_call 20; refine HTK.out.mono ?_; rintro e u ⟨p, ok, rfl, HQ⟩; refine Hid.out ?_)
            apply hidden
            clear HTK hx ho c0 c1 c2
            cases ok with
            | true =>
              obtain ⟨hL, hF, hC⟩ : Lst K p ∧ Fl u b m (.slice none 0 0) 0 (setK K p (-1)) [] ∧ Cf (Fb b m (.slice none 0 0) []) x u := by
                rcases HQ.out with ⟨_, a1, a2, a3⟩ | ⟨e, _⟩
                · exact ⟨a1, a2, a3⟩
                · cases e
              have hp : 2 ≤ p ∧ p < 10 := by have := HX.out.onc.keys _ _ hL.1; omega
              obtain ⟨hJ, hBU⟩ := HX.out.ch hC
              have HOBU := hidden (HOB.out.cf hC hnf.1)
              have HFIN := hidden (HX.out.put hF hJ hBU p (-1) (HX.out.onc.set p (-1) hp (by decide)) rfl)
              have HOB2 : Hid (Ob (u.setCell ⟨s, p, none⟩ (.int .i64 (-1))) o 1 A B) := hidden (HOBU.out.cf (Cf.setCell (F := (· = s)) u (p := ⟨s, p, none⟩) rfl _) hnf.2)
              have HST : Hid (∀ k, 2 ≤ k → k < 10 → u.cell? ⟨s, k, none⟩ = some (.int .i64 (st.getD k 0))) := hidden (fun k h1 h2 => hJ.cell k (by rw [HX.out.onc.len]; exact h2))
              have HZP : Hid (st.getD p 0 = 0) := hidden ((HX.out.onc.zero hp.1 hp.2).2 hL.1)
              have HNZ : Hid (∀ k, 2 ≤ k → k < p → st.getD k 0 ≠ 0) := hidden (fun k h1 h2 e => hL.2 k h2 ((HX.out.onc.zero h1 (by omega)).1 e))
              have fs1 := hJ.free p
              obtain ⟨zp, cs1⟩ : ∃ z, u.cell? ⟨s, p, none⟩ = some z := ⟨_, HST.out p hp.1 hp.2⟩
              obtain ⟨q0, _, _⟩ := HOB2.out.cells
              clear hL hF hC hJ hBU HQ HX HOB HOBU k0 k1 k2 hnf HO
              have hpI : (p : Int) < 10 := by omega
              have hpI2 : 2 ≤ (p : Int) := by omega
              go_wp2_with fail
              go_loopw [12, 13] (fun le k v => v = u ∧ ∃ (kk : Nat) (lv : Int), k = .int .i64 (kk : Int) ∧ le = .int .i64 lv ∧ ((lv = 0 ∧ 2 ≤ kk ∧ kk ≤ p) ∨ (lv = p ∧ kk = p + 1))) (fun _ k _ => 11 - (RowKit.intOf k).toNat)
              case atStart => exact ⟨rfl, 2, 0, rfl, rfl, .inl ⟨rfl, by omega, hp.1⟩⟩
              case round =>
                obtain ⟨rfl, kk, lv, rfl, rfl, ⟨rfl, hk1, hk2⟩ | ⟨rfl, rfl⟩⟩ := hrel
                · have hkI : (kk : Int) < 10 := by omega
                  have cst := HST.out kk hk1 (by omega)
                  by_cases e : kk = p
                  · subst e
                    rw [HZP.out] at cst
                    go_wp2_with fail
                    go_roundw
                    case rel => exact ⟨trivial, kk + 1, kk, by go_num, rfl, .inr ⟨rfl, rfl⟩⟩
                    case measure => simp [RowKit.intOf]; omega
                  · have hne := HNZ.out kk hk1 (by omega)
                    have hneb : (st.getD kk 0 == 0) = false := by rw [beq_eq_false_iff_ne]; exact hne
                    generalize st.getD kk 0 = z at *
                    go_wp2_with fail
                    go_roundw
                    case rel => exact ⟨trivial, kk + 1, 0, by go_num, rfl, .inl ⟨rfl, by omega, by omega⟩⟩
                    case measure => simp [RowKit.intOf]; omega
                · by_cases hp9 : p + 1 < 10
                  · have h9 : (p : Int) + 1 < 10 := by omega
                    have hpz : ((p : Int) == 0) = false := by rw [beq_eq_false_iff_ne]; omega
                    have hp0 : 0 < (p : Int) := by omega
                    go_wp2_with fail
                    refine ⟨?_, ?_⟩
                    · (repeat apply Exists.intro)
                      refine ⟨?rel, rfl⟩
                      case rel => exact ⟨t + 1, by omega, by go_num, hidden ⟨_, _, HFIN.out⟩⟩
                    · simp [RowKit.intOf]; omega
                  · have h9 : ¬ (p : Int) + 1 < 10 := by omega
                    have hp0 : 0 < (p : Int) := by omega
                    go_wp2_with fail
                    refine ⟨?_, ?_⟩
                    · (repeat apply Exists.intro)
                      refine ⟨?rel, rfl⟩
                      case rel => exact ⟨t + 1, by omega, by go_num, hidden ⟨_, _, HFIN.out⟩⟩
                    · simp [RowKit.intOf]; omega
            | false =>
              obtain ⟨rfl, hno, rfl⟩ : p = 0 ∧ (∀ y, K y ≠ some 0) ∧ u = x := by
                rcases HQ.out with ⟨e, _⟩ | ⟨_, a1, a2, a3⟩
                · cases e
                · exact ⟨a1, a2, a3⟩
              have HST : Hid (∀ k, 2 ≤ k → k < 10 → u.cell? ⟨s, k, none⟩ = some (.int .i64 (st.getD k 0)) ∧ st.getD k 0 ≠ 0) := hidden (fun k h1 h2 => ⟨HX.out.bj.cell k (by rw [HX.out.onc.len]; exact h2), fun e => hno _ ((HX.out.onc.zero h1 h2).1 e)⟩)
              clear HQ hno HO hnf
              go_wp2_with fail
              go_loopw [12, 13] (fun le k v => v = u ∧ le = .int .i64 0 ∧ ∃ (kk : Nat), k = .int .i64 (kk : Int) ∧ 2 ≤ kk ∧ kk ≤ 10) (fun _ k _ => 11 - (RowKit.intOf k).toNat)
              case atStart => exact ⟨rfl, rfl, 2, rfl, by omega, by omega⟩
              case round =>
                obtain ⟨rfl, rfl, kk, rfl, hk1, hk2⟩ := hrel
                by_cases hk9 : kk < 10
                · have hkI : (kk : Int) < 10 := by omega
                  obtain ⟨cst, hne⟩ := HST.out kk hk1 hk9
                  have hneb : (st.getD kk 0 == 0) = false := by rw [beq_eq_false_iff_ne]; exact hne
                  generalize st.getD kk 0 = z at *
                  go_wp2_with fail
                  go_roundw
                  case rel => exact ⟨trivial, rfl, kk + 1, by go_num, by omega, by omega⟩
                  case measure => simp [RowKit.intOf]; omega
                · obtain rfl : kk = 10 := by omega
                  go_wp2_with fail
                  refine ⟨?_, ?_⟩
                  · (repeat apply Exists.intro)
                    refine ⟨?rel, rfl⟩
                    case rel => exact ⟨t + 1, by omega, by go_num, hidden ⟨_, _, HX.out⟩⟩
                  · simp [RowKit.intOf]; omega
          have hkb1 : (kd == 1) = false := by rw [beq_eq_false_iff_ne]; exact hk1
          by_cases hk2 : kd = 2
          · subst hk2
            by_cases g1 : A < 2
            · have hg1 : ¬ 2 ≤ A := by omega
              go_wp2_with fail
              go_roundw
              case rel => exact ⟨t + 1, by omega, by go_num, hidden ⟨_, _, HX.out⟩⟩
              case measure => simp [RowKit.intOf]; omega
            have g1' : 2 ≤ A := by omega
            by_cases g2 : 10 ≤ A
            · have hg2 : ¬ A < 10 := by omega
              go_wp2_with fail
              go_roundw
              case rel => exact ⟨t + 1, by omega, by go_num, hidden ⟨_, _, HX.out⟩⟩
              case measure => simp [RowKit.intOf]; omega
            have g2' : A < 10 := by omega
            by_cases g3 : B < 0
            · have hg3 : ¬ 0 ≤ B := by omega
              go_wp2_with fail
              go_roundw
              case rel => exact ⟨t + 1, by omega, by go_num, hidden ⟨_, _, HX.out⟩⟩
              case measure => simp [RowKit.intOf]; omega
            have g3' : 0 ≤ B := by omega
            by_cases g4 : 100 < B
            · have hg4 : ¬ B ≤ 100 := by omega
              go_wp2_with fail
              go_roundw
              case rel => exact ⟨t + 1, by omega, by go_num, hidden ⟨_, _, HX.out⟩⟩
              case measure => simp [RowKit.intOf]; omega
            have g4' : B ≤ 100 := by omega
            obtain ⟨an, rfl⟩ : ∃ an : Nat, A = (an : Int) := ⟨A.toNat, by omega⟩
            have hGE : giveE K (an : Int) B = if (K (an : Int)).isSome then 100 else 0 := by
              unfold giveE
              rw [if_pos (by omega), if_pos (by omega)]
            have HGV := hidden (give_any HX.out.fl (an : Int) B)
            rw [hGE] at HGV
            have cst := HX.out.bj.cell an (by rw [HX.out.onc.len]; omega)
            have hgn := HX.out.onc.gone (k := an) (by omega) (by omega)
            clear hGE g1 g2 g3 g4
            cases hKa : (K (an : Int)).isSome with
            | true =>
              rw [hKa] at HGV
              have hne : (st.getD an 0 == -1) = false := by
                rw [beq_eq_false_iff_ne]
                intro e
                rw [hKa] at hgn
                cases hgn.1 e
              simp only [if_true] at HGV
              have HG2 : Hid (Calls Tryd.prog 21 #[pB b, .int .i64 (an : Int), .int .i64 B] x fun e u => e = .returned (.int .i64 100) ∧ u = x) := hidden (HGV.out.mono (by
                rintro e u ⟨rfl, hu⟩
                rcases hu.out with ⟨h, _⟩ | ⟨_, h⟩
                · cases h
                · exact ⟨rfl, h⟩))
              clear HGV hgn hKa
              generalize st.getD an 0 = z at *
              go_wp2_with (go_at_call 21; refine same_call HG2.out ?_)
              refine ⟨?_, ?_⟩
              · (repeat apply Exists.intro)
                refine ⟨?rel, rfl⟩
                case rel => exact ⟨t + 1, by omega, by go_num, hidden ⟨_, _, HX.out⟩⟩
              · simp [RowKit.intOf]; omega
            | false =>
              rw [hKa] at HGV
              have hz1 := hgn.2 hKa
              rw [hz1] at cst
              simp only [Bool.false_eq_true, if_false] at HGV
              have HG2 : Hid (Calls Tryd.prog 21 #[pB b, .int .i64 (an : Int), .int .i64 B] x fun e u => e = .returned (.int .i64 0) ∧ Hid (Fl u b m (.slice none 0 0) 0 (setK K an B) [] ∧ Cf (Fb b m (.slice none 0 0) []) x u)) := hidden (HGV.out.mono (by
                rintro e u ⟨rfl, hu⟩
                rcases hu.out with ⟨_, h⟩ | ⟨h, _⟩
                · exact ⟨rfl, hidden h⟩
                · exact absurd rfl h))
              clear HGV hgn hKa k0 k1 k2
              have kk := HOB.out.cells
              go_wp2_with (go_at_call 21; refine HG2.out.mono ?_; rintro e u ⟨rfl, HU⟩; refine Hid.out ?_)
              apply hidden
              obtain ⟨hJ, hBU⟩ := HX.out.ch HU.out.2
              have HOBU := hidden (HOB.out.cf HU.out.2 hnf.1)
              have HFIN := hidden (HX.out.put HU.out.1 hJ hBU an B (HX.out.onc.set an B (by omega) (by omega)) rfl)
              have HOB2 : Hid (Ob (u.setCell ⟨s, an, none⟩ (.int .i64 B)) o 2 an B) := hidden (HOBU.out.cf (Cf.setCell (F := (· = s)) u (p := ⟨s, an, none⟩) rfl _) hnf.2)
              have cst2 := hJ.cell an (by rw [HX.out.onc.len]; omega)
              rw [hz1] at cst2
              have fst2 := hJ.free an
              obtain ⟨q0, q1, q2⟩ := HOBU.out.cells
              obtain ⟨r0, _, _⟩ := HOB2.out.cells
              clear hJ hBU HU HG2 cst kk HX HOB HOBU hnf HO hz1
              go_wp2_with fail
              refine ⟨?_, ?_⟩
              · (repeat apply Exists.intro)
                refine ⟨?rel, rfl⟩
                case rel => exact ⟨t + 1, by omega, by go_num, hidden ⟨_, _, HFIN.out⟩⟩
              · simp [RowKit.intOf]; omega
          have hkb2 : (kd == 2) = false := by rw [beq_eq_false_iff_ne]; exact hk2
          by_cases hk3 : kd = 3
          · subst hk3
            have HRL := hidden (release_any HX.out.fl A)
            rw [relS_nil, kL_eight HX.out.onc.keys] at HRL
            go_wp2_with (go_at_call 22; refine HRL.out.mono ?_; rintro e u ⟨rfl, HU⟩; refine Hid.out ?_)
            apply hidden
            obtain ⟨hJ, hBU⟩ := HX.out.ch HU.out.2
            have HR0 : Hid (RelI w b m s o u K st A B 2) := hidden ⟨HU.out.1, by rw [relT_start st A HX.out.onc.len]; exact hJ, hBU, HOB.out.cf HU.out.2 hnf.1⟩
            have HONC := hidden HX.out.onc
            have HSB := hidden HX.out.sb
            have HHB : Hid (w.heap.size ≤ b ∧ w.heap.size ≤ m ∧ w.heap.size ≤ s) := hidden ⟨HX.out.hb, HX.out.hm, HX.out.hs⟩
            have HNS := hidden hnf.2
            clear hJ hBU HU HRL HX HOB HO hnf k0 k1 k2 c0 c1 c2 hx ho
            go_wp2_with fail
            go_loopw [15, 16] (fun nn k v => ∃ kk : Nat, 2 ≤ kk ∧ kk ≤ 10 ∧ k = .int .i64 (kk : Int) ∧ nn = .int .i64 ((pL K (dueF A) kk).length : Int) ∧ Hid (RelI w b m s o v K st A B kk)) (fun _ k _ => 11 - (RowKit.intOf k).toNat)
            case atStart => exact ⟨2, by omega, by omega, rfl, rfl, HR0⟩
            case round =>
              obtain ⟨kk, h1, h2, rfl, rfl, HI⟩ := hrel
              by_cases hlt9 : kk < 10
              · have hkI : (kk : Int) < 10 := by omega
                have cst := HI.out.bj.cell kk (by rw [relT_len]; exact hlt9)
                rw [relT_at _ _ _ _ hlt9, if_neg (by omega)] at cst
                have fst := HI.out.bj.free kk
                obtain ⟨_, q1, _⟩ := HI.out.ob.cells
                have hdu : dueF A (st.getD kk 0) = mK K (dueF A) (kk : Int) := by rw [HONC.out.at1 kk h1 hlt9]; exact due_std K A kk
                have hstep := pL_step K (dueF A) kk h1 hlt9
                rw [← hdu] at hstep
                have hlen8 := pL_len K (dueF A) kk
                cases hd : dueF A (st.getD kk 0) with
                | true =>
                  rw [hd, if_pos rfl] at hstep
                  have HI2 := hidden (HI.out.yes h1 hlt9 hd HSB.out HNS.out HHB.out.2.2)
                  have hzz : 0 < st.getD kk 0 ∧ st.getD kk 0 ≤ A := by simpa [dueF] using hd
                  have z1 := hzz.1
                  have z2 := hzz.2
                  have hll : ((pL K (dueF A) kk).length : Int) = ((pL K (dueF A) (kk + 1)).length : Int) + 1 := by rw [hstep]; simp
                  rw [hll]
                  have hl9 : ((pL K (dueF A) (kk + 1)).length : Int) ≤ 8 := by have := pL_len K (dueF A) (kk + 1); omega
                  have HLL : Hid (∀ x : Nat, x = (pL K (dueF A) (kk + 1)).length → (x : Int) = ((pL K (dueF A) (kk + 1)).length : Int)) := hidden (fun x hx => by rw [hx])
                  obtain ⟨ln, hln⟩ : ∃ ln : Nat, (pL K (dueF A) (kk + 1)).length = ln := ⟨_, rfl⟩
                  have HLN := hidden hln
                  rw [hln] at hl9 ⊢
                  clear hstep hdu hd hzz hll hln HLL hlen8
                  generalize st.getD kk 0 = z at *
                  go_wp2_with fail
                  go_quiet (fail)
                  go_wp2_with fail
                  go_roundw
                  case rel => exact ⟨kk + 1, by omega, by omega, by go_num, by rw [HLN.out], hidden (HI2.out nq)⟩
                  case measure => simp [RowKit.intOf]; omega
                | false =>
                  rw [hd, if_neg (by decide)] at hstep
                  have HI2 : Hid (∀ q, RelI w b m s o (wr.drewN q) K st A B (kk + 1)) := hidden (fun q => (HI.out.no hd).drew q)
                  obtain ⟨ln, hln⟩ : ∃ ln : Nat, (pL K (dueF A) (kk + 1)).length = ln := ⟨_, rfl⟩
                  have HLN := hidden hln
                  rw [hstep, hln]
                  by_cases hz0 : 0 < st.getD kk 0
                  · have hz1 : ¬ st.getD kk 0 ≤ A := by
                      unfold dueF at hd
                      rw [decide_eq_true hz0, Bool.true_and, decide_eq_false_iff_not] at hd
                      exact hd
                    clear hstep hdu hd hln hlen8
                    generalize st.getD kk 0 = z at *
                    go_wp2_with fail
                    go_quiet (fail)
                    go_wp2_with fail
                    go_roundw
                    case rel => exact ⟨kk + 1, by omega, by omega, by go_num, by rw [HLN.out], hidden (HI2.out nq)⟩
                    case measure => simp [RowKit.intOf]; omega
                  · have hz9 : st.getD kk 0 ≤ 0 := by omega
                    clear hstep hdu hd hln hlen8
                    generalize st.getD kk 0 = z at *
                    have hz7 : decide (0 < z) = false := by simpa using hz9
                    go_wp2_with fail
                    go_quiet (fail)
                    go_wp2_with fail
                    go_roundw
                    case rel => exact ⟨kk + 1, by omega, by omega, by go_num, by rw [HLN.out], hidden (HI2.out nq)⟩
                    case measure => simp [RowKit.intOf]; omega
              · obtain rfl : kk = 10 := by omega
                have HFIN : Hid (Os1 w b m s wr (relK K A) (relT st A 10)) := hidden ⟨HI.out.fl, HI.out.bj, HONC.out.rel A, HI.out.below, HHB.out.1, HHB.out.2.1, HHB.out.2.2⟩
                rw [pL_end]
                simp only [List.length_nil]
                go_wp2_with fail
                refine ⟨?_, ?_⟩
                · (repeat apply Exists.intro)
                  refine ⟨?rel, rfl⟩
                  case rel => exact ⟨t + 1, by omega, by go_num, hidden ⟨_, _, HFIN.out⟩⟩
                · simp [RowKit.intOf]; omega
          have hkb3 : (kd == 3) = false := by rw [beq_eq_false_iff_ne]; exact hk3
          go_wp2_with fail
          go_roundw
          case rel => exact ⟨t + 1, by omega, by go_num, hidden ⟨_, _, HX.out⟩⟩
          case measure => simp [RowKit.intOf]; omega
        · obtain rfl : t = n := by omega
          have HFR := hidden (free_any HO.out.fl.fs)
          rw [kL_eight HO.out.onc.keys] at HFR
          clear HS hlt
          go_wp2_with (go_at_call 14; refine HFR.out.mono ?_; rintro e u1 ⟨v1, rfl, HO1, HBa⟩; refine Hid.out ?_)
          apply hidden
          have HOS1 := hidden (HO.out.on HBa.out)
          have HWT := hidden (waiting_any HOS1.out.fl.fs)
          rw [kL_eight HO.out.onc.keys] at HWT
          obtain ⟨a1, c1, rfl, hs1⟩ := HO1.out.slz (by have := pL_len K (· == 0) 2; omega) (fun x hx => by have := pL_bd K (· == 0) 2 x hx; omega)
          have HS1 := hidden hs1
          clear hs1 HFR HO1
          go_wp2_with (go_at_call 16; refine HWT.out.mono ?_; rintro e u2 ⟨v2, rfl, HO2, HBb⟩; refine Hid.out ?_)
          apply hidden
          have HOS2 := hidden (HOS1.out.on HBb.out)
          obtain ⟨a2, c2, rfl, hs2⟩ := HO2.out.slz (by have := pL_len K (fun s => decide (0 < s)) 2; omega) (fun x hx => by have := pL_bd K (fun s => decide (0 < s)) 2 x hx; omega)
          have HS2 := hidden hs2
          have HS1b := hidden (HS1.out.on (Nat.le_refl _) HBb.out)
          have HONC := hidden HO.out.onc
          have HBJ := hidden HOS2.out.bj
          have HBW := hidden HOS2.out.below
          clear hs2 HWT HO2 HS1 HOS1 HO HOS2 HBa HBb
          go_wp2_with fail
          go_loopw [17, 18, 19] (fun va vw k v => v = u2 ∧ ∃ (kk : Nat) (x1 : Option Addr) (n1 d1 : Nat) (x2 : Option Addr) (n2 d2 : Nat), 2 ≤ kk ∧ kk ≤ 10 ∧ k = .int .i64 (kk : Int) ∧ va = .slice x1 n1 d1 ∧ vw = .slice x2 n2 d2 ∧ Hid (SlZ u2 x1 n1 d1 (pL K (· == 0) kk)) ∧ Hid (SlZ u2 x2 n2 d2 (pL K (fun s => decide (0 < s)) kk))) (fun _ _ k _ => 11 - (RowKit.intOf k).toNat)
          case atStart => exact ⟨rfl, 2, _, _, _, _, _, _, by omega, by omega, rfl, rfl, rfl, HS1b, HS2⟩
          case round =>
            obtain ⟨rfl, kk, x1, n1, d1, x2, n2, d2, h1, h2, rfl, rfl, rfl, HP, HW⟩ := hrel
            by_cases hlt9 : kk < 10
            · have hkI : (kk : Int) < 10 := by omega
              have cst := HBJ.out.cell kk (by rw [HONC.out.len]; exact hlt9)
              rw [HONC.out.at1 kk h1 hlt9] at cst
              have hsf := pL_step K (· == 0) kk h1 hlt9
              have hsw := pL_step K (fun s => decide (0 < s)) kk h1 hlt9
              cases hK : K (kk : Int) with
              | none =>
                rw [mK_none hK, if_neg (by decide)] at hsf hsw
                rw [show stdK K (kk : Int) = -1 from by unfold stdK; rw [hK]; rfl] at cst
                rw [hsf] at HP
                rw [hsw] at HW
                clear hsf hsw hK
                go_wp2_with fail
                go_roundw
                case rel => exact ⟨trivial, kk + 1, _, _, _, _, _, _, by omega, by omega, by go_num, rfl, rfl, HP, HW⟩
                case measure => simp [RowKit.intOf]; omega
              | some f =>
                have hf := HONC.out.vals _ _ hK
                rw [mK_some hK] at hsf hsw
                rw [show stdK K (kk : Int) = f from by unfold stdK; rw [hK]; rfl] at cst
                by_cases hf0 : f = 0
                · subst hf0
                  rw [if_pos (by decide)] at hsf
                  rw [if_neg (by decide)] at hsw
                  rw [hsf] at HP
                  rw [hsw] at HW
                  have hl := HP.out.hlen
                  have hc := HP.out.hcap
                  rw [List.length_cons] at hl
                  obtain ⟨e1, rfl⟩ : ∃ e1, n1 = e1 + 1 := ⟨n1 - 1, by omega⟩
                  obtain ⟨d, rfl⟩ : ∃ d, d1 = d + 1 := ⟨d1 - 1, by omega⟩
                  obtain ⟨g, off, rfl, ca⟩ := HP.out.at (i := 0) (by omega)
                  have ca2 : wr.cell? ⟨g, off, none⟩ = some (.int .i64 (kk : Int)) := by simpa using ca
                  have hn1 : (((e1 : Nat) : Int) + 1 == 0) = false := by rw [beq_eq_false_iff_ne]; omega
                  have HT := hidden HP.out.tail
                  have hle : e1 ≤ d := by omega
                  have hb1 := HP.out.hbig
                  clear hsf hsw hK ca hc hf
                  by_cases hd0 : d = 0
                  · subst hd0
                    obtain rfl : e1 = 0 := by omega
                    have HE : Hid (SlZ wr (some ⟨g, off, none⟩) 0 0 (pL K (· == 0) (kk + 1))) := hidden (by
                      rw [List.eq_nil_of_length_eq_zero (show (pL K (· == 0) (kk + 1)).length = 0 by omega)]
                      exact SlZ.none _)
                    clear hl
                    go_wp2_with fail
                    go_roundw
                    case rel => exact ⟨trivial, kk + 1, _, _, _, _, _, _, by omega, by omega, by go_num, rfl, rfl, HE, HW⟩
                    case measure => simp [RowKit.intOf]; omega
                  · clear hl
                    have hdp : ¬ d + 1 = 1 := by omega
                    have hdI : (1 : Int) ≤ (d : Int) := by omega
                    go_wp2_with fail
                    go_roundw
                    case rel => exact ⟨trivial, kk + 1, _, _, _, _, _, _, by omega, by omega, by go_num, rfl, rfl, HT, HW⟩
                    case measure => simp [RowKit.intOf]; omega
                · rw [if_neg (by simpa using hf0)] at hsf
                  rw [if_pos (by simp; omega)] at hsw
                  rw [hsf] at HP
                  rw [hsw] at HW
                  have hl := HW.out.hlen
                  have hc := HW.out.hcap
                  rw [List.length_cons] at hl
                  obtain ⟨e1, rfl⟩ : ∃ e1, n2 = e1 + 1 := ⟨n2 - 1, by omega⟩
                  obtain ⟨d, rfl⟩ : ∃ d, d2 = d + 1 := ⟨d2 - 1, by omega⟩
                  obtain ⟨g, off, rfl, ca⟩ := HW.out.at (i := 0) (by omega)
                  have ca2 : wr.cell? ⟨g, off, none⟩ = some (.int .i64 (kk : Int)) := by simpa using ca
                  have hn1 : (((e1 : Nat) : Int) + 1 == 0) = false := by rw [beq_eq_false_iff_ne]; omega
                  have HT := hidden HW.out.tail
                  have hle : e1 ≤ d := by omega
                  have hb1 := HW.out.hbig
                  have hfb : (f == 0) = false := by rw [beq_eq_false_iff_ne]; exact hf0
                  have hfp : 0 < f := by omega
                  clear hsf hsw hK ca hc hf
                  by_cases hd0 : d = 0
                  · subst hd0
                    obtain rfl : e1 = 0 := by omega
                    have HE : Hid (SlZ wr (some ⟨g, off, none⟩) 0 0 (pL K (fun s => decide (0 < s)) (kk + 1))) := hidden (by
                      rw [List.eq_nil_of_length_eq_zero (show (pL K (fun s => decide (0 < s)) (kk + 1)).length = 0 by omega)]
                      exact SlZ.none _)
                    clear hl
                    go_wp2_with fail
                    go_roundw
                    case rel => exact ⟨trivial, kk + 1, _, _, _, _, _, _, by omega, by omega, by go_num, rfl, rfl, HP, HE⟩
                    case measure => simp [RowKit.intOf]; omega
                  · clear hl
                    have hdp : ¬ d + 1 = 1 := by omega
                    have hdI : (1 : Int) ≤ (d : Int) := by omega
                    go_wp2_with fail
                    go_roundw
                    case rel => exact ⟨trivial, kk + 1, _, _, _, _, _, _, by omega, by omega, by go_num, rfl, rfl, HP, HT⟩
                    case measure => simp [RowKit.intOf]; omega
            · obtain rfl : kk = 10 := by omega
              obtain rfl : n1 = 0 := HP.out.hlen.symm
              obtain rfl : n2 = 0 := HW.out.hlen.symm
              go_wp2_with fail
              go_ret
              exact ⟨rfl, HBW.out⟩
end Go.Proofs.YtbbljldnaiiemaaDoor
