import Derived.Test.YtbkhjeacmmbabaaGreatDoorJ38
import Derived.Handy
import Derived.BigQuiet
namespace Go.Proofs.YtbkhjeacmmbabaaGreatDoor
set_option maxRecDepth 100000
set_option maxHeartbeats 4000000
open Go.RowKit
def QZ (a : Nat) (vb vs : Value) (b : Nat) : Prop := b = a ∨ vb.ownBlock = some b ∨ vs.ownBlock = some b
theorem own_oneN {w : World} {g : Nat} {x : Nat} {fr : Nat × Nat} (h : w.heap[g]? = some (.cells #[.int .i64 (x : Int)] 3 fr)) (hf : fr = (0, 0)) : w.ownsRow g 3 1 (.slice (some ⟨g, 0, none⟩) 1 1) 1 (NI [x]) := by
 subst hf
 refine ⟨by simp [NI], .inr ⟨g, 1, _, rfl, Lr, h, Lr, by unfold maxLen; omega, zv, ?_⟩⟩
 simp [NI]
theorem NIq (a b c : List Nat) : NI (a ++ b ++ c) = NI a ++ NI b ++ NI c := by simp [NI]
theorem NIq_take (l : List Nat) (n : Nat) : (NI l).take n = NI (l.take n) := by simp [NI, List.map_take]
theorem NIq_drop (l : List Nat) (n : Nat) : (NI l).drop n = NI (l.drop n) := by simp [NI, List.map_drop]
def QuTo (w : World) (B a : Nat) (k : Int) (n : Nat) (po : Option Addr) (pn pc : Nat) (vb vs : Value) (ws : Int) (P body : List Int) (st : List Nat) (r : Value) (e : Ending) (w' : World) : Prop :=
 e = .returned r ∧ Hid (∃ vb' vs', PO w' B a k n po pn pc vb' vs' ws P body st ∧ Far po pn vs' ∧ (vb'.ownBlock = vb.ownBlock ∨ ∃ g, vb'.ownBlock = some g ∧ w.heap.size ≤ g) ∧ (vs'.ownBlock = vs.ownBlock ∨ ∃ g, vs'.ownBlock = some g ∧ w.heap.size ≤ g)) ∧ Hid (Cf (QZ a vb vs) w w')
theorem Cf.wideQ {F G : Nat → Prop} {w w' : World} (h : Cf F w w') (hf : ∀ b, F b → G b) : Cf G w w' := ⟨h.os, h.tape, h.output, h.size, fun k hk hg => h.block k hk (fun e => hg (hf k e))⟩
theorem inPlace_ins (w : World) (B a : Nat) (k : Int) (n : Nat) (po : Option Addr) (pn pc : Nat) (bo : Option Addr) (bn bc : Nat) (so : Option Addr) (sn sc : Nat) (ws : Int) (P body : List Int) (st : List Nat)
  (A : PO w B a k n po pn pc (.slice bo bn bc) (.slice so sn sc) ws P body st) (F3 : bn ≤ 65536) (F4 : sn ≤ 65536) (hB : B ≤ w.heap.size) (i : Nat) (hi : ¬ (k = 3 ∧ i = 0)) (D9 : i ≤ sn) (hn : n ≤ 65536)
  (c : Cl) (ka va : Option Addr) (kc vc : Nat) (hk : Sl w ka c.key.length kc c.key) (hv : Sl w va c.val.length vc c.val) (fk : Far ka c.key.length (.slice bo bn bc)) (fv : Far va c.val.length (.slice bo bn bc)) (F5 : c.key.length ≤ 65536) (F6 : c.val.length ≤ 65536)
  (Q : c.key.take P.length = P) (B9 : Far po pn (.slice so sn sc)) (D5 : 10 + pn + 2 * sn + bn + (qB P.length c).length + 2 ≤ n) :
  Calls Tryz.prog 247 #[.pointer (some ⟨a, 0, none⟩), .int .i64 (i : Int), .int .i64 (i : Int), .agg #[.slice ka c.key.length kc, .int .i64 c.kd, .slice va c.val.length vc, .int .i64 c.pg, .int .i64 c.ct]] w
   (QuTo w B a k n po pn pc (.slice bo bn bc) (.slice so sn sc) ws P (body ++ qB P.length c) (st.take i ++ [bn] ++ st.drop i) (.bool true)) := by
 have J := A.pre.hlen
 have E0 : P.length ≤ c.key.length := by rw [← Q, zJ]; omega
 obtain ⟨x, hx⟩ : ∃ x, w.alloc (.cells #[.slice ka c.key.length kc, .int .i64 c.kd, .slice va c.val.length vc, .int .i64 c.pg, .int .i64 c.ct] 50) = x := ⟨_, rfl⟩
 have G : Below w.heap.size w x := by rw [← hx]; exact zab Br Lr _
 obtain ⟨s, hs⟩ : ∃ s, w.heap.size = s := ⟨_, rfl⟩
 have C0 : C5 x s (.slice ka c.key.length kc) (.int .i64 c.kd) (.slice va c.val.length vc) (.int .i64 c.pg) (.int .i64 c.ct) := by rw [← hx, ← hs]; exact C5.box _ _ _ _ _ _
 obtain ⟨z0, z1, z2, z3, z4⟩ := C0.cells
 have A4 : QR x a k n (.slice po pn pc) (.slice bo bn bc) (.slice so sn sc) ws := zag A.row G
 obtain ⟨c0, c1, c2, c3, c4, c5⟩ := A4.cells
 obtain ⟨qo, qn, qc, C1, C2⟩ := head_row k i po pn pc
 obtain ⟨rfl, rfl, rfl⟩ : qo = po ∧ qn = pn ∧ qc = pc := by
  rcases C1 with ⟨_, _, _, h4⟩ | ⟨h1, h2, h3, _⟩
  ·exact absurd h4 hi
  ·exact ⟨h1, h2, h3⟩
 have C3 := zaa (C2 x a n _ _ ws A4)
 have C4 : Hid (Calls Tryz.prog 82 #[.int .i64 k, .int .i64 (i : Int)] x fun e w' => e = .returned (.bool false) ∧ w' = x) := zaa (by
  have := zda k (i : Int) x
  rwa [decide_eq_false (show ¬ (k = 3 ∧ (i : Int) = 0) by omega)] at this)
 have C6 : Hid (Calls Tryz.prog 250 #[.slice ka c.key.length kc, .slice qo qn qc] x fun e w' => e = .returned (.bool true) ∧ w' = x) := zaa (by
  have := hasPrefix_any ka qo c.key.length qn kc qc c.key P x (hk.on Lr G) (A.pre.on Lr G)
  rwa [decide_eq_true Q] at this)
 obtain ⟨M, hM⟩ : ∃ M, (body ++ qB P.length c).length = M := ⟨_, rfl⟩
 have A5 : bn = body.length := A.ob.len
 have E1 : M = bn + (qB P.length c).length := by rw [← hM, zG, A5]
 have A6 : Hid (∀ u, Below x.heap.size x u → Calls Tryz.prog 126 #[.agg (eV none 0 0 ka c.key.length kc c.kd va c.val.length vc c.pg c.ct), .slice bo bn bc, .int .i64 (qn : Int)] u fun e w' => ∃ ao cp, e = .returned (.slice ao M cp) ∧ Hid (OwnB w' B (.slice ao M cp) (body ++ qB P.length c)) ∧ Hid (Gr x (.slice bo bn bc) w' (.slice ao M cp))) := by
  refine zaa fun u hu => ?_
  have X := zae G Lr hu
  have h := eappended_any (.slice bo bn bc) B body none 0 0 ka c.key.length kc c.kd va c.val.length vc c.pg c.ct [] c.key c.val P.length u (A.ob.on Lr X) (zN hB X.size) (Sl.nil_any _ _ _ fun _ => rfl) (hk.on Lr X) (hv.on Lr X) (.inl rfl) fk fv zq zq
  rw [J] at h
  refine h.mono ?_
  rintro e w' ⟨v', rfl, HO, HG⟩
  obtain ⟨ao, cp, rfl⟩ := HO.out.shape
  have e1 : (body ++ qB qn ⟨[] ++ c.key, c.kd, c.val, c.pg, c.ct⟩).length = M := by rw [← hM, J]; rfl
  rw [e1] at HO HG ⊢
  refine ⟨ao, cp, rfl, zaa ?_, zaa ((Gr.ofBelow _ hu).trans HG.out)⟩
  rw [J]
  exact HO.out
 have B2 : (Value.slice bo bn bc).ownBlock ≠ some a := by
  have := A.row
  unfold QR at this
  exact A.ob.apart this zd
 have B3 : (Value.slice so sn sc).ownBlock ≠ some a := by
  have := A.row
  unfold QR at this
  exact A.on.apart this zd
 have B4 := A.ob.apartN A.on
 have B5 := A.on.apartB A.ob
 have C7 := zaa A
 have A7 := zaa (A.go G)
 have A8 := zaa G
 have R := zaa (And.intro B2 (And.intro B3 (And.intro B4 B5)))
 have F7 := zaa J
 have HM := zaa hM
 have F8 := zaa A5
 have HS := zaa hs
 obtain ⟨st', T⟩ : ∃ st', st.take i ++ [bn] ++ st.drop i = st' := ⟨_, rfl⟩
 obtain ⟨body', H⟩ : ∃ body', body ++ qB P.length c = body' := ⟨_, rfl⟩
 rw [T, H]
 rw [H] at A6 HM
 have D7 := zaa T
 have F1 := zaa H
 have E2 := zaa hB
 have F2 : (bn : Int) ≤ 65536 := zq
 have F9 : (M : Int) ≤ 200000 := zq
 have G0 : (i : Int) ≤ 65536 := zq
 have G1 : (n : Int) ≤ 65536 := zq
 have U : Hid (10 + qn + 2 * sn + bn + (M - bn) + 2 ≤ n ∧ bn ≤ M) := zaa zq
 have E3 : Hid (qn ≤ 65536) := zaa zq
 have A9 := zaa B9
 clear T H B9 A hk hv fk fv G C0 A4 C2 C1 hi Q J E0 hM E1 A5 B2 B3 B4 B5 hB D5
 go_enter Tryz.func247, Tryz.ntmps247
 go_upto_region 7 with (first | (go_at_call 82; refine zad C4.out ?_) | (go_at_call 127; refine zad C3.out ?_) | (go_at_call 250; refine zad C6.out ?_))
 go_cut [11] from 37 to 45 (fun v u => ∃ ao cp, v = .slice ao M cp ∧ Hid (OwnB u B (.slice ao M cp) body') ∧ Hid (Gr x (.slice bo bn bc) u (.slice ao M cp)))
 case first =>
  go_wp2_with fail
  go_region_with (first | (go_at_call 126; refine (A6.out _ zW1).mono ?_; rintro e w1 ⟨ao, cp, rfl, K, C⟩))
  all_goals (try go_wp2_with fail)
  all_goals go_meet
  all_goals exact ⟨ao, cp, rfl, by first | exact K | exact zaa (K.out.on Lr Br.drew) | exact zaa (K.out.on Lr (zac Br _)), by first | exact C | exact zaa (C.out.trans (Gr.ofBelow _ Br.drew)) | exact zaa (C.out.trans (Gr.ofBelow _ (zac Br _)))⟩
 obtain ⟨ao, cp, rfl, K, C⟩ := hcut
 obtain ⟨w1, E4⟩ : ∃ w1, w1 = wc := ⟨_, rfl⟩
 subst E4
 clear z0 z1 z2 z3 z4 c0 c1 c2 c3 c4 c5 C4 C3 C6 A6
 have Y : Hid (QR w1 a k n (.slice qo qn qc) (.slice bo bn bc) (.slice so sn sc) ws) := zaa (A7.out.row.gr C.out R.out.1)
 obtain ⟨Z, hZ⟩ : ∃ Z, 10 + qn + 2 * sn + bn = Z := ⟨_, rfl⟩
 have C8 : Hid (∀ u, Below w1.heap.size w1 u → Calls Tryz.prog 241 #[.pointer (some ⟨a, 0, none⟩)] u fun e w' => e = .returned (.int .i64 (Z : Int)) ∧ w'.cell? ⟨a, 1, none⟩ = some (.int .i64 (n : Int)) ∧ Hid (Below w1.heap.size w1 w')) := by
  refine zaa fun u hu => (filled_any u a k n qo qn qc bo bn bc so sn sc ws (zag Y.out hu) (by have := E3.out; omega) zq zq).mono ?_
  rintro e w' ⟨rfl, q, rfl⟩
  rw [hZ]
  have hb := zac hu q
  exact ⟨rfl, (show QR (u.drewN q) a k n (.slice qo qn qc) (.slice bo bn bc) (.slice so sn sc) ws from zag Y.out hb).cells.2.1, zaa hb⟩
 have c1 := Y.out.cells.2.1
 have G2 : (bn : Int) ≤ (M : Int) := by have := U.out; omega
 have E5 : (Z : Int) ≤ 65536 := by have := U.out; omega
 have C9 : Hid (Z + (M - bn) + 2 ≤ n) := zaa (by have := U.out; omega)
 have E7 : ¬ (n : Int) < (Z : Int) + (M : Int) - (bn : Int) + 2 := by have := C9.out; omega
 clear hZ
 go_upto_region 8 with fail
 go_cut [63] from 46 to 63 (fun v u => v = .bool false ∧ Hid (Below w1.heap.size w1 u))
 case first =>
  go_wp2_with fail
  go_region_with (first | (go_at_call 241; refine (C8.out _ zW1).mono ?_; rintro e w2 ⟨rfl, y1, D⟩))
  all_goals (try go_wp2_with fail)
  all_goals go_meet
  all_goals exact ⟨by go_unwrap; simp; omega, by first | exact D | exact zaa D.out.drew | exact zaa (zac D.out _)⟩
 obtain ⟨rfl, D⟩ := hcut
 obtain ⟨w2, E8⟩ : ∃ w2, w2 = wc := ⟨_, rfl⟩
 subst E8
 clear c1 C8 E7 E5 C9
 have G3 : Hid (Below w1.heap.size w1 w2) := D
 have L : Hid (QR w2 a k n (.slice qo qn qc) (.slice bo bn bc) (.slice so sn sc) ws) := zaa (zag Y.out D.out)
 go_wp2_with fail
 go_loopw [12] (fun j wr => j = .int .i64 (i : Int) ∧ wr = w2) (fun _ _ => 0)
 case atStart => exact ⟨rfl, by first | rfl | trivial⟩
 case round =>
  obtain ⟨rfl, rfl⟩ := hrel
  have D0 : Hid (sn = st.length) := zaa C7.out.on.len
  have V : Hid (OwnN wr B (.slice so sn sc) st) := zaa ((A7.out.on.gr C.out R.out.2.2.2).below D.out)
  obtain ⟨c0, c1, c2, c3, c4, c5⟩ := L.out.cells
  have f3 := L.out.free 3
  have f4 := L.out.free 4
  obtain ⟨u3, A0⟩ : ∃ u3, (wr.setCell ⟨a, 3, none⟩ (.slice ao M cp)).alloc (.cells #[.int .i64 (bn : Int)] 3) = u3 := ⟨_, rfl⟩
  have E9 : (wr.setCell ⟨a, 3, none⟩ (.slice ao M cp)).heap.size = wr.heap.size := by simp
  have N : Below (wr.setCell ⟨a, 3, none⟩ (.slice ao M cp)).heap.size (wr.setCell ⟨a, 3, none⟩ (.slice ao M cp)) u3 := by rw [← A0]; exact zab Br Lr _
  have E : Cf (· = a) wr (wr.setCell ⟨a, 3, none⟩ (.slice ao M cp)) := Cf.set _ _ _ _
  have A1 := L.out
  unfold QR at A1
  have W := K.out.on Lr D.out
  have A2 : Hid (QR u3 a k n (.slice qo qn qc) (.slice ao M cp) (.slice so sn sc) ws ∧ OwnB u3 B (.slice ao M cp) body' ∧ OwnN u3 B (.slice so sn sc) st ∧ u3.heap.size = wr.heap.size + 1) := zaa ⟨zag (L.out.set3 _) N, (W.cf E (W.apart A1 zd)).on Lr N, (V.out.cf E (V.out.apart A1 zd)).below N, by rw [← A0]; simp⟩
  have D3 : Hid (Calls Tryz.prog 115 #[.slice so sn sc, .int .i64 (i : Int), .int .i64 (i : Int), .slice (some ⟨wr.heap.size, 0, none⟩) 1 1] u3 (RN.To u3 B (.slice so sn sc) (i + 1 + (sn - i)) ((NI st).take i ++ NI [bn] ++ (NI st).drop i))) := zaa (by
   have h1 := A2.out.2.2.1
   unfold OwnN at h1
   rw [← D0.out] at h1
   have h2 : u3.ownsRow wr.heap.size 3 1 (.slice (some ⟨wr.heap.size, 0, none⟩) 1 1) 1 (NI [bn]) := own_oneN (fr := (0, 0)) (by rw [← A0]; have := heap_alloc_last (wr.setCell ⟨a, 3, none⟩ (.slice ao M cp)) (.cells #[.int .i64 (bn : Int)] 3); rw [E9] at this; exact this) rfl
   refine RN.rep_eq u3 B wr.heap.size sn 1 i i _ _ _ _ h1 h2 (NI_one _) (NI_one _) (.inr fun e => ?_) Lr D9 zq ?_ (.inr zq) rfl
   ·have h3 := V.out
    unfold OwnN at h3
    have := (h3.lt wr.heap.size (by rw [← e]; rfl)).2
    omega
   ·have h4 := A2.out.2.2.2
    have h5 := E2.out
    have h6 := A8.out.size
    have h7 := C.out.grow.size
    have h8 := D.out.size
    omega)
  have B0 : Hid (Cf (QZ a (.slice bo bn bc) (.slice so sn sc)) w u3) := zaa (((((Cf.of_below A8.out).go (Cf.ofGr C.out (fun g e => .inr (.inl e)))).go (Cf.of_below D.out)).go (E.wideQ (fun b e => .inl e))).go (Cf.of_below N))
  clear A1 W E N
  go_wp2_with (go_at_call 115; refine D3.out.mono ?_; rintro e w4 ⟨so4, sc4, rfl, F0, O⟩; refine Hid.out ?_)
  apply zaa
  have A3 : Hid (QR w4 a k n (.slice qo qn qc) (.slice ao M cp) (.slice so sn sc) ws) := zaa (A2.out.1.gr O.out R.out.2.1)
  clear c0 c1 c2 c3 c4 c5 f3 f4 D3 A0
  obtain ⟨c0, c1, c2, c3, c4, c5⟩ := A3.out.cells
  have f4 := A3.out.free 4
  go_wp2
  go_ret
  have B1 := A3.out
  unfold QR at B1
  have E : Cf (· = a) w4 (w4.setCell ⟨a, 4, none⟩ (.slice so4 (i + 1 + (sn - i)) sc4)) := Cf.set _ _ _ _
  obtain ⟨_, qb, qs, _⟩ := A2.out
  have B6 := qb.gr O.out (qb.apartN qs)
  have B7 : OwnN w4 B (.slice so4 (i + 1 + (sn - i)) sc4) st' := by
   unfold OwnN
   rw [← D7.out, NIq, ← NIq_take, ← NIq_drop]
   have e : (st.take i ++ [bn] ++ st.drop i).length = i + 1 + (sn - i) := by have := D0.out; simp; omega
   rw [e]
   exact F0.out
  have D4 : Cf (QZ a (.slice bo bn bc) (.slice so sn sc)) w (w4.setCell ⟨a, 4, none⟩ (.slice so4 (i + 1 + (sn - i)) sc4)) := (B0.out.go (Cf.ofGr O.out (fun g e => .inr (.inr e)))).go (E.wideQ (fun b e => .inl e))
  have F := C7.out
  have I := F.far
  have D8 : Sl (w4.setCell ⟨a, 4, none⟩ (.slice so4 (i + 1 + (sn - i)) sc4)) qo qn qc P := F.pre.cf D4 (by
   rcases F.pre.apartQ F.row with h | h
   ·exact .inl h
   ·rcases I with h1 | h1
    ·exact .inl h1
    ·rcases A9.out with h2 | h2
     ·exact .inl h2
     ·right
      intro p hp
      rintro (e | e | e)
      ·exact h p hp e
      ·exact h1 p hp e
      ·exact h2 p hp e)
  have B8 : Sl u3 qo qn qc P := F.pre.cf B0.out (by
   rcases F.pre.apartQ F.row with h | h
   ·exact .inl h
   ·rcases I with h1 | h1
    ·exact .inl h1
    ·rcases A9.out with h2 | h2
     ·exact .inl h2
     ·right
      intro p hp
      rintro (e | e | e)
      ·exact h p hp e
      ·exact h1 p hp e
      ·exact h2 p hp e)
  have hsz : w.heap.size ≤ u3.heap.size := B0.out.size
  refine ⟨rfl, zaa ⟨_, _, ⟨A3.out.set4 _, D8, B6.cf E (B6.apart B1 zd), B7.cf E (B7.apart B1 zd), I.gr A7.out.pre C.out, F.ha⟩, A9.out.gr B8 O.out, C.out.own.imp id (fun ⟨g, h1, h2⟩ => ⟨g, h1, zN A8.out.size h2⟩), O.out.own.imp id (fun ⟨g, h1, h2⟩ => ⟨g, h1, zN hsz h2⟩)⟩, zaa D4⟩
theorem qB_most (m : Nat) (c : Cl) : (qB m c).length ≤ c.key.length + c.val.length + 31 := by
 unfold qB
 have h1 := (zba ((c.key.length - m : Nat) : Int)).1
 have h2 := (zba (c.val.length : Int)).1
 have h3 := (zba (c.pg % 18446744073709551616)).1
 have h4 := (zba (c.ct % 18446744073709551616)).1
 split <;> simp only [zG, List.length_cons, List.length_nil, zK] <;> omega
theorem PO.pgq {w : World} {B a : Nat} {k : Int} {n : Nat} {po : Option Addr} {pn pc : Nat} {bo : Option Addr} {bn bc : Nat} {so : Option Addr} {sn sc : Nat} {ws : Int} {P body : List Int} {st : List Nat} (h : PO w B a k n po pn pc (.slice bo bn bc) (.slice so sn sc) ws P body st) (hw : Wf body) (hb : body.length ≤ 140737488355328) (hs : st.length ≤ 140737488355328) : PgQ w a k n po pn pc bo bn bc so sn sc ws P body st := by
 obtain ⟨bo', bc', so', sc', e1, e2, hp⟩ := h.pg hw hb hs
 injection e1 with i1 i2 i3
 injection e2 with i4 i5 i6
 subst i1 i3 i4 i6
 rw [← i2, ← i5] at hp
 exact hp
theorem hasQ (w : World) (a : Nat) (k : Int) (n : Nat) (po : Option Addr) (pn pc : Nat) (bo : Option Addr) (bn bc : Nat) (so : Option Addr) (sn sc : Nat) (ws : Int) (P body : List Int) (st : List Nat) (h : PgQ w a k n po pn pc bo bn bc so sn sc ws P body st) (i : Nat) (hi : i < sn) :
  Calls Tryz.prog 237 #[.pointer (some ⟨a, 0, none⟩), .int .i64 (i : Int)] w fun e w' => e = .returned (.bool true) ∧ w' = w := by
 have HL := zaa (zcr w a k n po pn pc bo bn bc so sn sc ws P body st h)
 have h1 : (i : Int) < (sn : Int) := zq
 clear h
 go_enter Tryz.func237, Tryz.ntmps237
 go_wp2_with (go_at_call 88; refine zad HL.out ?_)
 go_ret
 exact ⟨zv, rfl⟩
theorem hasQ_no (w : World) (a : Nat) (k : Int) (n : Nat) (po : Option Addr) (pn pc : Nat) (bo : Option Addr) (bn bc : Nat) (so : Option Addr) (sn sc : Nat) (ws : Int) (P body : List Int) (st : List Nat) (h : PgQ w a k n po pn pc bo bn bc so sn sc ws P body st) (i : Int) (hi : ¬ (0 ≤ i ∧ i < (sn : Int))) :
  Calls Tryz.prog 237 #[.pointer (some ⟨a, 0, none⟩), .int .i64 i] w fun e w' => e = .returned (.bool false) ∧ w' = w := by
 have HL := zaa (zcr w a k n po pn pc bo bn bc so sn sc ws P body st h)
 clear h
 by_cases h0 : 0 ≤ i
 ·have h1 : ¬ i < (sn : Int) := fun h => hi ⟨h0, h⟩
  clear hi
  go_enter Tryz.func237, Tryz.ntmps237
  go_wp2_with (go_at_call 88; refine zad HL.out ?_)
  go_ret
  exact ⟨by simp; omega, rfl⟩
 ·clear hi
  go_enter Tryz.func237, Tryz.ntmps237
  go_wp2_with (go_at_call 88; refine zad HL.out ?_)
  go_ret
  exact ⟨zv, rfl⟩
def hdQ (k : Int) (i : Nat) (P : List Int) : List Int := if k = 3 ∧ i = 0 then [] else P
structure Qs where
 P : List Int
 cs : List Cl
 ws : Nat
def gone (k : Int) (s : Qs) (i j : Nat) : Nat := if j = i then 0 else match s.cs[i]? with
 | none => 0
 | some d => (qB (hdQ k i s.P).length d).length
section
variable {w w' : World} {K : Nat → Prop} {a : Nat} {k : Int} {n : Nat} {s : Qs} {po : Option Addr} {pn pc : Nat} {bo : Option Addr} {bn bc : Nat} {so : Option Addr} {sn sc : Nat} {body : List Int} {st : List Nat}
end
theorem qbd_big (m : Nat) : ∀ (f : Bool) (cs : List Cl), (∀ c ∈ cs, c.fit) → (qbd m f cs).length ≤ 131103 * cs.length
 | _, [], _ => by simp [qbd]
 | f, c :: r, h => by
  have ih := qbd_big m false r fun d hd => h d (by simp [hd])
  have h1 := qB_most (if f then 0 else m) c
  have h2 := (h c zv).key
  have h3 := (h c zv).val
  simp only [qbd, zG, List.length_cons]
  omega
theorem zaz {P : Program} {fn : Func} {p u : Tmp} {ty : TypeId} (h : fn.results = #[.cell p ty, .tmp u]) (tmps : Array Value) (w : World) (g : Nat) (t : TypeId) (cs : Array Value) (fr : Nat × Nat) (d : TypeDesc) (v : Value)
  (hp : tmps.getD p undef = .pointer (some ⟨g, 0, none⟩)) (hv : tmps.getD u undef = v) (hg : w.heap[g]? = some (.cells cs t fr))
  (hu : P.underlying ty = some d) (hd : (match d with | .struct _ | .array _ _ => true | _ => false) = true) (hi : (P.info? ty).map (·.size) = some cs.size) :
  (results fn tmps).run P w = .ok (.tuple #[.agg cs, v]) w := by
 subst hv
 rw [results_cell_tmp h, hp]
 simp [asAddr, run_loadVar_row w g t ty cs fr d hg hu hd hi, Result.andThen]
def cellQ (cs : List Cl) (x : Int) : Cl := if 0 ≤ x ∧ x < (cs.length : Int) then (cs[x.toNat]?).getD ⟨[], 0, [], 0, 0⟩ else ⟨[], 0, [], 0, 0⟩
def CelQ (c : Cl) (E : Int) (w : World) (e : Ending) (w' : World) : Prop :=
 ∃ ao a2 bo b2, e = .returned (.tuple #[.agg #[.slice ao c.key.length a2, .int .i64 c.kd, .slice bo c.val.length b2, .int .i64 c.pg, .int .i64 c.ct], .int .i64 E]) ∧ Hid (OwnB w' w.heap.size (.slice ao c.key.length a2) c.key ∧ OwnB w' w.heap.size (.slice bo c.val.length b2) c.val ∧ ∀ z, (Value.slice ao c.key.length a2).ownBlock = some z → ¬ (Value.slice bo c.val.length b2).ownBlock = some z) ∧ Hid (Below w.heap.size w w')
theorem cellQ_any (w : World) (a : Nat) (k : Int) (n : Nat) (po : Option Addr) (pn pc : Nat) (bo : Option Addr) (bn bc : Nat) (so : Option Addr) (sn sc : Nat) (ws : Int) (P body : List Int) (st : List Nat) (cs : List Cl) (h : PgQ w a k n po pn pc bo bn bc so sn sc ws P body st) (hl : LayQ k P cs body st) (x : Int) :
  Calls Tryz.prog 229 #[.pointer (some ⟨a, 0, none⟩), .int .i64 x] w (CelQ (cellQ cs x) (if 0 ≤ x ∧ x < (cs.length : Int) then 0 else 64) w) := by
 have G : cs.length = sn := by rw [← hl.len, h.starts.hlen]
 obtain ⟨s, hs⟩ : ∃ s, w.heap.size = s := ⟨_, rfl⟩
 obtain ⟨y, hy⟩ : ∃ y, w.alloc (.cells #[.slice none 0 0, .int .i64 0, .slice none 0 0, .int .i64 0, .int .i64 0] 50) = y := ⟨_, rfl⟩
 have D : Below w.heap.size w y := by rw [← hy]; exact zab Br Lr _
 have C : Hid (C5 y s (.slice none 0 0) (.int .i64 0) (.slice none 0 0) (.int .i64 0) (.int .i64 0)) := by rw [← hy, ← hs]; exact zaa (C5.box _ _ _ _ _ _)
 have H := zaa D
 have B := h.on D
 have E : s + 1 ≤ y.heap.size := by rw [← hy, ← hs]; simp
 unfold cellQ
 rw [G]
 by_cases hx : 0 ≤ x ∧ x < (sn : Int)
 ·rw [if_pos hx, if_pos hx]
  obtain ⟨i, rfl⟩ : ∃ i : Nat, x = (i : Int) := ⟨x.toNat, zq⟩
  rw [Int.toNat_natCast]
  obtain ⟨c, F⟩ : ∃ c, cs[i]? = some c := ⟨_, zI zq⟩
  rw [F, Option.getD_some]
  have HH := zaa (hasQ y a k n po pn pc bo bn bc so sn sc ws P body st B i zq)
  have L := zaa (pentry_any y a k n po pn pc bo bn bc so sn sc ws P body st cs B hl i c F y.heap.size B.pre.lo B.body.lo)
  have M := zaa (hl.fit c (List.mem_of_getElem? F))
  obtain ⟨key, kd, val, pg, ct⟩ := c
  have U := zaa E
  have V := zaa hs
  have A3 : (i : Int) < (sn : Int) := hx.2
  clear h hl B F D E hx G
  go_enter Tryz.func229, Tryz.ntmps229
  go_wp2_with (first
   | (go_at_call 237; refine zad HH.out ?_)
   | (go_at_call 89; refine L.out.mono ?_; rintro e u1 ⟨ho, hn, hc, ko, kn, kc, vo, vn, vc, hd, kk, rfl, HQ, I⟩; refine Hid.out ?_))
  apply zaa
  obtain ⟨KN, N⟩ : ∃ KN, hn + kn = KN := ⟨_, rfl⟩
  have HC : Hid (Calls Tryz.prog 90 #[.agg #[.slice ho hn hc, .slice ko kn kc, .int .i64 kd, .slice vo vn vc, .int .i64 pg, .int .i64 ct]] u1 fun e w' => CopQ key val KN kd vn pg ct u1 e w') := by
   obtain ⟨q1, q2, q3, q4, _⟩ := HQ.out
   have W := M.out.key
   have J := congrArg List.length q4
   simp only [zG] at J W
   have l1 := q1.hlen
   have l2 := q2.hlen
   have := ecopied_any ho hn hc ko kn kc kd vo vn vc pg ct hd kk val KN u1 q1 q2 q3 N zq
   rw [q4] at this
   exact zaa this
  have X : Hid (KN = key.length ∧ vn = val.length ∧ val.length ≤ 65536) := by
   obtain ⟨q1, q2, q3, q4, _⟩ := HQ.out
   have J := congrArg List.length q4
   have Y := M.out.val
   simp only [zG] at J Y
   have l1 := q1.hlen
   have l2 := q2.hlen
   have l3 := q3.hlen
   exact zaa ⟨zq, l3.symm, zq⟩
  clear HH L N
  go_wp2_with (go_at_call 90; refine HC.out.mono ?_; rintro e u2 ⟨a1, c1, g2, rfl, HG, O⟩; refine Hid.out ?_)
  apply zaa
  have A : C5 u2 s (.slice none 0 0) (.int .i64 0) (.slice none 0 0) (.int .i64 0) (.int .i64 0) := zag (zag C.out I.out) O.out
  have K := zaa A
  obtain ⟨b0, b1, b2', b3, b4⟩ := A.cells
  obtain ⟨h0, h1, h2, h3, h4⟩ := A.free
  clear A HC
  go_wp2
  refine bodyPost_ret (zaz rfl _ _ s 50 #[.slice a1 KN c1, .int .i64 kd, .slice (some ⟨g2, 0, none⟩) vn vn, .int .i64 pg, .int .i64 ct] (0, 0) _ (.int .i64 0) zr zr (K.out.put _ _ _ _ _) Tryz.underlying50 rfl zal) rfl ?_
  have hf := zaq u2 s (.slice a1 KN c1) (.int .i64 kd) (.slice (some ⟨g2, 0, none⟩) vn vn) (.int .i64 pg) (.int .i64 ct)
  have E := U.out
  have A4 := V.out
  obtain ⟨Z, A0, A1⟩ := X.out
  have A5 := I.out.size
  obtain ⟨Q, R, A6, A2⟩ := HG.out
  have T := zae (zae H.out Lr I.out) Lr O.out
  subst Z
  subst A0
  refine ⟨a1, c1, some ⟨g2, 0, none⟩, val.length, rfl, zaa ⟨?_, ?_, ?_⟩, zaa (T.trans (hf.below T.size (by intro i hi e; omega)))⟩
  ·exact (Q.low zq).cf hf (Q.apart5 K.out)
  ·exact zcn (l := val) (R.cf hf (R.apart5 K.out)) zq (zN A1 (by unfold maxLen; decide))
  ·intro z h1 h2
   have e2 : g2 = z := by simpa [Value.ownBlock] using h2
   rw [← e2] at h1
   exact A2 h1
 ·rw [if_neg hx, if_neg hx]
  have HH := zaa (hasQ_no y a k n po pn pc bo bn bc so sn sc ws P body st B x hx)
  obtain ⟨b0, b1, b2', b3, b4⟩ := C.out.cells
  obtain ⟨h0, h1, h2, h3, h4⟩ := C.out.free
  have hf := zaq y s (.slice none 0 0) (.int .i64 0) (.slice none 0 0) (.int .i64 0) (.int .i64 0)
  have HF := zaa hf
  have HS := zaa hs
  clear h hl B D E hf hx G
  go_enter Tryz.func229, Tryz.ntmps229
  go_wp2_with (go_at_call 237; refine zad HH.out ?_)
  refine bodyPost_ret (zaz rfl _ _ s 50 #[.slice none 0 0, .int .i64 0, .slice none 0 0, .int .i64 0, .int .i64 0] (0, 0) _ (.int .i64 64) zr zr (C.out.put _ _ _ _ _) Tryz.underlying50 rfl zal) rfl ?_
  exact ⟨none, 0, none, 0, rfl, zaa ⟨OwnB.nil _ _, OwnB.nil _ _, fun z h1 => (by simp [Value.ownBlock] at h1)⟩, zaa (H.out.trans (HF.out.below H.out.size (by intro i hi e; have := HS.out; omega)))⟩
theorem kindW_any (w : World) (a : Nat) (k n : Int) (vp vb vs : Value) (ws : Int) (h : QR w a k n vp vb vs ws) :
  Calls Tryz.prog 232 #[.pointer (some ⟨a, 0, none⟩)] w fun e w' => e = .returned (.int .i64 k) ∧ w' = w := by
 obtain ⟨c0, c1, c2, c3, c4, c5⟩ := h.cells
 clear h
 go_enter Tryz.func232, Tryz.ntmps232
 go_wp2_with fail
 go_ret
 exact ⟨rfl, rfl⟩
def rUx (l : List Int) (p : Int) : Int × Int × Int := if p < 0 ∨ l.length < p then (0, 0, 1) else rU p (l.drop p.toNat) 0 0
theorem mul_up (c : Int) (k : Nat) (n m : Int) (h : n + c * 128 ^ k = m) (h1 : 0 ≤ n + c * 128 ^ k) (h2 : n + c * 128 ^ k < 18446744073709551616) (hc : 0 ≤ c) (h0 : 0 ≤ n) : IntKind.u64.wrap (n + IntKind.u64.wrap (c * 128 ^ k)) = m := by
 have A : 0 ≤ c * 128 ^ k := Int.mul_nonneg hc (Int.le_of_lt (Int.pow_pos zq))
 rw [IntKind.wrap_u64, IntKind.wrap_u64, ← h]
 generalize c * 128 ^ k = y at *
 have := h0
 omega
theorem pow_wrap (k : Nat) (h : k < 9) : IntKind.u64.wrap (128 ^ k * 128) = 128 ^ (k + 1) := by
 have h2 : k = 0 ∨ k = 1 ∨ k = 2 ∨ k = 3 ∨ k = 4 ∨ k = 5 ∨ k = 6 ∨ k = 7 ∨ k = 8 := zq
 rcases h2 with rfl | rfl | rfl | rfl | rfl | rfl | rfl | rfl | rfl <;> rw [IntKind.wrap_u64] <;> decide
theorem zdp (ao : Option Addr) (n cap : Nat) (l : List Int) (p' : Int) (w : World) (hs : Sl w ao n cap l) :
  Calls Tryz.prog 100 #[.slice ao n cap, .int .i64 p'] w fun e w' => e = .returned (.tuple #[.int .u64 (rUx l p').1, .int .i64 (rUx l p').2.1, .int .i64 (rUx l p').2.2]) ∧ w' = w := by
 obtain ⟨I, W, V, O, X, Q⟩ := hs
 unfold rUx
 by_cases h : p' < 0 ∨ l.length < p'
 ·rw [if_pos h]
  rw [I] at h
  rcases h with h | h
  ·go_enter Tryz.func100, Tryz.ntmps100
   go_wp2
   go_ret3
   exact ⟨rfl, rfl⟩
  ·have h' : ¬ p' < 0 := zq
   go_enter Tryz.func100, Tryz.ntmps100
   go_wp2
   go_ret3
   exact ⟨rfl, rfl⟩
 ·rw [if_neg h]
  rw [I] at h
  obtain ⟨p, rfl⟩ := Int.eq_ofNat_of_zero_le (show 0 ≤ p' by omega)
  have Y : p ≤ n := zq
  clear h
  rw [Int.toNat_natCast]
  generalize hF : rU p (l.drop p) 0 0 = F
  have HF := zaa hF
  clear hF
  go_enter Tryz.func100, Tryz.ntmps100
  go_wp2_with fail
  go_loop [7, 8, 9] (fun v u i => ∃ (k : Nat) (m : Int), k ≤ n - p ∧ k ≤ 9 ∧ i = .int .i64 k ∧ u = .int .u64 (128 ^ k) ∧ v = .int .u64 m ∧ 0 ≤ m ∧ m < 128 ^ k ∧ Hid (rU p (l.drop (p + k)) k m = F)) (fun _ _ i => (n - p) - (intOf i).toNat)
  case atStart => exact ⟨0, 0, zq, zq, rfl, rfl, rfl, zq, zv, HF⟩
  case round =>
   obtain ⟨k, m, hk, Z, rfl, rfl, rfl, D, hm, HR⟩ := hrel
   clear HF
   by_cases A0 : k < n - p
   ·rcases Q with h | ⟨b, off, rfl, hb, hc⟩
    ·omega
    have A1 := hc (p + k) zq
    have A2 := O.getD (p + k)
    have e := HR.out
    rw [zbu l (p + k) zq, rU] at e
    clear hc HR
    generalize l.getD (p + k) 0 = c at *
    by_cases h9 : k = 9 ∧ 1 < c
    ·rw [if_pos h9] at e
     have HE := zaa e
     obtain ⟨rfl, J⟩ := h9
     clear e hm
     go_wp2
     go_ret3
     exact ⟨by rw [← HE.out]; rfl, rfl⟩
    ·rw [if_neg h9] at e
     by_cases K : 128 ≤ c
     ·rw [if_pos K] at e
      have h9' : k < 9 := zq
      have B := (or_up m (c - 128) k D hm zq zq (.inl h9')).2
      have L : ((k : Int) == 9) = false := by simp; omega
      have C : 0 ≤ m + (c - 128) * 128 ^ k := by
       have : 0 ≤ (c - 128) * 128 ^ k := Int.mul_nonneg zq (Int.le_of_lt (Int.pow_pos zq))
       omega
      have R : c % 128 = c - 128 := zq
      have HE := zaa e
      have M := zaa B
      clear e B h9 hm
      generalize hP : (128 : Int) ^ k = P at *
      have N := zaa hP
      clear hP
      go_wp2
      go_round
      case rel =>
       refine ⟨k + 1, m + (c - 128) * P, zq, zq, by go_num, ?_, ?_, C, M.out.1, HE⟩
       ·rw [← N.out, pow_wrap k h9']
       ·have T : (128 : Int) ^ (k + 1) ≤ 18446744073709551616 := by
         have h2 : k = 0 ∨ k = 1 ∨ k = 2 ∨ k = 3 ∨ k = 4 ∨ k = 5 ∨ k = 6 ∨ k = 7 ∨ k = 8 := zq
         rcases h2 with rfl | rfl | rfl | rfl | rfl | rfl | rfl | rfl | rfl <;> decide
        have A : m + (c - 128) * P < 18446744073709551616 := Int.lt_of_lt_of_le M.out.1 T
        rw [← N.out] at C A ⊢
        rw [mul_up (c - 128) k m _ rfl C A zq D]
      case measure => simp [intOf]; omega
     ·rw [if_neg K] at e
      have R : c % 128 = c := zq
      have B := (or_up m c k D hm zq zq zq).2
      have A : m + c * 128 ^ k < 18446744073709551616 := by
       rcases B.2 with h | h
       ·have h2 : k = 0 ∨ k = 1 ∨ k = 2 ∨ k = 3 ∨ k = 4 ∨ k = 5 ∨ k = 6 ∨ k = 7 ∨ k = 8 := zq
        have h3 := B.1
        rcases h2 with rfl | rfl | rfl | rfl | rfl | rfl | rfl | rfl | rfl <;> simp at h3 ⊢ <;> omega
       ·exact h
      have C : 0 ≤ m + c * 128 ^ k := by
       have : 0 ≤ c * 128 ^ k := Int.mul_nonneg zq (Int.le_of_lt (Int.pow_pos zq))
       omega
      have HM := zaa (mul_up c k m _ rfl C A zq D)
      clear B A C hm
      by_cases hz : c = 0 ∧ 0 < k
      ·rw [if_pos hz] at e
       have HE := zaa e
       have G : (c == 0) = true := by simp [hz.1]
       have U := hz.2
       clear e hz HM
       generalize (128 : Int) ^ k = P at *
       by_cases H : k = 9
       ·have J : c ≤ 1 := zq
        subst H
        clear h9
        go_wp2
        go_ret3
        exact ⟨by rw [← HE.out]; rfl, rfl⟩
       ·have L : ((k : Int) == 9) = false := by simp; omega
        clear h9
        go_wp2
        go_ret3
        exact ⟨by rw [← HE.out]; rfl, rfl⟩
      ·rw [if_neg hz] at e
       have HE := zaa e
       clear e
       by_cases H : k = 9
       ·have J : c ≤ 1 := zq
        have G : (c == 0) = false := by simp; omega
        clear h9 hz
        generalize hP : (128 : Int) ^ k = P at *
        clear hP
        subst H
        go_wp2
        go_ret3
        exact ⟨by rw [← HE.out, ← HM.out]; rfl, rfl⟩
       ·have L : ((k : Int) == 9) = false := by simp; omega
        clear h9
        by_cases E : c = 0
        ·have G : (c == 0) = true := by simp [E]
         have U : ¬ (0 < (k : Int)) := zq
         clear hz E
         generalize hP : (128 : Int) ^ k = P at *
         clear hP
         go_wp2
         go_ret3
         exact ⟨by rw [← HE.out, ← HM.out]; rfl, rfl⟩
        ·have G : (c == 0) = false := by simp [E]
         clear hz E
         generalize hP : (128 : Int) ^ k = P at *
         clear hP
         go_wp2
         go_ret3
         exact ⟨by rw [← HE.out, ← HM.out]; rfl, rfl⟩
   ·have e := HR.out
    rw [List.drop_eq_nil_of_le zq, rU] at e
    have HE := zaa e
    clear e HR hm
    generalize (128 : Int) ^ k = P at *
    go_wp2
    go_ret3
    exact ⟨by rw [← HE.out]; rfl, rfl⟩
end Go.Proofs.YtbkhjeacmmbabaaGreatDoor
