import Derived.Test.YtbkhjeacmmbabaaGreatDoorJ08
import Derived.Deep.MidRow
import Derived.Deep.Upon
import Derived.Laws.IdiomCopy
namespace Go.Proofs.YtbkhjeacmmbabaaGreatDoor
set_option maxRecDepth 100000
set_option maxHeartbeats 1000000
open Go.RowKit
structure Rq (w u : World) (a : Nat) (k0 : Int) (n b off cap : Nat) (l : List Int) : Prop where
 row : PR u a k0 n (.slice none 0 0) (.slice none 0 0)
 sl : Sl u (some ⟨b, off, none⟩) n cap l
 be : Below w.heap.size w u
theorem Rq.on {w u v : World} {a : Nat} {k0 : Int} {n b off cap : Nat} {l : List Int} (h : Rq w u a k0 n b off cap l) (hb : Below u.heap.size u v) : Rq w v a k0 n b off cap l := ⟨zag h.row hb, h.sl.on Lr hb, zae h.be Lr hb⟩
theorem equal6 (ao bo : Option Addr) (n m c d : Nat) (la lb : List Int) (w : World) (ha : Sl w ao n c la) (hb : Sl w bo m d lb) :
  Calls Tryz.prog 80 #[.slice ao n c, .slice bo m d] w fun e w' => e = .returned (.bool (decide (la = lb))) ∧ w' = w := by
 have h1 := zar ha
 have h2 := zar hb
 have h3 := str_beq ha.wf hb.wf
 clear ha hb
 go_enter Tryz.func80, Tryz.ntmps80
 go_wp2
 go_ret
 exact ⟨rfl, rfl⟩
def NewTo (k n : Int) (w : World) (e : Ending) (w' : World) : Prop :=
 ∃ po c, e = .returned (.tuple #[.pointer po, .int .i64 c]) ∧ Hid (Below w.heap.size w w') ∧ Hid ((po = none ∧ c = 1 ∧ ¬ (isKd k ∧ pw n)) ∨ (po = some ⟨w.heap.size, 0, none⟩ ∧ c = 0 ∧ isKd k ∧ pw n ∧ w'.heap[w.heap.size]? = some (.cells #[.int .i64 k, .int .i64 n, .slice none 0 0, .slice none 0 0] 118 (0, 0))))
theorem new_any (k n : Int) (w : World) : Calls Tryz.prog 39 #[.int .i64 k, .int .i64 n] w fun e w' => NewTo k n w e w' := by
 cases h1 : decide (isKd k) with
 | false =>
  have hk : ¬ isKd k := by simpa using h1
  go_enter Tryz.func39, Tryz.ntmps39
  go_wp2_with (go_at_call 78; refine zad (zcc _ _) ?_; rw [h1])
  go_ret2
  exact ⟨none, 1, rfl, Br, .inl ⟨rfl, rfl, fun h => hk h.1⟩⟩
 | true =>
  have hk : isKd k := by simpa using h1
  cases h2 : decide (pw n) with
  | false =>
   have hn : ¬ pw n := by simpa using h2
   have HN := zaa hn
   have HK := zaa hk
   clear hn hk
   go_enter Tryz.func39, Tryz.ntmps39
   go_wp2_with (first | (go_at_call 78; refine zad (zcc _ _) ?_; rw [h1]) | (go_at_call 31; refine zad (zbp _ _) ?_; rw [h2]))
   go_ret2
   exact ⟨none, 1, rfl, Br, .inl ⟨rfl, rfl, fun h => HN.out h.2⟩⟩
  | true =>
   have hn : pw n := by simpa using h2
   have HN := zaa hn
   have HK := zaa hk
   clear hn hk
   go_enter Tryz.func39, Tryz.ntmps39
   go_wp2_with (first | (go_at_call 78; refine zad (zcc _ _) ?_; rw [h1]) | (go_at_call 31; refine zad (zbp _ _) ?_; rw [h2]))
   go_ret2
   exact ⟨_, 0, rfl, Br.alloc Lr _, .inr ⟨rfl, rfl, HK.out, HN.out, heap_alloc_last w _⟩⟩
theorem bdy_drop (cs : List Cl) (i : Nat) : (bdy cs).drop (bdy (cs.take i)).length = bdy (cs.drop i) := by
 conv => lhs; rw [← List.take_append_drop i cs]
 rw [zbe, List.take_append_drop, List.drop_left]
theorem zce (cs : List Cl) (i : Nat) : (bdy (cs.take i)).length ≤ (bdy cs).length := by
 conv => rhs; rw [← List.take_append_drop i cs]
 rw [zbe, zG]
 omega
theorem view_any (w : World) (a : Nat) (k : Int) (n : Nat) (bo : Option Addr) (bn bc : Nat) (so : Option Addr) (sn sc : Nat) (cs : List Cl) (h : PgAt w a k n bo bn bc so sn sc cs) (K : ∀ c ∈ cs, c.fit) (i : Nat) (hi : i < cs.length) (c : Cl) (F : cs[i]? = some c) (hsz : bn ≤ 65536) :
  Calls Tryz.prog 77 #[.pointer (some ⟨a, 0, none⟩), .int .i64 (i : Int)] w fun e w' => ∃ ko kn kc vo vn vc, e = .returned (.agg #[.slice ko kn kc, .int .i64 c.kd, .slice vo vn vc, .int .i64 c.pg, .int .i64 c.ct]) ∧ Hid (Sl w' ko kn kc c.key) ∧ Hid (Sl w' vo vn vc c.val) ∧ Hid (Below w.heap.size w w') := by
 obtain ⟨N, O⟩ := h.sn_eq
 obtain ⟨c0, c1, c2, c3⟩ := h.cells
 have G : cs.drop i = c :: cs.drop (i + 1) := by
  rw [List.drop_eq_getElem_cons hi]
  congr 1
  rw [zI hi] at F
  exact Option.some.inj F
 have P := K c (List.mem_of_getElem? F)
 have H : zaj ((bdy cs).drop (bdy (cs.take i)).length) = some (c, bdy (cs.drop (i + 1))) := by
  rw [bdy_drop, G, zbo, pCell_mid c _ P]
 have B0 : 0 < bn := by
  have h1 := congrArg List.length (bdy_drop cs i)
  rw [G, zbo, zK, zG] at h1
  have h2 := cB_length c
  have h3 : 2 < ctk c := by unfold ctk; split <;> omega
  omega
 obtain ⟨gb, off, rfl⟩ : ∃ gb off, bo = some ⟨gb, off, none⟩ := by
  rcases h.body.hat with h0 | ⟨b, off, e, _⟩
  ·omega
  ·exact ⟨b, off, e⟩
 obtain ⟨gs, offs, rfl, Q, R⟩ : ∃ b off, so = some ⟨b, off, none⟩ ∧ b < w.heap.size ∧ ∀ j, j < sn → w.cell? ⟨b, off + j, none⟩ = some (.int .i64 (((sts 0 cs).getD j 0 : Nat) : Int)) := by
  rcases h.starts.hat with h0 | h0
  ·omega
  ·exact h0
 have cj := R i zq
 rw [zcb 0 i cs hi, Nat.zero_add] at cj
 have A4 := zce cs i
 obtain ⟨st, L⟩ : ∃ st, (bdy (cs.take i)).length = st := ⟨_, rfl⟩
 rw [L] at cj H A4
 have A5 := zaa H
 have A6 := zaa h.body
 have B1 := zaa h
 have i0 : (i : Int) < (sn : Int) := zq
 have i1 : i < sn := zq
 have A3 : st ≤ bn := zq
 have B2 := zaa h.body.wf
 have B : ∀ o, Below w.heap.size w (w.alloc o) := fun o => zab Br Lr _
 have C : ∀ o o', Below w.heap.size w ((w.alloc o).alloc o') := fun o o' => zab (B o) Lr _
 have M := zaa C
 have d2 := fun o => (h.on (B o)).cells.2.2.1
 have d3 := fun o => (h.on (B o)).cells.2.2.2
 have e2 := fun o o' => (h.on (C o o')).cells.2.2.1
 have e3 := fun o o' => (h.on (C o o')).cells.2.2.2
 have dj := fun o => ((B o).cell (p := ⟨gs, offs + i, none⟩) Q).trans cj
 have ej := fun o o' => ((C o o').cell (p := ⟨gs, offs + i, none⟩) Q).trans cj
 have B3 := zaa N
 have B4 := zaa O
 clear h H R G L P K B C N O F hi
 go_enter Tryz.func77, Tryz.ntmps77
 go_wp2_with fail
 go_region
 obtain ⟨g4, E⟩ : ∃ g4, w.heap.size = g4 := ⟨_, rfl⟩
 obtain ⟨x, hx⟩ : ∃ x, ((w.alloc (.cells #[.slice none 0 0, .int .i64 0, .slice none 0 0, .int .i64 0, .int .i64 0] 50)).alloc (.cells #[.slice (some ⟨gb, off, none⟩) bn bc, .int .i64 (st : Int), .bool false] 151)).drew = x := ⟨_, rfl⟩
 have B : Below w.heap.size w x := by rw [← hx]; exact (M.out _ _).drew
 have T : Hid (Rd x (g4 + 1) (some ⟨gb, off, none⟩) bn bc st false) := by
  rw [← hx, ← E]
  have hz : (w.alloc (.cells #[.slice none 0 0, .int .i64 0, .slice none 0 0, .int .i64 0, .int .i64 0] 50)).heap.size = w.heap.size + 1 := by simp
  have := heap_alloc_last (w.alloc (.cells #[.slice none 0 0, .int .i64 0, .slice none 0 0, .int .i64 0, .int .i64 0] 50)) (.cells #[.slice (some ⟨gb, off, none⟩) bn bc, .int .i64 (st : Int), .bool false] 151)
  rw [hz] at this
  exact zaa this
 have U : Hid (C5 x g4 (.slice none 0 0) (.int .i64 0) (.slice none 0 0) (.int .i64 0) (.int .i64 0)) := by
  rw [← hx, ← E]
  exact zaa ((Below.heap_alloc _ _ _ zv).trans (heap_alloc_last w _))
 have V : Hid (Sl x (some ⟨gb, off, none⟩) bn bc (bdy cs)) := zaa (A6.out.on Lr B)
 have I := zaa B
 rw [hx, E]
 have W := zaa (cell_any (bdy cs) x (g4 + 1) gb off bn bc st false T.out V.out A3)
 have X := zaa E
 clear hx B c0 c1 c2 c3 cj d2 d3 e2 e3 dj ej E
 go_wp2_with (go_at_call 120; refine W.out.mono ?_; rintro e w2 ⟨ko, kn, kc, kd, vo, vn, vc, pg, ct, q, en, key, val, rfl, A7, J, HQ⟩; refine Hid.out ?_)
 apply zaa
 obtain ⟨Y, Z, _, _, A⟩ := HQ.out
 rw [A5.out] at A
 rcases A with ⟨A, _⟩ | ⟨A, _⟩
 ·injection A with A
  injection A with A8 A9
  subst A8
  have A0 := zaa Y
  have A1 := zaa Z
  have D : Hid (C5 w2 g4 (.slice none 0 0) (.int .i64 0) (.slice none 0 0) (.int .i64 0) (.int .i64 0)) := zaa (U.out.cf J.out zq)
  obtain ⟨b0, b1, b2, b3, b4⟩ := D.out.cells
  obtain ⟨f0, f1, f2, f3, f4⟩ := D.out.free
  have A2 : Hid (Below w.heap.size w w2) := zaa (I.out.trans (J.out.below I.out.size (by have := X.out; intro i hi e; omega)))
  clear HQ Y Z A9 W J A7 T V U I M
  go_wp2
  refine bodyPost_ret (results_cell_row rfl _ _ g4 50 #[.slice ko kn kc, .int .i64 kd, .slice vo vn vc, .int .i64 pg, .int .i64 ct] (0, 0) _ zr (D.out.put _ _ _ _ _) Tryz.underlying50 rfl zal) rfl ?_
  have hf := zaq w2 g4 (.slice ko kn kc) (.int .i64 kd) (.slice vo vn vc) (.int .i64 pg) (.int .i64 ct)
  exact ⟨ko, kn, kc, vo, vn, vc, rfl, zaa (A0.out.cf hf (A0.out.apart5 D.out)), zaa (A1.out.cf hf (A1.out.apart5 D.out)), zaa (A2.out.trans (hf.below A2.out.size (by have := X.out; intro i hi e; omega)))⟩
 ·cases A
def CopTo (key val : List Int) (kn : Nat) (kd : Int) (vn : Nat) (pg ct : Int) (w : World) (e : Ending) (w' : World) : Prop :=
 ∃ g1 g2, e = .returned (.agg #[.slice (some ⟨g1, 0, none⟩) kn kn, .int .i64 kd, .slice (some ⟨g2, 0, none⟩) vn vn, .int .i64 pg, .int .i64 ct]) ∧ Hid (Bk w' g1 key ∧ Bk w' g2 val ∧ w.heap.size ≤ g1 ∧ w.heap.size ≤ g2 ∧ g1 ≠ g2) ∧ Hid (Below w.heap.size w w')
theorem Bk.apart5 {w : World} {g h : Nat} {l : List Int} {x0 x1 x2 x3 x4 : Value} (hb : Bk w g l) (hc : C5 w h x0 x1 x2 x3 x4) : ¬ g = h := by
 rintro rfl
 unfold Bk at hb
 unfold C5 at hc
 rw [hb] at hc
 simp at hc
theorem copied_any (ka : Option Addr) (kn kc : Nat) (kd : Int) (va : Option Addr) (vn vc : Nat) (pg ct : Int) (key val : List Int) (w : World) (hk : Sl w ka kn kc key) (hv : Sl w va vn vc val) :
  Calls Tryz.prog 76 #[.agg #[.slice ka kn kc, .int .i64 kd, .slice va vn vc, .int .i64 pg, .int .i64 ct]] w fun e w' => CopTo key val kn kd vn pg ct w e w' := by
 obtain ⟨s, hs⟩ : ∃ s, w.heap.size = s := ⟨_, rfl⟩
 obtain ⟨x, hx⟩ : ∃ x, (w.alloc (.cells #[.slice ka kn kc, .int .i64 kd, .slice va vn vc, .int .i64 pg, .int .i64 ct] 50)).alloc (.cells #[.slice none 0 0, .int .i64 0, .slice none 0 0, .int .i64 0, .int .i64 0] 50) = x := ⟨_, rfl⟩
 have G : Below w.heap.size w x := by rw [← hx]; exact zab (zab Br Lr _) Lr _
 have B : Hid (C5 x s (.slice ka kn kc) (.int .i64 kd) (.slice va vn vc) (.int .i64 pg) (.int .i64 ct)) := by
  rw [← hx, ← hs]
  exact zaa ((Below.heap_alloc _ _ _ zv).trans (heap_alloc_last w _))
 have P : Hid (C5 x (s + 1) (.slice none 0 0) (.int .i64 0) (.slice none 0 0) (.int .i64 0) (.int .i64 0)) := by
  rw [← hx, ← hs]
  have hz : (w.alloc (.cells #[.slice ka kn kc, .int .i64 kd, .slice va vn vc, .int .i64 pg, .int .i64 ct] 50)).heap.size = w.heap.size + 1 := by simp
  have := heap_alloc_last (w.alloc (.cells #[.slice ka kn kc, .int .i64 kd, .slice va vn vc, .int .i64 pg, .int .i64 ct] 50)) (.cells #[.slice none 0 0, .int .i64 0, .slice none 0 0, .int .i64 0, .int .i64 0] 50)
  rw [hz] at this
  exact zaa this
 have HK := zaa (hk.on Lr G)
 have HV := zaa (hv.on Lr G)
 have K := zaa G
 have O : x.heap.size = s + 2 := by rw [← hx, ← hs]; simp
 have Q := zaa O
 have C1 : Hid (∀ u, Below x.heap.size x u → Calls Tryz.prog 119 #[.slice ka kn kc] u fun e u' => ∃ g, e = .returned (.slice (some ⟨g, 0, none⟩) kn kn) ∧ Hid (Bk u' g key ∧ x.heap.size ≤ g) ∧ Hid (Below x.heap.size x u') ∧ (u'.cell? ⟨s, 0, none⟩ = some (.slice ka kn kc) ∧ u'.cell? ⟨s, 1, none⟩ = some (.int .i64 kd) ∧ u'.cell? ⟨s, 2, none⟩ = some (.slice va vn vc) ∧ u'.cell? ⟨s, 3, none⟩ = some (.int .i64 pg) ∧ u'.cell? ⟨s, 4, none⟩ = some (.int .i64 ct))) := by
  refine zaa fun u hu => (zdr ka kn kc key u (HK.out.on Lr hu)).mono ?_
  rintro e u' ⟨rfl, hb, H⟩
  have C := zae hu Lr H.out
  exact ⟨u.heap.size, rfl, zaa ⟨hb.out, hu.size⟩, zaa C, (show C5 u' s (.slice ka kn kc) (.int .i64 kd) (.slice va vn vc) (.int .i64 pg) (.int .i64 ct) from zag B.out C).cells⟩
 have C2 : Hid (∀ u g1, Hid (Bk u g1 key ∧ x.heap.size ≤ g1) → Hid (Below x.heap.size x u) → Calls Tryz.prog 119 #[.slice va vn vc] u fun e u' => ∃ g, e = .returned (.slice (some ⟨g, 0, none⟩) vn vn) ∧ Hid (Bk u' g val ∧ Bk u' g1 key ∧ x.heap.size ≤ g ∧ x.heap.size ≤ g1 ∧ g1 ≠ g) ∧ Hid (Below x.heap.size x u') ∧ (u'.cell? ⟨s, 0, none⟩ = some (.slice ka kn kc) ∧ u'.cell? ⟨s, 1, none⟩ = some (.int .i64 kd) ∧ u'.cell? ⟨s, 2, none⟩ = some (.slice va vn vc) ∧ u'.cell? ⟨s, 3, none⟩ = some (.int .i64 pg) ∧ u'.cell? ⟨s, 4, none⟩ = some (.int .i64 ct)) ∧ (u'.frozen? ⟨s, 0, none⟩ = false ∧ u'.frozen? ⟨s, 1, none⟩ = false ∧ u'.frozen? ⟨s, 2, none⟩ = false ∧ u'.frozen? ⟨s, 3, none⟩ = false ∧ u'.frozen? ⟨s, 4, none⟩ = false)) := by
  refine zaa fun u g1 hg hu => (zdr va vn vc val u (HV.out.on Lr hu.out)).mono ?_
  rintro e u' ⟨rfl, hb, H⟩
  have C := zae hu.out Lr H.out
  have h5 : C5 u' s (.slice ka kn kc) (.int .i64 kd) (.slice va vn vc) (.int .i64 pg) (.int .i64 ct) := zag B.out C
  exact ⟨u.heap.size, rfl, zaa ⟨hb.out, hg.out.1.on H.out, hu.out.size, hg.out.2, Nat.ne_of_lt (zaf hg.out.1)⟩, zaa C, h5.cells, h5.free⟩
 obtain ⟨c0, c1, c2, c3, c4⟩ := B.out.cells
 clear hk hv G O
 go_enter Tryz.func76, Tryz.ntmps76
 go_wp2_with fail
 go_region_law (first
  | (go_simp; go_at_call 119; refine (C2.out _ g1 R T).mono ?_; rintro e u2 ⟨g2, rfl, D, I, ⟨z0, z1, z2, z3, z4⟩, f0, f1, f2, f3, f4⟩)
  | (go_simp; go_at_call 119; refine (C1.out _ zW1).mono ?_; rintro e u1 ⟨g1, rfl, R, T, y0, y1, y2, y3, y4⟩))
 all_goals
  obtain ⟨y, hy⟩ : ∃ y, (u2.setCell ⟨s, 0, none⟩ (.slice (some ⟨g1, 0, none⟩) kn kn)).setCell ⟨s, 2, none⟩ (.slice (some ⟨g2, 0, none⟩) vn vn) = y := ⟨_, rfl⟩
  have A : C5 u2 s (.slice ka kn kc) (.int .i64 kd) (.slice va vn vc) (.int .i64 pg) (.int .i64 ct) := zag B.out I.out
  have J : C5 u2 (s + 1) (.slice none 0 0) (.int .i64 0) (.slice none 0 0) (.int .i64 0) (.int .i64 0) := zag P.out I.out
  have E : Cf (· = s) u2 y := by rw [← hy]; exact (Cf.set _ _ _ _).go (Cf.set _ _ _ _)
  have U : Hid (C5 y s (.slice (some ⟨g1, 0, none⟩) kn kn) (.int .i64 kd) (.slice (some ⟨g2, 0, none⟩) vn vn) (.int .i64 pg) (.int .i64 ct)) := by
   rw [← hy]
   exact zaa ((A.set _).1.set _).2.2.1
  have F : Hid (C5 y (s + 1) (.slice none 0 0) (.int .i64 0) (.slice none 0 0) (.int .i64 0) (.int .i64 0)) := zaa (J.cf E zq)
  have L : Hid (Bk y g1 key) := zaa (D.out.2.1.cf E (D.out.2.1.apart5 A))
  have M : Hid (Bk y g2 val) := zaa (D.out.1.cf E (D.out.1.apart5 A))
  have N : Hid (Below w.heap.size w y) := zaa ((K.out.trans (I.out.mono (K.out.size))).trans (E.below (zN K.out.size I.out.size) (by intro i hi e; omega)))
  rw [hy]
  clear hy E A J y0 y1 y2 y3 y4 z0 z1 z2 z3 z4 f0 f1 f2 f3 f4 c0 c1 c2 c3 c4
  obtain ⟨c0, c1, c2, c3, c4⟩ := U.out.cells
  obtain ⟨b0, b1, b2, b3, b4⟩ := F.out.cells
  obtain ⟨f0, f1, f2, f3, f4⟩ := F.out.free
  go_wp2
  refine bodyPost_ret (results_cell_row rfl _ _ (s + 1) 50 #[.slice (some ⟨g1, 0, none⟩) kn kn, .int .i64 kd, .slice (some ⟨g2, 0, none⟩) vn vn, .int .i64 pg, .int .i64 ct] (0, 0) _ zr (F.out.put _ _ _ _ _) Tryz.underlying50 rfl zal) rfl ?_
  have hf := zaq y (s + 1) (.slice (some ⟨g1, 0, none⟩) kn kn) (.int .i64 kd) (.slice (some ⟨g2, 0, none⟩) vn vn) (.int .i64 pg) (.int .i64 ct)
  obtain ⟨_, _, q3, q4, q5⟩ := D.out
  have := Q.out
  exact ⟨g1, g2, rfl, zaa ⟨L.out.cf hf (L.out.apart5 F.out), M.out.cf hf (M.out.apart5 F.out), zq, zq, q5⟩, zaa (N.out.trans (hf.below N.out.size (by intro i hi e; omega)))⟩
def CAt (w : World) (b off : Nat) (c : Cl) : Prop :=
 ∃ ka kc va vc, w.cell? ⟨b, off, none⟩ = some (.slice ka c.key.length kc) ∧ w.cell? ⟨b, off + 1, none⟩ = some (.int .i64 c.kd) ∧ w.cell? ⟨b, off + 2, none⟩ = some (.slice va c.val.length vc) ∧ w.cell? ⟨b, off + 3, none⟩ = some (.int .i64 c.pg) ∧ w.cell? ⟨b, off + 4, none⟩ = some (.int .i64 c.ct) ∧ Sl w ka c.key.length kc c.key ∧ Sl w va c.val.length vc c.val
structure SlC (w : World) (ao : Option Addr) (n cap : Nat) (cs : List Cl) : Prop where
 hlen : cs.length = n
 hcap : n ≤ cap
 hroom : n ≤ 140737488355328
 hnil : ao = none → cap = 0
 hat : n = 0 ∨ ∃ b off, ao = some ⟨b, off, none⟩ ∧ b < w.heap.size ∧ ∀ i c, cs[i]? = some c → CAt w b (off + i * 5) c
theorem CAt.on {w w' : World} {b off : Nat} {c : Cl} (h : CAt w b off c) (hb : b < w.heap.size) (hB : Below w.heap.size w w') : CAt w' b off c := by
 obtain ⟨ka, kc, va, vc, h0, h1, h2, h3, h4, h5, h6⟩ := h
 exact ⟨ka, kc, va, vc, (hB.cell (p := ⟨b, off, none⟩) hb).trans h0, (hB.cell (p := ⟨b, off + 1, none⟩) hb).trans h1, (hB.cell (p := ⟨b, off + 2, none⟩) hb).trans h2, (hB.cell (p := ⟨b, off + 3, none⟩) hb).trans h3, (hB.cell (p := ⟨b, off + 4, none⟩) hb).trans h4, h5.on Lr hB, h6.on Lr hB⟩
theorem SlC.on {w w' : World} {ao : Option Addr} {n cap : Nat} {cs : List Cl} (h : SlC w ao n cap cs) (hB : Below w.heap.size w w') : SlC w' ao n cap cs := by
 refine ⟨h.hlen, h.hcap, h.hroom, h.hnil, ?_⟩
 rcases h.hat with h0 | ⟨b, off, e, hb, hc⟩
 ·exact .inl h0
 ·exact .inr ⟨b, off, e, zO hb hB.size, fun i c hi => (hc i c hi).on hb hB⟩
theorem SlC.wf {w : World} {ao : Option Addr} {n cap : Nat} {cs : List Cl} (h : SlC w ao n cap cs) : ∀ c ∈ cs, c.Wf := by
 intro c hc
 obtain ⟨i, hi, e⟩ := List.getElem_of_mem hc
 rcases h.hat with h0 | ⟨b, off, _, _, A⟩
 ·have := h.hlen; omega
 ·obtain ⟨_, _, _, _, _, _, _, _, _, h5, h6⟩ := A i c (by rw [zI hi, e])
  exact ⟨h5.wf, h6.wf⟩
def RowC (w : World) (b N : Nat) : Prop := ∃ cur : Array Value, w.heap[b]? = some (.cells cur 50 (0, 0)) ∧ cur.size = 5 * N
theorem RowC.cell {w : World} {b N : Nat} (h : RowC w b N) (j : Nat) (hj : j < 5 * N) : (w.cell? ⟨b, j, none⟩).isSome = true := by
 obtain ⟨cur, h1, h2⟩ := h
 simp [World.cell?, h1, h2, hj]
theorem RowC.free {w : World} {b N : Nat} (h : RowC w b N) (j : Nat) : w.frozen? ⟨b, j, none⟩ = false := by
 obtain ⟨cur, h1, h2⟩ := h
 simp [World.frozen?, h1]
theorem RowC.lt {w : World} {b N : Nat} (h : RowC w b N) : b < w.heap.size := by
 obtain ⟨cur, h1, _⟩ := h
 exact zaf h1
theorem RowC.on {w w' : World} {b N : Nat} (h : RowC w b N) (hb : Below w.heap.size w w') : RowC w' b N := by
 obtain ⟨cur, h1, h2⟩ := h
 exact ⟨cur, zag h1 hb, h2⟩
theorem RowC.set {w : World} {b N : Nat} (h : RowC w b N) (j : Nat) (v : Value) : RowC (w.setCell ⟨b, j, none⟩ v) b N := by
 obtain ⟨cur, h1, h2⟩ := h
 exact ⟨_, heap_setCell_same w b j cur _ v h1, by simp [h2]⟩
theorem RowC.sets {b N : Nat} : ∀ (vs : List Value) (j : Nat) (w : World), RowC w b N → RowC (w.setCells b j vs) b N
 | [], _, _, h => h
 | v :: r, j, _, h => RowC.sets r (j + 1) _ (h.set j v)
theorem RowC.there {w : World} {b N : Nat} (h : RowC w b N) {j : Nat} (hj : j + 5 ≤ 5 * N) : w.there b j 5 := fun i hi => ⟨h.cell (j + i) zq, h.free _⟩
theorem RowC.ne {w : World} {b N g : Nat} {l : List Int} (h : RowC w b N) (hk : Bk w g l) : ¬ g = b := by
 rintro rfl
 obtain ⟨cur, h1, _⟩ := h
 unfold Bk at hk
 rw [hk] at h1
 simp at h1
theorem oneCell5 (ka va : Option Addr) (kn kc vn vc : Nat) (kd pg ct : Int) : (#[.slice ka kn kc, .int .i64 kd, .slice va vn vc, .int .i64 pg, .int .i64 ct] : Array Value).all (·.oneCell') = true :=
 all_oneCell_toArray (cs := [.slice ka kn kc, .int .i64 kd, .slice va vn vc, .int .i64 pg, .int .i64 ct]) (by simp [Value.oneCell'])
theorem put_cell {ops : Array Oper} {rest : List Oper} {o : Oper} {a : Act} {w : World} {Q : Exit → Act → World → Prop} (A : o.guard = none) (p v : Operand)
  (ho : o.op = .store 50 p v) (b j N : Nat) (ka va : Option Addr) (kn kc vn vc : Nat) (kd pg ct : Int) (hr : RowC w b N) (hp : a.eval p = .pointer (some ⟨b, j, none⟩)) (hv : a.eval v = .agg #[.slice ka kn kc, .int .i64 kd, .slice va vn vc, .int .i64 pg, .int .i64 ct]) (hj : j + 5 ≤ 5 * N)
  (h : ∀ u, Hid (u = w.setCells b j [.slice ka kn kc, .int .i64 kd, .slice va vn vc, .int .i64 pg, .int .i64 ct]) → wpList Tryz.prog ops Q rest (a.put o.dst undef) u) : wpList Tryz.prog ops Q (o :: rest) a w :=
 wpList_store_mid A _ p v ho b j #[.slice ka kn kc, .int .i64 kd, .slice va vn vc, .int .i64 pg, .int .i64 ct] hp hv (hr.there hj) zal (oneCell5 ..) (h _ (zaa rfl))
theorem Bk.sets {w : World} {g b j : Nat} {l : List Int} {vs : List Value} (h : Bk w g l) (hg : ¬ g = b) : Bk (w.setCells b j vs) g l := (World.heap_setCells_other _ _ _ _ (zaf h) zq).trans h
theorem infoC : (Tryz.prog.info? 50).map (fun i => (i.zero, i.size, i.bytes)) = some (some (.agg #[.slice none 0 0, .int .i64 0, .slice none 0 0, .int .i64 0, .int .i64 0]), 5, 72) := by kernel_rfl
theorem len_any (w : World) (a : Nat) (k : Int) (n : Nat) (bo : Option Addr) (bn bc : Nat) (so : Option Addr) (sn sc : Nat) (cs : List Cl) (h : PgAt w a k n bo bn bc so sn sc cs) :
  Calls Tryz.prog 75 #[.pointer (some ⟨a, 0, none⟩)] w fun e w' => e = .returned (.int .i64 (sn : Int)) ∧ w' = w := by
 obtain ⟨c0, c1, c2, c3⟩ := h.cells
 clear h
 go_enter Tryz.func75, Tryz.ntmps75
 go_wp2
 go_ret
 exact ⟨rfl, rfl⟩
theorem ctk_int (c : Cl) : (if c.kd = 1 then 7 + (c.key.length : Int) + (c.val.length : Int) else 13 + (c.key.length : Int)) = (ctk c : Int) := by
 unfold ctk
 split <;> simp
theorem szN_take (cs : List Cl) (i : Nat) (c : Cl) (h : cs[i]? = some c) : szN (cs.take (i + 1)) = szN (cs.take i) + ctk c := by
 have hi := (zH.1 h).1
 have e := (zH.1 h).2
 unfold szN
 rw [List.take_add_one, h]
 simp
 omega
theorem SlC.item {w : World} {ao : Option Addr} {n cap : Nat} {cs : List Cl} (h : SlC w ao n cap cs) (i : Nat) (hi : i < n) : ∃ b off c ka kc va vc, ao = some ⟨b, off, none⟩ ∧ b < w.heap.size ∧ cs[i]? = some c ∧
  w.cell? ⟨b, off + i * 5, none⟩ = some (.slice ka c.key.length kc) ∧ w.cell? ⟨b, off + i * 5 + 1, none⟩ = some (.int .i64 c.kd) ∧ w.cell? ⟨b, off + i * 5 + 2, none⟩ = some (.slice va c.val.length vc) ∧ w.cell? ⟨b, off + i * 5 + 3, none⟩ = some (.int .i64 c.pg) ∧ w.cell? ⟨b, off + i * 5 + 4, none⟩ = some (.int .i64 c.ct) ∧ Sl w ka c.key.length kc c.key ∧ Sl w va c.val.length vc c.val := by
 have hl := h.hlen
 rcases h.hat with h0 | ⟨b, off, e, hb, hc⟩
 ·omega
 ·obtain ⟨c, A⟩ : ∃ c, cs[i]? = some c := ⟨_, zI zq⟩
  obtain ⟨ka, kc, va, vc, h0⟩ := hc i c A
  exact ⟨b, off, c, ka, kc, va, vc, e, hb, A, h0⟩
theorem OwnN.nil (w : World) (B : Nat) : OwnN w B (.slice none 0 0) [] := World.ownsRow_nil w B 3 1
theorem app_slN {ops : Array Oper} {rest : List Oper} {o : Oper} {a : Act} {Q : Exit → Act → World → Prop} (w : World) (E : o.guard = none) (s x : Operand)
  (ho : o.op = .call { callee := .builtin .append, args := #[s, x], argTypes := #[116, 116] }) (B : Nat) (l news : List Nat) (v : Value) (b off n c : Nat) (hs : a.eval s = v) (hx : a.eval x = .slice (some ⟨b, off, none⟩) n c)
  (D : OwnN w B v l) (C : news.length = n) (F : ∀ i, i < n → w.cell? ⟨b, off + i, none⟩ = some (.int .i64 ((news.getD i 0 : Nat) : Int))) (hb : l.length + n ≤ 1000000) (A : B ≤ w.heap.size)
  (h : ∀ v' w', OwnN w' B v' (l ++ news) → Gr w v w' v' → wpList Tryz.prog ops Q rest (a.put o.dst v') w') : wpList Tryz.prog ops Q (o :: rest) a w := by
 obtain ⟨i0, hi, G, H, I⟩ := info_parts infoI
 refine wpList_append_own_at w E s x 116 ho B 3 i0 (.int .i64 0) 1 8 Tryz.underlying116 hi G H I rfl zd v l.length (NI l) hs D ⟨b, off, none⟩ n c (NI news) hx (by simp [NI, C])
  (fun j u hu => by
   have hj : j < news.length := by have := (zH.1 hu).1; simpa [NI] using this
   have e : u = .int .i64 ((news.getD j 0 : Nat) : Int) := by
    simp [NI, zI hj] at hu
    simp [List.getD, zI hj, ← hu]
   rw [Addr.add_lit, e]
   exact F j zq) (NI_one news) zml zq A ?_
 intro v' w' h1 h2 _ h4
 refine h v' w' ?_ ⟨h2, h4.imp id fun e => ⟨_, e, Lr⟩⟩
 unfold OwnN
 rw [show NI (l ++ news) = NI l ++ NI news from by simp [NI], zG, C]
 exact h1
theorem Sl.far {w u : World} {ao : Option Addr} {n cap : Nat} {l l' : List Int} {v : Value} (h : Sl w ao n cap l) (ho : OwnB u w.heap.size v l') : Far ao n v := by
 rcases h.hat with h0 | ⟨b, off, rfl, hb, _⟩
 ·exact .inl h0
 ·refine ho.far fun p hp => ?_
  injection hp with hp
  subst hp
  exact hb
theorem own_bn {w : World} {B C : Nat} {v u : Value} {l : List Int} {m : List Nat} (h : OwnB w B v l) (g : OwnN w C u m) : v.ownBlock = none ∨ v.ownBlock ≠ u.ownBlock := by
 unfold OwnB at h
 rcases h.2 with ⟨rfl, _⟩ | ⟨q, cap, cur, rfl, _, hh, _⟩
 ·exact .inl rfl
 ·right
  intro e
  exact g.apart hh zd e.symm
theorem OwnN.be {w w' : World} {B : Nat} {v v' : Value} {l : List Nat} (h : OwnN w B v l) (hg : Gr w v w' v') (hB : B ≤ w.heap.size) : Below B w w' := zcu h hB hg.grow
theorem OwnB.slice {w : World} {B : Nat} {v : Value} {l : List Int} (h : OwnB w B v l) : ∃ ao cap, v = .slice ao l.length cap := by
 unfold OwnB at h
 rcases h.2 with ⟨rfl, h0⟩ | ⟨g, cap, cur, rfl, _⟩
 ·exact ⟨none, 0, by rw [h0]⟩
 ·exact ⟨_, cap, rfl⟩
def encE (k n : Int) (cs : List Cl) : Int := if isKd k ∧ pw n then (if chk k n none cs = 0 then (if n < szN cs then 61 else 0) else chk k n none cs) else 1
theorem chk_step (k n : Int) (cs : List Cl) (j : Nat) (c : Cl) (h : cs[j]? = some c) : chk k n (prv (cs.take j)) (cs.drop j) = if mayP k n c then (if zap (prv (cs.take j)) c.key then chk k n (prv (cs.take (j + 1))) (cs.drop (j + 1)) else 63) else 62 := by
 obtain ⟨hj, e⟩ := zH.1 h
 rw [List.drop_eq_getElem_cons hj, e, chk]
 have : prv (cs.take (j + 1)) = some c.key := by
  rw [List.take_add_one, h]
  simp [prv]
 rw [this]
end Go.Proofs.YtbkhjeacmmbabaaGreatDoor
