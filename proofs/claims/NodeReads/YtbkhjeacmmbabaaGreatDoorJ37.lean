import Derived.Test.YtbkhjeacmmbabaaGreatDoorJ36
import Derived.Deep.DeepCutAuto
import Derived.Deep.CutRange
import Derived.Deep.RegionHeld
namespace Go.Proofs.YtbkhjeacmmbabaaGreatDoor
set_option maxRecDepth 100000
open Go.RowKit
theorem nmostKey_any (p : Int) (w : World) : Calls Tryz.prog 15 #[.int .i64 p] w fun e w' => e = .returned (.int .i64 (if pw p then p / 8 else 0)) ∧ w' = w := by
 cases h : decide (pw p) with
 | false =>
  rw [if_neg (by simpa using h)]
  go_enter Tryz.func15, Tryz.ntmps15
  go_wp2_with (go_at_call 31; refine zad (zbp _ _) ?_; rw [h])
  go_ret
  exact ⟨rfl, rfl⟩
 | true =>
  have hp : pw p := by simpa using h
  rw [if_pos hp]
  have h1 := pw_le hp
  have HM := zaa (zcw p w zq zq)
  clear hp h1
  go_enter Tryz.func15, Tryz.ntmps15
  go_wp2_with (first | (go_at_call 31; refine zad (zbp _ _) ?_; rw [h]) | (go_at_call 32; refine zad HM.out ?_))
  go_ret
  exact ⟨rfl, rfl⟩
theorem nmostValue_any (p : Int) (w : World) : Calls Tryz.prog 16 #[.int .i64 p] w fun e w' => e = .returned (.int .i64 (if pw p then p / 16 * 3 else 0)) ∧ w' = w := by
 cases h : decide (pw p) with
 | false =>
  rw [if_neg (by simpa using h)]
  go_enter Tryz.func16, Tryz.ntmps16
  go_wp2_with (go_at_call 31; refine zad (zbp _ _) ?_; rw [h])
  go_ret
  exact ⟨rfl, rfl⟩
 | true =>
  have hp : pw p := by simpa using h
  rw [if_pos hp]
  have h1 := pw_le hp
  have HM := zaa (zcd p w zq zq)
  clear hp h1
  go_enter Tryz.func16, Tryz.ntmps16
  go_wp2_with (first | (go_at_call 31; refine zad (zbp _ _) ?_; rw [h]) | (go_at_call 33; refine zad HM.out ?_))
  go_ret
  exact ⟨rfl, rfl⟩
theorem newQ_any (k n : Int) (w : World) : Calls Tryz.prog 47 #[.int .i64 k, .int .i64 n] w fun e w' => NewQ k n w e w' := by
 cases h1 : decide (isKd k) with
 | false =>
  have hk : ¬ isKd k := by simpa using h1
  go_enter Tryz.func47, Tryz.ntmps47
  go_wp2_with (go_at_call 78; refine zad (zcc _ _) ?_; rw [h1])
  go_ret2
  exact ⟨none, 1, rfl, Br, .inl ⟨rfl, rfl, fun h => hk h.1⟩⟩
 | true =>
  have hk : isKd k := by simpa using h1
  cases h2 : decide (pw n) with
  | false =>
   have hn : ¬ pw n := by simpa using h2
   have HN := zaa hn
   have HK := zaa hk
   clear hn hk
   go_enter Tryz.func47, Tryz.ntmps47
   go_wp2_with (first | (go_at_call 78; refine zad (zcc _ _) ?_; rw [h1]) | (go_at_call 31; refine zad (zbp _ _) ?_; rw [h2]))
   go_ret2
   exact ⟨none, 1, rfl, Br, .inl ⟨rfl, rfl, fun h => HN.out h.2⟩⟩
  | true =>
   have hn : pw n := by simpa using h2
   have HN := zaa hn
   have HK := zaa hk
   clear hn hk
   go_enter Tryz.func47, Tryz.ntmps47
   go_wp2_with (first | (go_at_call 78; refine zad (zcc _ _) ?_; rw [h1]) | (go_at_call 31; refine zad (zbp _ _) ?_; rw [h2]))
   go_ret2
   exact ⟨_, 0, rfl, Br.alloc Lr _, .inr ⟨rfl, rfl, HK.out, HN.out, heap_alloc_last w _⟩⟩
def NNewQ (k n : Int) (w : World) (e : Ending) (w' : World) : Prop :=
 ∃ v c, e = .returned (.tuple #[v, .int .i64 c]) ∧ Hid (Below w.heap.size w w') ∧ Hid ((v = .nilIface ∧ c = 1 ∧ ¬ (isKd k ∧ pw n)) ∨ ∃ a, v = iQ a ∧ c = 0 ∧ isKd k ∧ pw n ∧ w.heap.size ≤ a ∧ QR w' a k n (.slice none 0 0) (.slice none 0 0) (.slice none 0 0) 0)
theorem NNewQ.from {k n : Int} {w u w' : World} {e : Ending} (h : NNewQ k n u e w') (hb : Below w.heap.size w u) : NNewQ k n w e w' := by
 obtain ⟨v, c, rfl, HB, HQ⟩ := h
 refine ⟨v, c, rfl, zaa (zae hb Lr HB.out), zaa ?_⟩
 rcases HQ.out with h | ⟨a, h1, h2, h3, h4, h5, h6⟩
 ·exact .inl h
 ·exact .inr ⟨a, h1, h2, h3, h4, zN hb.size h5, h6⟩
theorem makeQ_any (k n : Int) (w : World) : Calls Tryz.prog 45 #[.int .i64 k, .int .i64 n] w (NNewQ k n w) := by
 have HN := zaa (newQ_any k n w)
 go_enter Tryz.func45, Tryz.ntmps45
 go_wp2_with (go_at_call 47; refine HN.out.mono ?_; rintro e w1 ⟨po, c, rfl, HB, HQ⟩; refine Hid.out ?_)
 apply zaa
 clear HN
 rcases HQ.out with ⟨rfl, rfl, hn⟩ | ⟨rfl, rfl, hk, hn, hh⟩
 ·have H1 := zaa hn
  clear HQ hn
  go_wp2_with (go_at_call 46; refine zad (asQ_no _ _ zd _) ?_)
  go_ret2
  exact ⟨_, _, rfl, HB, zaa (.inl ⟨rfl, rfl, H1.out⟩)⟩
 ·have H1 := zaa (And.intro hk (And.intro hn hh))
  clear HQ hk hn hh
  go_wp2_with (go_at_call 46; refine zad (asQ_yes _ _) ?_)
  go_ret2
  obtain ⟨h1, h2, h3⟩ := H1.out
  exact ⟨_, _, rfl, HB, zaa (.inr ⟨_, rfl, rfl, h1, h2, Lr, h3⟩)⟩
theorem nnew_2 (k n : Int) (w : World) : Calls Tryz.prog 13 #[.int .i64 2, .int .i64 k, .int .i64 n] w (NNewQ k n w) := by
 have HL := zaa (layout_2 w)
 have HM := zaa (fun u => makeQ_any k n u)
 go_enter Tryz.func13, Tryz.ntmps13
 go_wp2_with (first | (go_at_call 17; refine HL.out.mono ?_; rintro e w1 ⟨rfl, A⟩) | (go_at_call 45; refine (HM.out _).mono ?_; rintro e w2 ⟨v, c, rfl, B, C⟩; refine Hid.out ?_))
 apply zaa
 go_wp2
 go_ret2
 exact NNewQ.from ⟨v, c, rfl, B, C⟩ (zab A.out Lr _)
theorem zbw {fn : Func} {t u v x : Tmp} (h : fn.results = #[.tmp t, .tmp u, .tmp v, .tmp x]) (tmps : Array Value) (P : Program) (w : World) :
  (results fn tmps).run P w = .ok (.tuple #[tmps.getD t undef, tmps.getD u undef, tmps.getD v undef, tmps.getD x undef]) w := by
 simp [results, h]
def Yes (l : List Int) (cs : List Cl) : Prop := (egO l = 1 ∧ Is (l.getD 0 0) l.length cs l) ∨ (egO l = 2 ∧ IsQ (l.getD 0 0) l.length cs l)
theorem Yes.one {l : List Int} {cs ds : List Cl} (h : Yes l cs) (g : Yes l ds) : cs = ds := by
 rcases h with ⟨e, h⟩ | ⟨e, h⟩ <;> rcases g with ⟨e2, g⟩ | ⟨e2, g⟩
 ·exact (h.one g).2.2
 ·omega
 ·omega
 ·exact (h.one g).2.2
theorem Yes.len {l : List Int} {cs : List Cl} (h : Yes l cs) : cs.length ≤ 65536 ∧ ∀ d ∈ cs, d.key.length ≤ 65536 ∧ d.val.length ≤ 65536 := by
 rcases h with ⟨e, h⟩ | ⟨e, h⟩
 ·refine ⟨h.few.1, fun d hd => ?_⟩
  have h3 := (h.fits d hd).key
  have h4 := (h.fits d hd).val
  omega
 ·have hp := zas h.sz
  have h2 := zbj (l.getD 0 0) (shP (l.getD 0 0) cs).length cs
  have h3 := h.fit
  refine ⟨zq, fun d hd => ?_⟩
  have h4 := (chk_fit h.ok h.sz d hd).key
  have h5 := (chk_fit h.ok h.sz d hd).val
  omega
noncomputable def csE (l : List Int) : List Cl := @dite _ (∃ cs, Yes l cs) (Classical.propDecidable _) (fun h => h.choose) (fun _ => [])
noncomputable def cE (l : List Int) : Int := @ite _ (∃ cs, Yes l cs) (Classical.propDecidable _) 0 60
noncomputable def eE (l : List Int) : Int := @ite _ (∃ cs, Yes l cs) (Classical.propDecidable _) (egO l) 0
noncomputable def kE (l : List Int) : Int := @ite _ (∃ cs, Yes l cs) (Classical.propDecidable _) (l.getD 0 0) 0
theorem yes_E {l : List Int} {cs : List Cl} (h : Yes l cs) : csE l = cs ∧ cE l = 0 ∧ eE l = egO l ∧ kE l = l.getD 0 0 := by
 have hx : ∃ cs, Yes l cs := ⟨cs, h⟩
 refine ⟨?_, if_pos hx, if_pos hx, if_pos hx⟩
 unfold csE
 rw [dif_pos hx]
 exact hx.choose_spec.one h
theorem no_E {l : List Int} (h : ¬ ∃ cs, Yes l cs) : csE l = [] ∧ cE l = 60 ∧ eE l = 0 ∧ kE l = 0 := ⟨dif_neg h, if_neg h, if_neg h, if_neg h⟩
theorem csE_len (l : List Int) : (csE l).length ≤ 65536 ∧ ∀ d ∈ csE l, d.key.length ≤ 65536 ∧ d.val.length ≤ 65536 := by
 by_cases h : ∃ cs, Yes l cs
 ·obtain ⟨cs, h⟩ := h
  rw [(yes_E h).1]
  exact h.len
 ·rw [(no_E h).1]
  exact ⟨zv, fun d hd => by simp at hd⟩
theorem OwnC.got {w : World} {B g : Nat} {cs : List Cl} {P : Nat → Nat} (h : OwnC w B g cs P) (hl : ∀ d ∈ cs, d.key.length ≤ 65536 ∧ d.val.length ≤ 65536) : Got w B w.heap.size (some ⟨g, 0, none⟩) cs.length cs.length cs :=
 ⟨P, ⟨rfl, .inr ⟨g, rfl, rfl, ⟨h.row, h.hg, h.p0, h.up, h.top, fun i d hd => (h.at_ i d hd).dg (hl d (List.mem_of_getElem? hd))⟩⟩⟩, h.top, fun z hz => by injection hz with hz; rw [← hz]; exact ⟨h.hg, h.row.lt⟩⟩
def DecG (l : List Int) (w : World) (e : Ending) (w' : World) : Prop :=
 ∃ co cc, e = .returned (.tuple #[.int .i64 (eE l), .int .i64 (kE l), .slice co (csE l).length cc, .int .i64 (cE l)]) ∧ Hid (Below w.heap.size w w') ∧ Hid (Got w' w.heap.size w'.heap.size co (csE l).length cc (csE l) ∧ ∀ d ∈ csE l, d.Wf)
theorem DecG.no {l : List Int} {w w' : World} (h : ¬ ∃ cs, Yes l cs) (hb : Below w.heap.size w w') : DecG l w (.returned (.tuple #[.int .i64 0, .int .i64 0, .slice none 0 0, .int .i64 60])) w' := by
 obtain ⟨q1, q2, q3, q4⟩ := no_E h
 exact ⟨none, 0, by rw [q1, q2, q3, q4]; rfl, zaa hb, zaa ⟨by rw [q1]; exact Got.nil hb.size, fun d hd => by rw [q1] at hd; simp at hd⟩⟩
theorem DecG.yes {l : List Int} {cs : List Cl} {w w' : World} {co : Option Addr} {cc : Nat} {x k : Int} (h : Yes l cs) (hx : x = egO l) (hk : k = l.getD 0 0) (hb : Below w.heap.size w w') (hg : Got w' w.heap.size w'.heap.size co cs.length cc cs) (hw : ∀ d ∈ cs, d.Wf) : DecG l w (.returned (.tuple #[.int .i64 x, .int .i64 k, .slice co cs.length cc, .int .i64 0])) w' := by
 obtain ⟨q1, q2, q3, q4⟩ := yes_E h
 exact ⟨co, cc, by rw [q1, q2, q3, q4, hx, hk], zaa hb, zaa ⟨by rw [q1]; exact hg, by rw [q1]; exact hw⟩⟩
theorem ndecode_1 (ao : Option Addr) (n cap : Nat) (l : List Int) (w : World) (hs : Sl w ao n cap l) (ht : Tab w) (h0 : 1 < w.heap.size) (he : egO l = 1) : Calls Tryz.prog 6 #[.slice ao n cap] w (DecG l w) := by
 have HE := zaa (zdg ao n cap l w hs)
 rw [he] at HE
 have HL := zaa (layout_1 w)
 have HM : Hid (∀ u, Below w.heap.size w u → Calls Tryz.prog 36 #[.slice ao n cap] u fun e w' => ∃ k co cn cc c, e = .returned (.tuple #[.int .i64 k, .slice co cn cc, .int .i64 c]) ∧ Hid (Below w.heap.size w w') ∧ Hid ((c = 60 ∧ ¬ ∃ cs, Yes l cs) ∨ (c = 0 ∧ DecG l w (.returned (.tuple #[.int .i64 1, .int .i64 k, .slice co cn cc, .int .i64 0])) w'))) := zaa fun u hu => by
  refine (decode_own ao n cap l u (hs.on Lr hu) (ht.on hu h0) (zO h0 hu.size)).mono ?_
  rintro e w' ⟨k, co, cn, cc, c, rfl, HB, HQ⟩
  have hb := zae hu Lr HB.out
  refine ⟨k, co, cn, cc, c, rfl, zaa hb, zaa ?_⟩
  rcases HQ.out with ⟨rfl, rfl, rfl, rfl, rfl, h6⟩ | ⟨cs, g, P, rfl, rfl, rfl, rfl, rfl, h6, h7, h8⟩
  ·refine .inl ⟨rfl, ?_⟩
   rintro ⟨cs, ⟨e, h⟩ | ⟨e, h⟩⟩
   ·exact h6 ⟨cs, h⟩
   ·omega
  ·have hy : Yes l cs := .inl ⟨he, h6⟩
   exact .inr ⟨rfl, DecG.yes hy he.symm rfl hb ((h8.got hy.len.2).low hu.size) h7⟩
 clear hs ht h0 he
 go_enter Tryz.func6, Tryz.ntmps6
 go_wp2_with (first | (go_at_call 18; refine zad HE.out ?_) | (go_at_call 17; refine HL.out.mono ?_; rintro e w1 ⟨rfl, B⟩) | (go_at_call 36; refine (HM.out _ (zab B.out Lr _)).mono ?_; rintro e w2 ⟨k, co, cn, cc, c, rfl, C, A⟩; refine Hid.out ?_))
 apply zaa
 rcases A.out with ⟨rfl, h6⟩ | ⟨rfl, h6⟩
 ·have H6 := zaa h6
  clear A h6
  go_wp2
  (try simp only [Exit.inBlock, Exit.then])
  refine bodyPost_ret (zbw rfl _ _ _) rfl ?_
  exact DecG.no H6.out C.out
 ·have H6 := zaa h6
  clear A h6
  go_wp2
  (try simp only [Exit.inBlock, Exit.then])
  refine bodyPost_ret (zbw rfl _ _ _) rfl ?_
  exact H6.out
theorem ndecode_2 (ao : Option Addr) (n cap : Nat) (l : List Int) (w : World) (hs : Sl w ao n cap l) (ht : Tab w) (h0 : 1 < w.heap.size) (he : egO l = 2) : Calls Tryz.prog 6 #[.slice ao n cap] w (DecG l w) := by
 have HE := zaa (zdg ao n cap l w hs)
 rw [he] at HE
 have HL := zaa (layout_2 w)
 have HM : Hid (∀ u, Below w.heap.size w u → Calls Tryz.prog 44 #[.slice ao n cap] u fun e w' => ∃ k co cn cc c, e = .returned (.tuple #[.int .i64 k, .slice co cn cc, .int .i64 c]) ∧ Hid (Below w.heap.size w w') ∧ Hid ((c = 60 ∧ ¬ ∃ cs, Yes l cs) ∨ (c = 0 ∧ DecG l w (.returned (.tuple #[.int .i64 2, .int .i64 k, .slice co cn cc, .int .i64 0])) w'))) := zaa fun u hu => by
  refine (decodeQ_own ao n cap l u (hs.on Lr hu) (ht.on hu h0) (zO h0 hu.size)).mono ?_
  rintro e w' ⟨k, co, cn, cc, c, rfl, HB, HQ⟩
  have hb := zae hu Lr HB.out
  refine ⟨k, co, cn, cc, c, rfl, zaa hb, zaa ?_⟩
  rcases HQ.out with ⟨rfl, rfl, rfl, rfl, rfl, h6⟩ | ⟨cs, g, P, rfl, rfl, rfl, rfl, rfl, h6, h7, h8, h9, ⟨p1, p2, p3⟩, B⟩
  ·refine .inl ⟨rfl, ?_⟩
   rintro ⟨cs, ⟨e, h⟩ | ⟨e, h⟩⟩
   ·omega
   ·exact h6 ⟨cs, h⟩
  ·have hy : Yes l cs := .inr ⟨he, h6⟩
   have hg : Got w' u.heap.size w'.heap.size (some ⟨g, 0, none⟩) cs.length cs.length cs := ⟨P, ⟨rfl, .inr ⟨g, rfl, rfl, ⟨h9, h8, p1, p2, p3, fun i d hd => (B i d hd).dg (hy.len.2 d (List.mem_of_getElem? hd)).2⟩⟩⟩, p3, fun z hz => by injection hz with hz; rw [← hz]; exact ⟨h8, h9.lt⟩⟩
   exact .inr ⟨rfl, DecG.yes hy he.symm rfl hb (hg.low hu.size) h7⟩
 clear hs ht h0 he
 go_enter Tryz.func6, Tryz.ntmps6
 go_wp2_with (first | (go_at_call 18; refine zad HE.out ?_) | (go_at_call 17; refine HL.out.mono ?_; rintro e w1 ⟨rfl, C⟩) | (go_at_call 44; refine (HM.out _ (zab C.out Lr _)).mono ?_; rintro e w2 ⟨k, co, cn, cc, c, rfl, D, A⟩; refine Hid.out ?_))
 apply zaa
 rcases A.out with ⟨rfl, h6⟩ | ⟨rfl, h6⟩
 ·have H6 := zaa h6
  clear A h6
  go_wp2
  (try simp only [Exit.inBlock, Exit.then])
  refine bodyPost_ret (zbw rfl _ _ _) rfl ?_
  exact DecG.no H6.out D.out
 ·have H6 := zaa h6
  clear A h6
  go_wp2
  (try simp only [Exit.inBlock, Exit.then])
  refine bodyPost_ret (zbw rfl _ _ _) rfl ?_
  exact H6.out
theorem yes_eg {l : List Int} (h1 : ¬ egO l = 1) (h2 : ¬ egO l = 2) : ¬ ∃ cs, Yes l cs := by
 rintro ⟨cs, ⟨e, h⟩ | ⟨e, h⟩⟩
 ·exact h1 e
 ·exact h2 e
theorem ndecode_0 (ao : Option Addr) (n cap : Nat) (l : List Int) (w : World) (hs : Sl w ao n cap l) (h1 : ¬ egO l = 1) (h2 : ¬ egO l = 2) : Calls Tryz.prog 6 #[.slice ao n cap] w (DecG l w) := by
 have HE := zaa (zdg ao n cap l w hs)
 have HL := zaa (layout_0 w (egO l) h1 h2)
 have HN := zaa (yes_eg h1 h2)
 generalize egO l = x at *
 clear hs h1 h2
 go_enter Tryz.func6, Tryz.ntmps6
 go_wp2_with (first | (go_at_call 18; refine zad HE.out ?_) | (go_at_call 17; refine HL.out.mono ?_; rintro e w1 ⟨rfl, A⟩))
 (try simp only [Exit.inBlock, Exit.then])
 refine bodyPost_ret (zbw rfl _ _ _) rfl ?_
 exact DecG.no HN.out (zab A.out Lr _)
theorem ndecode_any (ao : Option Addr) (n cap : Nat) (l : List Int) (w : World) (hs : Sl w ao n cap l) (ht : Tab w) (h0 : 1 < w.heap.size) : Calls Tryz.prog 6 #[.slice ao n cap] w (DecG l w) := by
 by_cases h1 : egO l = 1
 ·exact ndecode_1 ao n cap l w hs ht h0 h1
 by_cases h2 : egO l = 2
 ·exact ndecode_2 ao n cap l w hs ht h0 h2
 exact ndecode_0 ao n cap l w hs h1 h2
def PgX (w : World) (B : Nat) (v : Value) (l : List Int) (cs : List Cl) : Prop :=
 (∃ a bo bn bc so sn sc, v = iP a ∧ egO l = 1 ∧ Is (l.getD 0 0) l.length cs l ∧ B ≤ a ∧ Po w B a (l.getD 0 0) l.length (.slice bo bn bc) (.slice so sn sc) cs) ∨
 (∃ a gp qn qc vb vs, v = iQ a ∧ egO l = 2 ∧ IsQ (l.getD 0 0) l.length cs l ∧ B ≤ gp ∧ PO w B a (l.getD 0 0) l.length (some ⟨gp, 0, none⟩) qn qc vb vs 0 (shP (l.getD 0 0) cs) (qbd (shP (l.getD 0 0) cs).length (whl (l.getD 0 0)) cs) (qst (shP (l.getD 0 0) cs).length (whl (l.getD 0 0)) 0 cs))
theorem PgX.yes {w : World} {B : Nat} {v : Value} {l : List Int} {cs : List Cl} (h : PgX w B v l cs) : Yes l cs := by
 rcases h with ⟨_, _, _, _, _, _, _, _, h1, h2, _⟩ | ⟨_, _, _, _, _, _, _, h1, h2, _⟩
 ·exact .inl ⟨h1, h2⟩
 ·exact .inr ⟨h1, h2⟩
theorem PgX.low {w : World} {B C : Nat} {v : Value} {l : List Int} {cs : List Cl} (h : PgX w C v l cs) (hB : B ≤ C) : PgX w B v l cs := by
 rcases h with ⟨a, bo, bn, bc, so, sn, sc, h0, h1, h2, h3, h4⟩ | ⟨a, gp, qn, qc, vb, vs, h0, h1, h2, h3, h4⟩
 ·exact .inl ⟨a, bo, bn, bc, so, sn, sc, h0, h1, h2, zN hB h3, h4.low hB⟩
 ·exact .inr ⟨a, gp, qn, qc, vb, vs, h0, h1, h2, zN hB h3, ⟨h4.row, h4.pre, h4.ob.low hB, h4.on.lowN hB, h4.far, zN hB h4.ha⟩⟩
theorem PgX.cf {w w' : World} {F : Nat → Prop} {B : Nat} {v : Value} {l : List Int} {cs : List Cl} (h : PgX w B v l cs) (hc : Cf F w w') (hf : ∀ z, F z → z < B) : PgX w' B v l cs := by
 have hN : ∀ {u : Value} {st : List Nat}, OwnN w B u st → OwnN w' B u st := by
  intro u st h
  unfold OwnN at *
  rcases h.2 with h2 | ⟨g, cap, cur, e, hg, hh, rest⟩
  ·exact ⟨h.1, .inl h2⟩
  ·refine ⟨h.1, .inr ⟨g, cap, cur, e, hg, ?_, rest⟩⟩
   rw [hc.block g (zaf hh) (fun hF => by have := hf g hF; omega)]
   exact hh
 have hO : ∀ {u : Value} {b : List Int}, OwnB w B u b → OwnB w' B u b := fun h => h.cfX hc (fun z hz hF => by have := (h.blk hz).1; have := hf z hF; omega)
 rcases h with ⟨a, bo, bn, bc, so, sn, sc, h0, h1, h2, h3, h4⟩ | ⟨a, gp, qn, qc, vb, vs, h0, h1, h2, h3, h4⟩
 ·exact .inl ⟨a, bo, bn, bc, so, sn, sc, h0, h1, h2, h3, ⟨(hc.block a (zaf h4.row) (fun hF => by have := hf a hF; omega)).trans h4.row, hO h4.body, hN h4.starts⟩⟩
 ·exact .inr ⟨a, gp, qn, qc, vb, vs, h0, h1, h2, h3, ⟨(hc.block a (zaf h4.row) (fun hF => by have := hf a hF; have := h4.ha; omega)).trans h4.row, h4.pre.cf hc (.inr fun p hp hF => by cases hp; have := hf _ hF; simp only at this; omega), hO h4.ob, hN h4.on, h4.far, h4.ha⟩⟩
def OpG (l : List Int) (w : World) (e : Ending) (w' : World) : Prop :=
 ∃ v, e = .returned (.tuple #[v, .int .i64 (cE l)]) ∧ Hid (Below w.heap.size w w') ∧ Hid ((v = .nilIface ∧ ¬ ∃ cs, Yes l cs) ∨ ((∀ d ∈ csE l, d.Wf) ∧ PgX w' w.heap.size v l (csE l)))
theorem OpG.from {l : List Int} {w u w' : World} {e : Ending} (h : OpG l u e w') (hb : Below w.heap.size w u) : OpG l w e w' := by
 obtain ⟨v, rfl, HB, HQ⟩ := h
 refine ⟨v, rfl, zaa (zae hb Lr HB.out), zaa ?_⟩
 rcases HQ.out with h | ⟨h1, h2⟩
 ·exact .inl h
 ·exact .inr ⟨h1, h2.low hb.size⟩
theorem OpG.no {l : List Int} {w w' : World} (h : ¬ ∃ cs, Yes l cs) (hb : Below w.heap.size w w') : OpG l w (.returned (.tuple #[.nilIface, .int .i64 60])) w' := ⟨.nilIface, by rw [(no_E h).2.1], zaa hb, zaa (.inl ⟨rfl, h⟩)⟩
theorem OpG.yes {l : List Int} {cs : List Cl} {v : Value} {w w' : World} (h : PgX w' w.heap.size v l cs) (hw : ∀ d ∈ cs, d.Wf) (hb : Below w.heap.size w w') : OpG l w (.returned (.tuple #[v, .int .i64 0])) w' := by
 obtain ⟨q1, q2, q3, q4⟩ := yes_E h.yes
 exact ⟨v, by rw [q2], zaa hb, zaa (.inr ⟨by rw [q1]; exact hw, by rw [q1]; exact h⟩)⟩
theorem nopenG_1 (ao : Option Addr) (n cap : Nat) (l : List Int) (w : World) (hs : Sl w ao n cap l) (ht : Tab w) (h0 : 1 < w.heap.size) (he : egO l = 1) : Calls Tryz.prog 5 #[.slice ao n cap] w (OpG l w) := by
 refine (nopen_1 ao n cap l w hs ht h0 he).mono ?_
 rintro e w' ⟨v, c, rfl, HB, HQ⟩
 rcases HQ.out with ⟨rfl, rfl, hn⟩ | ⟨a, bo, bn, bc, so, sn, sc, cs, rfl, rfl, h1, h2, h3, h4⟩
 ·refine OpG.no ?_ HB.out
  rintro ⟨cs, ⟨e, h⟩ | ⟨e, h⟩⟩
  ·exact hn ⟨cs, h⟩
  ·omega
 ·exact OpG.yes (.inl ⟨a, bo, bn, bc, so, sn, sc, rfl, he, h2, h1, h4⟩) h3 HB.out
theorem openQ8_any (ao : Option Addr) (n cap : Nat) (l : List Int) (w : World) (hs : Sl w ao n cap l) (ht : Tab w) (h0 : 1 < w.heap.size) (he : egO l = 2) : Calls Tryz.prog 48 #[.slice ao n cap] w (OpG l w) := by
 have HN := zaa (openQ_any7 ao n cap l w hs ht h0)
 have HE := zaa he
 clear hs ht h0 he
 go_enter Tryz.func48, Tryz.ntmps48
 go_wp2_with (go_at_call 49; refine HN.out.mono ?_; rintro e w1 ⟨po, c, rfl, HB, HQ⟩; refine Hid.out ?_)
 apply zaa
 clear HN
 rcases HQ.out with ⟨rfl, rfl, hn⟩ | ⟨a, qo, qn, qc, vb, vs, cs, rfl, rfl, h1, h2, ⟨gp, rfl, h3⟩, h4⟩
 ·have H1 := zaa hn
  clear HQ hn
  go_wp2_with (go_at_call 46; refine zad (asQ_no _ _ zd _) ?_)
  go_ret2
  refine OpG.no ?_ HB.out
  rintro ⟨cs, ⟨e, h⟩ | ⟨e, h⟩⟩
  ·have := HE.out; omega
  ·exact H1.out ⟨cs, h⟩
 ·have H1 := zaa (And.intro h1 (And.intro h2 (And.intro h3 h4)))
  clear HQ h1 h2 h3 h4
  go_wp2_with (go_at_call 46; refine zad (asQ_yes _ _) ?_)
  go_ret2
  obtain ⟨h1, h2, h3, h4⟩ := H1.out
  exact OpG.yes (.inr ⟨a, gp, qn, qc, vb, vs, rfl, HE.out, h1, h3, h4⟩) h2 HB.out
theorem nopenG_2 (ao : Option Addr) (n cap : Nat) (l : List Int) (w : World) (hs : Sl w ao n cap l) (ht : Tab w) (h0 : 1 < w.heap.size) (he : egO l = 2) : Calls Tryz.prog 5 #[.slice ao n cap] w (OpG l w) := by
 have HE := zaa (zdg ao n cap l w hs)
 have HM : Hid (∀ u, Below w.heap.size w u → Calls Tryz.prog 48 #[.slice ao n cap] u fun e w' => ∃ v c, e = .returned (.tuple #[v, .int .i64 c]) ∧ Hid (OpG l w e w')) := zaa fun u hu => by
  refine (openQ8_any ao n cap l u (hs.on Lr hu) (ht.on hu h0) (zO h0 hu.size) he).mono ?_
  intro e w' h
  obtain ⟨v, hv, _⟩ := id h
  exact ⟨v, _, hv, zaa (h.from hu)⟩
 rw [he] at HE
 have HL := zaa (layout_2 w)
 clear hs ht h0 he
 go_enter Tryz.func5, Tryz.ntmps5
 go_wp2_with (first | (go_at_call 18; refine zad HE.out ?_) | (go_at_call 17; refine HL.out.mono ?_; rintro e w1 ⟨rfl, A⟩) | (go_at_call 48; refine (HM.out _ (zab A.out Lr _)).mono ?_; rintro e w2 ⟨v, c, rfl, B⟩; refine Hid.out ?_))
 apply zaa
 go_wp2
 go_ret2
 exact B.out
theorem nopenG_any (ao : Option Addr) (n cap : Nat) (l : List Int) (w : World) (hs : Sl w ao n cap l) (ht : Tab w) (h0 : 1 < w.heap.size) : Calls Tryz.prog 5 #[.slice ao n cap] w (OpG l w) := by
 by_cases h1 : egO l = 1
 ·exact nopenG_1 ao n cap l w hs ht h0 h1
 by_cases h2 : egO l = 2
 ·exact nopenG_2 ao n cap l w hs ht h0 h2
 refine (nopen_0 ao n cap l w hs h1 h2).mono ?_
 rintro e w' ⟨rfl, HB⟩
 exact OpG.no (yes_eg h1 h2) HB.out
theorem below_sets (B g o : Nat) (vs : List Value) (w : World) (hg : B ≤ g) (hB : B ≤ w.heap.size) : Below B w (w.setCells g o vs) := by
 have h := zcf g vs o w
 exact ⟨h.os, h.tape, h.output, h.size, fun k hk => h.block k zq (by intro e; injection e with e; omega)⟩
theorem filled_any (w : World) (a : Nat) (k n : Int) (po : Option Addr) (pn pc : Nat) (bo : Option Addr) (bn bc : Nat) (so : Option Addr) (sn sc : Nat) (ws : Int) (h : QR w a k n (.slice po pn pc) (.slice bo bn bc) (.slice so sn sc) ws) (h1 : pn ≤ 1099511627776) (h2 : bn ≤ 1099511627776) (h3 : sn ≤ 1099511627776) :
  Calls Tryz.prog 241 #[.pointer (some ⟨a, 0, none⟩)] w fun e w' => e = .returned (.int .i64 ((10 + pn + 2 * sn + bn : Nat) : Int)) ∧ ∃ q, w' = w.drewN q := by
 obtain ⟨c0, c1, c2, c3, c4, c5⟩ := h.cells
 have b1 : (pn : Int) ≤ 1099511627776 := zq
 have b2 : (bn : Int) ≤ 1099511627776 := zq
 have b3 : (sn : Int) ≤ 1099511627776 := zq
 clear h
 go_enter Tryz.func241, Tryz.ntmps241
 go_wp2_with fail
 go_quiet (fail)
 go_wp2
 go_ret
 refine ⟨zbf ?_, _, rfl⟩
 omega
theorem usedQ_any (w : World) (a : Nat) (k n : Int) (po : Option Addr) (pn pc : Nat) (bo : Option Addr) (bn bc : Nat) (so : Option Addr) (sn sc : Nat) (h : QR w a k n (.slice po pn pc) (.slice bo bn bc) (.slice so sn sc) 0) (h1 : pn ≤ 1099511627776) (h2 : bn ≤ 1099511627776) (h3 : sn ≤ 1099511627776) (Z : Nat) (hZ : 10 + pn + 2 * sn + bn = Z) :
  Calls Tryz.prog 236 #[.pointer (some ⟨a, 0, none⟩)] w fun e w' => e = .returned (.int .i64 (Z : Int)) ∧ Hid (Below w.heap.size w w') := by
 obtain ⟨c0, c1, c2, c3, c4, c5⟩ := h.cells
 have HF : Hid (∀ u, Below w.heap.size w u → Calls Tryz.prog 241 #[.pointer (some ⟨a, 0, none⟩)] u fun e w' => e = .returned (.int .i64 (Z : Int)) ∧ w'.cell? ⟨a, 5, none⟩ = some (.int .i64 0) ∧ Hid (Below w.heap.size w w')) := by
  refine zaa fun u hu => (filled_any u a k n po pn pc bo bn bc so sn sc 0 (zag h hu) h1 h2 h3).mono ?_
  rintro e w' ⟨rfl, q, rfl⟩
  have hb := zac hu q
  exact ⟨by rw [hZ], (show QR _ a k n (.slice po pn pc) (.slice bo bn bc) (.slice so sn sc) 0 from zag h hb).cells.2.2.2.2.2, zaa hb⟩
 have bZ : (Z : Int) ≤ 8796093022208 := zq
 have C : IntKind.i64.wrap (Z : Int) = (Z : Int) := by rw [IntKind.wrap_i64]; omega
 have B : IntKind.i64.wrap ((Z : Int) - 0) = (Z : Int) := by rw [IntKind.wrap_i64]; omega
 clear h hZ
 go_enter Tryz.func236, Tryz.ntmps236
 go_wp2_with fail
 go_region_with (first | (go_at_call 241; refine (HF.out _ zW1).mono ?_; rintro e w1 ⟨rfl, x5, A⟩))
 all_goals
  go_wp2
  go_ret
  exact ⟨rfl, zaa (by first | exact A.out | exact A.out.drew | exact zac A.out _)⟩
theorem hasPrefix_any (ao bo : Option Addr) (n m c d : Nat) (la lb : List Int) (w : World) (ha : Sl w ao n c la) (hb : Sl w bo m d lb) :
  Calls Tryz.prog 250 #[.slice ao n c, .slice bo m d] w fun e w' => e = .returned (.bool (decide (la.take lb.length = lb))) ∧ w' = w := by
 have h1 := ha.hlen
 have h2 := hb.hlen
 have h3 := ha.hcap
 by_cases A : m ≤ n
 ·have HE := zaa (equal7 ao bo m m c d (la.take m) lb w (ha.take m A) hb)
  have B : (m : Int) ≤ (n : Int) := zq
  have D : m ≤ c := zq
  have C : (m : Int) ≤ (c : Int) := zq
  rw [h2]
  generalize decide (la.take m = lb) = bb at *
  clear ha hb
  go_enter Tryz.func250, Tryz.ntmps250
  go_wp2_with (go_at_call 80; refine zad HE.out ?_)
  go_ret
  exact ⟨rfl, rfl⟩
 ·have B : ¬ (m : Int) ≤ (n : Int) := zq
  have hd : decide (la.take lb.length = lb) = false := decide_eq_false (by
   intro h
   have := congrArg List.length h
   rw [zJ] at this
   omega)
  rw [hd]
  clear ha hb
  go_enter Tryz.func250, Tryz.ntmps250
  go_wp2
  go_ret
  exact ⟨rfl, rfl⟩
set_option maxHeartbeats 1000000 in
theorem cut_row (ao bo : Option Addr) (n m c d : Nat) (la lb : List Int) (w : World) (ha : Sl w ao n c la) (hb : Sl w bo m d lb) : ∃ (ro : Option Addr) (rn rc : Nat) (b : Bool), b = decide (la.take lb.length = lb) ∧ Sl w ro rn rc (if b then la.drop lb.length else la) ∧
  ∀ u, Below w.heap.size w u → Calls Tryz.prog 244 #[.slice ao n c, .slice bo m d] u fun e w' => e = .returned (.tuple #[.slice ro rn rc, .bool b]) ∧ w' = u := by
 have h1 := ha.hlen
 have h2 := hb.hlen
 have h3 := ha.hcap
 have HP := zaa (fun u (hu : Below w.heap.size w u) => hasPrefix_any ao bo n m c d la lb u (ha.on Lr hu) (hb.on Lr hu))
 cases hd : decide (la.take lb.length = lb) with
 | false =>
  rw [hd] at HP
  refine ⟨ao, n, c, false, rfl, by simpa using ha, fun u hu => ?_⟩
  have HQ := zaa (HP.out u hu)
  clear ha hb HP hu
  go_enter Tryz.func244, Tryz.ntmps244
  go_wp2_with (go_at_call 250; refine zad HQ.out ?_)
  go_ret2
  exact ⟨rfl, rfl⟩
 | true =>
  rw [hd] at HP
  have B : m ≤ n := by
   have := congrArg List.length (show la.take lb.length = lb by simpa using hd)
   rw [zJ] at this
   omega
  have H : m ≤ c := zq
  have C : (m : Int) ≤ (c : Int) := zq
  have D : (m : Int) ≤ (n : Int) := zq
  rw [h2]
  rcases sl_from ha m B with ⟨rfl, rfl, rfl⟩ | ⟨a, rfl, ⟨A, hs⟩ | ⟨A, hs⟩⟩
  ·obtain rfl : m = 0 := zq
   refine ⟨none, 0, 0, true, rfl, by simpa using ha, fun u hu => ?_⟩
   have HQ := zaa (HP.out u hu)
   clear ha hb HP hu
   go_enter Tryz.func244, Tryz.ntmps244
   go_wp2_with (go_at_call 250; refine zad HQ.out ?_)
   go_ret2
   exact ⟨rfl, rfl⟩
  ·subst A
   obtain rfl : n = c := zq
   refine ⟨some a, n - n, n - n, true, rfl, by simpa using hs, fun u hu => ?_⟩
   have HQ := zaa (HP.out u hu)
   clear ha hb HP hu hs
   go_enter Tryz.func244, Tryz.ntmps244
   go_wp2_with (go_at_call 250; refine zad HQ.out ?_)
   go_ret2
   exact ⟨zv, rfl⟩
  ·have E : c - m ≠ 0 := zq
   have F : m < c := zq
   have G : (m : Int) < (c : Int) := zq
   refine ⟨some (a.add m), n - m, c - m, true, rfl, by simpa using hs, fun u hu => ?_⟩
   have HQ := zaa (HP.out u hu)
   clear ha hb HP hu hs
   go_enter Tryz.func244, Tryz.ntmps244
   go_wp2_with (go_at_call 250; refine zad HQ.out ?_)
   go_ret2
   exact ⟨zv, rfl⟩
structure Ag (w : World) (a b1 b2 b3 b4 : Nat) (qo : Option Addr) (qn qc : Nat) (ro : Option Addr) (rn rc : Nat) (b : Bool) (P q : List Int) : Prop where
 c1 : w.cell? ⟨b1, 0, none⟩ = some (.pointer (some ⟨a, 0, none⟩))
 c2 : w.cell? ⟨b2, 0, none⟩ = some (.slice qo qn qc)
 c3 : w.cell? ⟨b3, 0, none⟩ = some (.bool b)
 c4 : w.cell? ⟨b4, 0, none⟩ = some (.slice ro rn rc)
 l1 : b1 < w.heap.size
 l2 : b2 < w.heap.size
 l3 : b3 < w.heap.size
 l4 : b4 < w.heap.size
 hq : Sl w qo qn qc q
 hr : Sl w ro rn rc (if b then q.drop P.length else q)
 hb : b = decide (q.take P.length = P)
end Go.Proofs.YtbkhjeacmmbabaaGreatDoor
