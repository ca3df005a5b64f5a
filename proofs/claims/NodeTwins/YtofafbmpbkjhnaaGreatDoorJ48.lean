import Derived.Deep.QuietTactic
import Derived.Handy
import Derived.BigQuiet
import Derived.Deep.DeepAppendWide
import Derived.Laws.Cover1
import Derived.Carry
import Derived.Deep.RegionLaw
import Derived.Laws.OwnMore
import Derived.Test.YtofafbmpbkjhnaaGreatDoorJ47
import Derived.Test.YtofafbmpbkjhnaaGreatDoorJ35
import Derived.Test.YtofafbmpbkjhnaaGreatDoorJ36
import Derived.Deep.DeepCutAuto
import Derived.Deep.CutRange
import Derived.Test.YtofafbmpbkjhnaaGreatDoorCards
import Derived.Test.YtofafbmpbkjhnaaGreatDoorTie
import Derived.WalkKit
import Derived.ProofKit
import Derived.OpenShut
import Derived.Deep.DeepHandedRow
import Derived.Lib.LaidTab
import Derived.ChangeArms
import Derived.DataElems
import Derived.SizedLaws
import Derived.KernelRfl
import Derived.WideShapes
namespace Go.Proofs.YtofafbmpbkjhnaaGreatDoor
set_option maxRecDepth 100000
set_option maxHeartbeats 8000000
open Go.RowKit
theorem nmostKey_any (p : Int) (w : World) : Calls Tryz.prog 30 #[.int .i64 p] w fun e w' => e = .returned (.int .i64 (if pw p then p / 8 else 0)) ∧ w' = w := by
 cases h : decide (pw p) with
 | false =>
  rw [if_neg (by simpa using h)]
  go_enter Tryz.func30, Tryz.ntmps30
  go_wp2_with (go_at_call 62; refine zae (zbg _ _) ?_; rw [h])
  go_ret
  exact ⟨rfl, rfl⟩
 | true =>
  have hp : pw p := by simpa using h
  rw [if_pos hp]
  have h1 := pw_le hp
  have HM := zaa (zct p w (by omega) (by omega))
  clear hp h1
  go_enter Tryz.func30, Tryz.ntmps30
  go_wp2_with (first | (go_at_call 62; refine zae (zbg _ _) ?_; rw [h]) | (go_at_call 78; refine zae HM.out ?_))
  go_ret
  exact ⟨rfl, rfl⟩
theorem nmostValue_any (p : Int) (w : World) : Calls Tryz.prog 32 #[.int .i64 p] w fun e w' => e = .returned (.int .i64 (if pw p then p / 16 * 3 else 0)) ∧ w' = w := by
 cases h : decide (pw p) with
 | false =>
  rw [if_neg (by simpa using h)]
  go_enter Tryz.func32, Tryz.ntmps32
  go_wp2_with (go_at_call 62; refine zae (zbg _ _) ?_; rw [h])
  go_ret
  exact ⟨rfl, rfl⟩
 | true =>
  have hp : pw p := by simpa using h
  rw [if_pos hp]
  have h1 := pw_le hp
  have HM := zaa (zbx p w (by omega) (by omega))
  clear hp h1
  go_enter Tryz.func32, Tryz.ntmps32
  go_wp2_with (first | (go_at_call 62; refine zae (zbg _ _) ?_; rw [h]) | (go_at_call 79; refine zae HM.out ?_))
  go_ret
  exact ⟨rfl, rfl⟩
theorem newQ_any (k n : Int) (w : World) : Calls Tryz.prog 93 #[.int .i64 k, .int .i64 n] w fun e w' => NewQ k n w e w' := by
 cases h1 : decide (isKd k) with
 | false =>
  have hk : ¬ isKd k := by simpa using h1
  go_enter Tryz.func93, Tryz.ntmps93
  go_wp2_with (go_at_call 63; refine zae (zbj _ _) ?_; rw [h1])
  go_ret2
  exact ⟨none, 1, rfl, Br, .inl ⟨rfl, rfl, fun h => hk h.1⟩⟩
 | true =>
  have hk : isKd k := by simpa using h1
  cases h2 : decide (pw n) with
  | false =>
   have hn : ¬ pw n := by simpa using h2
   have HN := zaa hn
   have HK := zaa hk
   clear hn hk
   go_enter Tryz.func93, Tryz.ntmps93
   go_wp2_with (first | (go_at_call 63; refine zae (zbj _ _) ?_; rw [h1]) | (go_at_call 62; refine zae (zbg _ _) ?_; rw [h2]))
   go_ret2
   exact ⟨none, 1, rfl, Br, .inl ⟨rfl, rfl, fun h => HN.out h.2⟩⟩
  | true =>
   have hn : pw n := by simpa using h2
   have HN := zaa hn
   have HK := zaa hk
   clear hn hk
   go_enter Tryz.func93, Tryz.ntmps93
   go_wp2_with (first | (go_at_call 63; refine zae (zbj _ _) ?_; rw [h1]) | (go_at_call 62; refine zae (zbg _ _) ?_; rw [h2]))
   go_ret2
   exact ⟨_, 0, rfl, Br.alloc Lr _, .inr ⟨rfl, rfl, HK.out, HN.out, heap_alloc_last w _⟩⟩
def NNewQ (k n : Int) (w : World) (e : Ending) (w' : World) : Prop :=
 ∃ v c, e = .returned (.tuple #[v, .int .i64 c]) ∧ Hid (Below w.heap.size w w') ∧ Hid ((v = .nilIface ∧ c = 1 ∧ ¬ (isKd k ∧ pw n)) ∨ ∃ a, v = iQ a ∧ c = 0 ∧ isKd k ∧ pw n ∧ w.heap.size ≤ a ∧ QR w' a k n (.slice none 0 0) (.slice none 0 0) (.slice none 0 0) 0)
theorem NNewQ.from {k n : Int} {w u w' : World} {e : Ending} (h : NNewQ k n u e w') (hb : Below w.heap.size w u) : NNewQ k n w e w' := by
 obtain ⟨v, c, rfl, HB, HQ⟩ := h
 refine ⟨v, c, rfl, zaa (zab hb Lr HB.out), zaa ?_⟩
 rcases HQ.out with h | ⟨a, h1, h2, h3, h4, h5, h6⟩
 ·exact .inl h
 ·exact .inr ⟨a, h1, h2, h3, h4, zN hb.size h5, h6⟩
theorem makeQ_any (k n : Int) (w : World) : Calls Tryz.prog 91 #[.int .i64 k, .int .i64 n] w (NNewQ k n w) := by
 have HN := zaa (newQ_any k n w)
 go_enter Tryz.func91, Tryz.ntmps91
 go_wp2_with (go_at_call 93; refine HN.out.mono ?_; rintro e w1 ⟨po, c, rfl, HB, HQ⟩; refine Hid.out ?_)
 apply zaa
 clear HN
 rcases HQ.out with ⟨rfl, rfl, hn⟩ | ⟨rfl, rfl, hk, hn, hh⟩
 ·have H1 := zaa hn
  clear HQ hn
  go_wp2_with (go_at_call 92; refine zae (asQ_no _ _ (by decide) _) ?_)
  go_ret2
  exact ⟨_, _, rfl, HB, zaa (.inl ⟨rfl, rfl, H1.out⟩)⟩
 ·have H1 := zaa (And.intro hk (And.intro hn hh))
  clear HQ hk hn hh
  go_wp2_with (go_at_call 92; refine zae (asQ_yes _ _) ?_)
  go_ret2
  obtain ⟨h1, h2, h3⟩ := H1.out
  exact ⟨_, _, rfl, HB, zaa (.inr ⟨_, rfl, rfl, h1, h2, Lr, h3⟩)⟩
theorem nnew_2 (k n : Int) (w : World) : Calls Tryz.prog 8 #[.int .i64 2, .int .i64 k, .int .i64 n] w (NNewQ k n w) := by
 have HL := zaa (layout_2 w)
 have HM := zaa (fun u => makeQ_any k n u)
 go_enter Tryz.func8, Tryz.ntmps8
 go_wp2_with (first | (go_at_call 38; refine HL.out.mono ?_; rintro e w1 ⟨rfl, HB1⟩) | (go_at_call 91; refine (HM.out _).mono ?_; rintro e w2 ⟨v, c, rfl, HB2, HQ2⟩; refine Hid.out ?_))
 apply zaa
 go_wp2
 go_ret2
 exact NNewQ.from ⟨v, c, rfl, HB2, HQ2⟩ (zac HB1.out Lr _)
def insE (k : Int) (n : Nat) (cs : List Cl) (x : Int) (c : Cl) : Int := if 0 ≤ x ∧ x ≤ (cs.length : Int) then putE k n cs x.toNat x.toNat c else 64
def setE (k : Int) (n : Nat) (cs : List Cl) (x : Int) (c : Cl) : Int := if 0 ≤ x ∧ x < (cs.length : Int) then putE k n cs x.toNat (x.toNat + 1) c else 64
theorem insert_any (w : World) (B a : Nat) (k : Int) (n : Nat) (vb vs : Value) (cs : List Cl) (x : Int) (ka : Option Addr) (kn kc : Nat) (kd : Int) (va : Option Addr) (vn vc : Nat) (pg ct : Int) (key val : List Int) (hp : Po w B a k n vb vs cs) (hn : n ≤ 65536) (hw : ∀ c ∈ cs, c.Wf) (hft : ∀ c ∈ cs, c.fit) (hz : szN cs ≤ n) (hk : Sl w ka kn kc key) (hv : Sl w va vn vc val) (hB : B ≤ w.heap.size) :
  Calls Tryz.prog 259 #[.pointer (some ⟨a, 0, none⟩), .int .i64 x, .agg #[.slice ka kn kc, .int .i64 kd, .slice va vn vc, .int .i64 pg, .int .i64 ct]] w (PuTo w B a k n vb vs cs (cs.take x.toNat ++ [⟨key, kd, val, pg, ct⟩] ++ cs.drop x.toNat) (insE k n cs x ⟨key, kd, val, pg, ct⟩)) := by
 have hzc := zaq cs
 obtain ⟨bo, bc, rfl⟩ := hp.body.slice
 obtain ⟨so, sc, rfl⟩ := hp.starts.shape
 rw [zai] at hp ⊢
 obtain ⟨bl, hbl⟩ : ∃ bl, (bdy cs).length = bl := ⟨_, rfl⟩
 obtain ⟨sn, hsn⟩ : ∃ sn, cs.length = sn := ⟨_, rfl⟩
 rw [hbl, hsn] at hp
 rw [hbl, hsn]
 unfold insE
 rw [hsn]
 obtain ⟨y, hy⟩ : ∃ y, w.alloc (.cells #[.slice ka kn kc, .int .i64 kd, .slice va vn vc, .int .i64 pg, .int .i64 ct] 43) = y := ⟨_, rfl⟩
 have hby : Below w.heap.size w y := by rw [← hy]; exact zac Br Lr _
 obtain ⟨s, hs⟩ : ∃ s, w.heap.size = s := ⟨_, rfl⟩
 have HBOX : Hid (C5 y s (.slice ka kn kc) (.int .i64 kd) (.slice va vn vc) (.int .i64 pg) (.int .i64 ct)) := by rw [← hy, ← hs]; exact zaa (C5.box _ _ _ _ _ _)
 have hpy := hp.on hby
 have HL : Hid (Calls Tryz.prog 147 #[.pointer (some ⟨a, 0, none⟩)] y fun e w' => e = .returned (.int .i64 (sn : Int)) ∧ w' = y) := zaa (zcv y a k n _ so sn sc hpy.row)
 have HBY := zaa hby
 have HP := zaa hp
 obtain ⟨z0, z1, z2, z3, z4⟩ := HBOX.out.cells
 by_cases hx : 0 ≤ x ∧ x ≤ (sn : Int)
 ·rw [if_pos hx]
  obtain ⟨i, rfl⟩ : ∃ i : Nat, x = (i : Int) := ⟨x.toNat, by omega⟩
  rw [Int.toNat_natCast]
  by_cases hl : i = sn
  ·have hlI : (i : Int) = (sn : Int) := by omega
   rw [hlI]
   have hlN : i = sn := hl
   subst hl
   have HPT := zaa (put_any y B a k n _ _ cs i i ka kn kc kd va vn vc pg ct key val hpy (by omega) (by omega) hn hw hft hz (hk.on Lr hby) (hv.on Lr hby) (zN hB hby.size))
   generalize putE k n cs i i ⟨key, kd, val, pg, ct⟩ = R at *
   have hiI : (i : Int) ≤ 65536 := by omega
   clear hp hpy hk hv hby hw hft hzc hz hbl
   go_enter Tryz.func259, Tryz.ntmps259
   go_wp2_with (first | (go_at_call 147; refine zae HL.out ?_) | (go_at_call 268; refine HPT.out.mono ?_; rintro e w2 ⟨rfl, HP2, HC2⟩; refine Hid.out ?_))
   apply zaa
   clear HPT
   go_wp2
   go_ret
   refine ⟨rfl, zaa ?_, zaa ((Cf.of_below HBY.out).go HC2.out)⟩
   obtain ⟨vb', vs', p1, p2, p3⟩ := HP2.out
   exact ⟨vb', vs', p1, p2.imp id (fun ⟨q, h1, h2⟩ => ⟨q, h1, zN HBY.out.size h2⟩), p3.imp id (fun ⟨q, h1, h2⟩ => ⟨q, h1, zN HBY.out.size h2⟩)⟩
  ·have hlI : ¬ (i : Int) = (sn : Int) := by omega
   have HPT := zaa (put_any y B a k n _ _ cs i i ka kn kc kd va vn vc pg ct key val hpy (by omega) (by omega) hn hw hft hz (hk.on Lr hby) (hv.on Lr hby) (zN hB hby.size))
   have HH := zaa (zck y a k n _ so sn sc hpy.row (i : Int) true (by unfold hasP; simp; omega))
   generalize putE k n cs i i ⟨key, kd, val, pg, ct⟩ = R at *
   have hiI : (i : Int) ≤ 65536 := by omega
   clear hp hpy hk hv hby hw hft hzc hz hbl
   go_enter Tryz.func259, Tryz.ntmps259
   go_wp2_with (first | (go_at_call 147; refine zae HL.out ?_) | (go_at_call 264; refine zae HH.out ?_) | (go_at_call 268; refine HPT.out.mono ?_; rintro e w2 ⟨rfl, HP2, HC2⟩; refine Hid.out ?_))
   apply zaa
   clear HPT
   go_wp2
   go_ret
   refine ⟨rfl, zaa ?_, zaa ((Cf.of_below HBY.out).go HC2.out)⟩
   obtain ⟨vb', vs', p1, p2, p3⟩ := HP2.out
   exact ⟨vb', vs', p1, p2.imp id (fun ⟨q, h1, h2⟩ => ⟨q, h1, zN HBY.out.size h2⟩), p3.imp id (fun ⟨q, h1, h2⟩ => ⟨q, h1, zN HBY.out.size h2⟩)⟩
 ·rw [if_neg hx]
  have hxl : ¬ x = (sn : Int) := by omega
  have HH := zaa (zck y a k n _ so sn sc hpy.row x false (by unfold hasP; simp; omega))
  clear hp hpy hk hv hby hw hft hzc hz hbl
  go_enter Tryz.func259, Tryz.ntmps259
  go_wp2_with (first | (go_at_call 147; refine zae HL.out ?_) | (go_at_call 264; refine zae HH.out ?_))
  go_ret
  exact PuTo.same HP.out HBY.out (by decide)
theorem set_any (w : World) (B a : Nat) (k : Int) (n : Nat) (vb vs : Value) (cs : List Cl) (x : Int) (ka : Option Addr) (kn kc : Nat) (kd : Int) (va : Option Addr) (vn vc : Nat) (pg ct : Int) (key val : List Int) (hp : Po w B a k n vb vs cs) (hn : n ≤ 65536) (hw : ∀ c ∈ cs, c.Wf) (hft : ∀ c ∈ cs, c.fit) (hz : szN cs ≤ n) (hk : Sl w ka kn kc key) (hv : Sl w va vn vc val) (hB : B ≤ w.heap.size) :
  Calls Tryz.prog 262 #[.pointer (some ⟨a, 0, none⟩), .int .i64 x, .agg #[.slice ka kn kc, .int .i64 kd, .slice va vn vc, .int .i64 pg, .int .i64 ct]] w (PuTo w B a k n vb vs cs (cs.take x.toNat ++ [⟨key, kd, val, pg, ct⟩] ++ cs.drop (x.toNat + 1)) (setE k n cs x ⟨key, kd, val, pg, ct⟩)) := by
 have hzc := zaq cs
 obtain ⟨bo, bc, rfl⟩ := hp.body.slice
 obtain ⟨so, sc, rfl⟩ := hp.starts.shape
 rw [zai] at hp ⊢
 obtain ⟨bl, hbl⟩ : ∃ bl, (bdy cs).length = bl := ⟨_, rfl⟩
 obtain ⟨sn, hsn⟩ : ∃ sn, cs.length = sn := ⟨_, rfl⟩
 rw [hbl, hsn] at hp
 rw [hbl, hsn]
 unfold setE
 rw [hsn]
 obtain ⟨y, hy⟩ : ∃ y, w.alloc (.cells #[.slice ka kn kc, .int .i64 kd, .slice va vn vc, .int .i64 pg, .int .i64 ct] 43) = y := ⟨_, rfl⟩
 have hby : Below w.heap.size w y := by rw [← hy]; exact zac Br Lr _
 obtain ⟨s, hs⟩ : ∃ s, w.heap.size = s := ⟨_, rfl⟩
 have HBOX : Hid (C5 y s (.slice ka kn kc) (.int .i64 kd) (.slice va vn vc) (.int .i64 pg) (.int .i64 ct)) := by rw [← hy, ← hs]; exact zaa (C5.box _ _ _ _ _ _)
 have hpy := hp.on hby
 have HL : Hid (Calls Tryz.prog 147 #[.pointer (some ⟨a, 0, none⟩)] y fun e w' => e = .returned (.int .i64 (sn : Int)) ∧ w' = y) := zaa (zcv y a k n _ so sn sc hpy.row)
 have HBY := zaa hby
 have HP := zaa hp
 obtain ⟨z0, z1, z2, z3, z4⟩ := HBOX.out.cells
 by_cases hx : 0 ≤ x ∧ x < (sn : Int)
 ·rw [if_pos hx]
  obtain ⟨i, rfl⟩ : ∃ i : Nat, x = (i : Int) := ⟨x.toNat, by omega⟩
  rw [Int.toNat_natCast]
  have hi1 : ((i + 1 : Nat) : Int) = (i : Int) + 1 := by omega
  have HPT := zaa (put_any y B a k n _ _ cs i (i + 1) ka kn kc kd va vn vc pg ct key val hpy (by omega) (by omega) hn hw hft hz (hk.on Lr hby) (hv.on Lr hby) (zN hB hby.size))
  rw [hi1] at HPT
  have HH := zaa (zck y a k n _ so sn sc hpy.row (i : Int) true (by unfold hasP; simp; omega))
  generalize putE k n cs i (i + 1) ⟨key, kd, val, pg, ct⟩ = R at *
  have hiI : (i : Int) ≤ 65536 := by omega
  clear hp hpy hk hv hby hw hft hzc hz hbl
  go_enter Tryz.func262, Tryz.ntmps262
  go_wp2_with (first | (go_at_call 147; refine zae HL.out ?_) | (go_at_call 264; refine zae HH.out ?_) | (go_at_call 268; refine HPT.out.mono ?_; rintro e w2 ⟨rfl, HP2, HC2⟩; refine Hid.out ?_))
  apply zaa
  clear HPT
  go_wp2
  go_ret
  refine ⟨rfl, zaa ?_, zaa ((Cf.of_below HBY.out).go HC2.out)⟩
  obtain ⟨vb', vs', p1, p2, p3⟩ := HP2.out
  exact ⟨vb', vs', p1, p2.imp id (fun ⟨q, h1, h2⟩ => ⟨q, h1, zN HBY.out.size h2⟩), p3.imp id (fun ⟨q, h1, h2⟩ => ⟨q, h1, zN HBY.out.size h2⟩)⟩
 ·rw [if_neg hx]
  have HH := zaa (zck y a k n _ so sn sc hpy.row x false (by unfold hasP; simp; omega))
  clear hp hpy hk hv hby hw hft hzc hz hbl
  go_enter Tryz.func262, Tryz.ntmps262
  go_wp2_with (go_at_call 264; refine zae HH.out ?_)
  go_ret
  exact PuTo.same HP.out HBY.out (by decide)
theorem remove_any (w : World) (B a : Nat) (k : Int) (n : Nat) (vb vs : Value) (cs : List Cl) (x : Int) (hp : Po w B a k n vb vs cs) (hn : n ≤ 65536) (hz : szN cs ≤ n) (hB : B ≤ w.heap.size) :
  Calls Tryz.prog 261 #[.pointer (some ⟨a, 0, none⟩), .int .i64 x] w (PuTo w B a k n vb vs cs (cs.take x.toNat ++ cs.drop (x.toNat + 1)) (remE cs x)) := by
 have hzc := zaq cs
 obtain ⟨bo, bc, rfl⟩ := hp.body.slice
 obtain ⟨so, sc, rfl⟩ := hp.starts.shape
 rw [zai] at hp ⊢
 obtain ⟨bl, hbl⟩ : ∃ bl, (bdy cs).length = bl := ⟨_, rfl⟩
 obtain ⟨sn, hsn⟩ : ∃ sn, cs.length = sn := ⟨_, rfl⟩
 rw [hbl, hsn] at hp
 rw [hbl, hsn]
 unfold remE
 rw [hsn]
 have HP := zaa hp
 by_cases hx : 0 ≤ x ∧ x < (sn : Int)
 ·rw [if_pos hx]
  obtain ⟨i, rfl⟩ : ∃ i : Nat, x = (i : Int) := ⟨x.toNat, by omega⟩
  rw [Int.toNat_natCast]
  have hi1 : ((i + 1 : Nat) : Int) = (i : Int) + 1 := by omega
  have HH := zaa (zck w a k n _ so sn sc hp.row (i : Int) true (by unfold hasP; simp; omega))
  have HRP := zaa (replace_any w B a k n _ _ cs i (i + 1) none 0 0 [] hp (by omega) (by omega) ⟨rfl, Lr, by omega, fun _ => rfl, .inl rfl⟩ (fun c hc => by cases hc) (by omega) (by simp [szN]) (.inl (by omega)) hB)
  rw [hi1] at HRP
  have hiI : (i : Int) ≤ 65536 := by omega
  clear hp hzc hz hbl
  go_enter Tryz.func261, Tryz.ntmps261
  go_wp2_with (first | (go_at_call 264; refine zae HH.out ?_) | (go_at_call 145; refine HRP.out.mono ?_; rintro e w2 ⟨rfl, HP2, HC2⟩; refine Hid.out ?_))
  apply zaa
  clear HRP
  go_wp2
  go_ret
  refine ⟨rfl, zaa ?_, HC2⟩
  obtain ⟨vb', vs', p1, p2, p3⟩ := HP2.out
  exact ⟨vb', vs', by simpa using p1, p2, p3⟩
 ·rw [if_neg hx]
  have HH := zaa (zck w a k n _ so sn sc hp.row x false (by unfold hasP; simp; omega))
  clear hp hzc hz hbl
  go_enter Tryz.func261, Tryz.ntmps261
  go_wp2_with (go_at_call 264; refine zae HH.out ?_)
  go_ret
  exact PuTo.same HP.out Br (by decide)
def risL (cs : List Cl) : Prop := ∀ t, t + 1 < cs.length → kl (kyL cs t) (kyL cs (t + 1))
def zbb (cs : List Cl) (i j : Nat) (c : Cl) : List Cl := cs.take i ++ [c] ++ cs.drop j
theorem withL_len {cs : List Cl} {i j : Nat} {c : Cl} (hi : i ≤ cs.length) (hj : j ≤ cs.length) : (zbb cs i j c).length = i + 1 + (cs.length - j) := by
 unfold zbb
 simp
 omega
theorem kyL_lo {cs : List Cl} {i j t : Nat} {c : Cl} (hi : i ≤ cs.length) (ht : t < i) : kyL (zbb cs i j c) t = kyL cs t := by
 unfold kyL zbb
 rw [zM, zL (by simp; omega), List.getElem?_take, if_pos ht]
theorem kyL_mid {cs : List Cl} {i j : Nat} {c : Cl} (hi : i ≤ cs.length) : kyL (zbb cs i j c) i = c.key := by
 unfold kyL zbb
 rw [zM, List.getElem?_append_right (by simp; omega)]
 simp [Nat.min_eq_left hi]
theorem kyL_hi {cs : List Cl} {i j t : Nat} {c : Cl} (hi : i ≤ cs.length) : kyL (zbb cs i j c) (i + 1 + t) = kyL cs (j + t) := by
 unfold kyL zbb
 rw [List.getElem?_append_right (by simp; omega)]
 simp only [zG, zJ, List.length_singleton, Nat.min_eq_left hi, List.getElem?_drop]
 rw [show i + 1 + t - (i + 1) = t by omega]
theorem risL_with {cs : List Cl} {i j : Nat} {c : Cl} (hr : risL cs) (hij : i ≤ j) (hj : j ≤ cs.length) : risL (zbb cs i j c) ↔ ¬ badO cs i j c.key := by
 have hi : i ≤ cs.length := by omega
 unfold badO
 constructor
 ·intro h hb
  rcases hb with ⟨h0, h1⟩ | ⟨h0, h1⟩
  ·have := h (i - 1) (by rw [withL_len hi hj]; omega)
   rw [kyL_lo hi (by omega), show i - 1 + 1 = i by omega, kyL_mid hi] at this
   exact h1 this
  ·have := h i (by rw [withL_len hi hj]; omega)
   have e := kyL_hi (j := j) (c := c) (t := 0) hi
   rw [kyL_mid hi, show i + 1 = i + 1 + 0 by omega, e, Nat.add_zero] at this
   exact h1 this
 ·intro hb t ht
  rw [withL_len hi hj] at ht
  rcases Nat.lt_trichotomy (t + 1) i with h | h | h
  ·rw [kyL_lo hi (by omega), kyL_lo hi h]
   exact hr t (by omega)
  ·rw [kyL_lo hi (by omega), h, kyL_mid hi]
   by_cases hk : kl (kyL cs (i - 1)) c.key
   ·rw [show t = i - 1 by omega]; exact hk
   ·exact absurd (.inl ⟨by omega, hk⟩) hb
  ·rcases Nat.lt_or_ge i t with h' | h'
   ·obtain ⟨z, rfl⟩ : ∃ z, t = i + 1 + z := ⟨t - (i + 1), by omega⟩
    rw [kyL_hi hi, show i + 1 + z + 1 = i + 1 + (z + 1) by omega, kyL_hi hi]
    exact hr (j + z) (by omega)
   ·obtain rfl : t = i := by omega
    have e := kyL_hi (j := j) (c := c) (t := 0) hi
    rw [kyL_mid hi, show t + 1 = t + 1 + 0 by omega, e, Nat.add_zero]
    by_cases hk : kl c.key (kyL cs j)
    ·exact hk
    ·exact absurd (.inr ⟨by omega, hk⟩) hb
theorem putE_may {k : Int} {n : Nat} {cs : List Cl} {i j : Nat} {c : Cl} (h : ¬ mayP k n c) : putE k n cs i j c = 62 := by
 unfold putE
 rw [if_pos h]
theorem putE_ord {k : Int} {n : Nat} {cs : List Cl} {i j : Nat} {c : Cl} (hr : risL cs) (hij : i ≤ j) (hj : j ≤ cs.length) (h1 : mayP k n c) (h2 : ¬ risL (zbb cs i j c)) : putE k n cs i j c = 63 := by
 have hb : badO cs i j c.key := Classical.byContradiction fun h => h2 ((risL_with hr hij hj).2 h)
 unfold badO at hb
 unfold putE
 rw [if_neg (fun h => h h1), if_pos hb]
theorem risL_put {k : Int} {n : Nat} {cs : List Cl} {i j : Nat} {c : Cl} (hr : risL cs) (hij : i ≤ j) (hj : j ≤ cs.length) (h0 : putE k n cs i j c = 0) : risL (zbb cs i j c) := by
 by_cases h1 : mayP k n c
 ·by_cases h2 : risL (zbb cs i j c)
  ·exact h2
  ·rw [putE_ord hr hij hj h1 h2] at h0
   simp at h0
 ·rw [putE_may h1] at h0
  simp at h0
theorem risL_rem {cs : List Cl} {i : Nat} (hk : ∀ a b c : List Int, kl a b → kl b c → kl a c) (hr : risL cs) (hi : i < cs.length) : risL (cs.take i ++ cs.drop (i + 1)) := by
 have hlo : ∀ t, t < i → kyL (cs.take i ++ cs.drop (i + 1)) t = kyL cs t := fun t ht => by
  unfold kyL
  rw [zL (by simp; omega), List.getElem?_take, if_pos ht]
 have hhi : ∀ t, kyL (cs.take i ++ cs.drop (i + 1)) (i + t) = kyL cs (i + 1 + t) := fun t => by
  unfold kyL
  rw [List.getElem?_append_right (by simp; omega)]
  simp only [zJ, Nat.min_eq_left (Nat.le_of_lt hi), List.getElem?_drop]
  rw [show i + t - i = t by omega]
 intro t ht
 simp at ht
 rcases Nat.lt_trichotomy (t + 1) i with h | h | h
 ·rw [hlo t (by omega), hlo (t + 1) h]
  exact hr t (by omega)
 ·have e : kyL (cs.take i ++ cs.drop (i + 1)) i = kyL cs (i + 1) := hhi 0
  rw [hlo t (by omega), h, e]
  refine hk _ _ _ (hr t (by omega)) ?_
  rw [h]
  exact hr i (by omega)
 ·obtain ⟨z, rfl⟩ : ∃ z, t = i + z := ⟨t - i, by omega⟩
  rw [hhi z, show i + z + 1 = i + (z + 1) by omega, hhi (z + 1)]
  exact hr (i + 1 + z) (by omega)
def CelTo (c : Cl) (E : Int) (w : World) (e : Ending) (w' : World) : Prop :=
 ∃ ao a2 bo b2, e = .returned (.tuple #[.agg #[.slice ao c.key.length a2, .int .i64 c.kd, .slice bo c.val.length b2, .int .i64 c.pg, .int .i64 c.ct], .int .i64 E]) ∧ Hid (OwnB w' w.heap.size (.slice ao c.key.length a2) c.key ∧ OwnB w' w.heap.size (.slice bo c.val.length b2) c.val) ∧ Hid (Below w.heap.size w w')
def cntL (cs : List Cl) (q : List Int) : Nat := cs.countP (fun c => decide (kl c.key q))
theorem Fnd.cnt {cs : List Cl} {q : List Int} {r : Nat} (h : Fnd cs q r) : cntL cs q = r := by
 have hle := h.le
 unfold cntL
 rw [← List.take_append_drop r cs, List.countP_append]
 have h1 : (cs.take r).countP (fun c => decide (kl c.key q)) = (cs.take r).length := by
  rw [List.countP_eq_length]
  intro c hc
  obtain ⟨i, hi⟩ := List.getElem?_of_mem hc
  rw [List.getElem?_take] at hi
  split at hi
  ·rename_i hir
   exact decide_eq_true (h.lo i c hir hi)
  ·simp at hi
 have h2 : (cs.drop r).countP (fun c => decide (kl c.key q)) = 0 := by
  rw [List.countP_eq_zero]
  intro c hc
  obtain ⟨i, hi⟩ := List.getElem?_of_mem hc
  rw [List.getElem?_drop] at hi
  have := h.hi (r + i) c (by omega) hi
  simpa using this
 rw [h1, h2]
 simp
 omega
def isL (cs : List Cl) (q : List Int) : Bool := decide (cntL cs q < cs.length) && decide (kyL cs (cntL cs q) = q)
theorem FindTo.cnt {cs : List Cl} {q : List Int} {w w' : World} {e : Ending} (h : FindTo cs q w e w') : e = .returned (.tuple #[.int .i64 (cntL cs q : Int), .bool (isL cs q)]) ∧ Hid (Below w.heap.size w w') := by
 obtain ⟨r, is, rfl, hb, hf⟩ := h
 have hc := hf.out.1.cnt
 refine ⟨?_, hb⟩
 have hi : is = isL cs q := by
  rw [Bool.eq_iff_iff, hf.out.2]
  unfold isL
  rw [hc, Bool.and_eq_true, zQ, zQ]
  constructor
  ·rintro ⟨c, h1, h2⟩
   exact ⟨(zH.1 h1).1, by rw [kyL_at h1]; exact h2⟩
  ·rintro ⟨h1, h2⟩
   refine ⟨cs[r]'h1, zI h1, ?_⟩
   rw [← h2, kyL_at (zI h1)]
 rw [hc, hi]
structure PgOk (k : Int) (n : Nat) (cs : List Cl) : Prop where
 kd : isKd k
 sz : pw n
 may : ∀ c ∈ cs, mayP k n c
 ris : risL cs
 size : szN cs ≤ n
 wf : ∀ c ∈ cs, c.Wf
theorem PgOk.nil {k : Int} {n : Nat} (hk : isKd k) (hn : pw n) : PgOk k n [] :=
 ⟨hk, hn, fun c hc => (by simp at hc), fun t ht => (by simp at ht), by have := zak hn; unfold szN; simp; omega, fun c hc => (by simp at hc)⟩
theorem mem_withL {cs : List Cl} {i j : Nat} {c d : Cl} (h : d ∈ zbb cs i j c) : d = c ∨ d ∈ cs := by
 unfold zbb at h
 simp only [List.mem_append, List.mem_singleton] at h
 rcases h with (h | h) | h
 ·exact .inr (List.mem_of_mem_take h)
 ·exact .inl h
 ·exact .inr (List.mem_of_mem_drop h)
theorem putE_zero {k : Int} {n : Nat} {cs : List Cl} {i j : Nat} {c : Cl} (h0 : putE k n cs i j c = 0) : mayP k n c ∧ szN (zbb cs i j c) ≤ n := by
 unfold putE at h0
 split at h0
 ·simp at h0
 ·rename_i h1
  split at h0
  ·simp at h0
  ·split at h0
   ·simp at h0
   ·rename_i h3
    exact ⟨Classical.byContradiction h1, by unfold zbb; omega⟩
theorem PgOk.put {k : Int} {n : Nat} {cs : List Cl} {i j : Nat} {c : Cl} (h : PgOk k n cs) (hij : i ≤ j) (hj : j ≤ cs.length) (hc : c.Wf) (h0 : putE k n cs i j c = 0) : PgOk k n (zbb cs i j c) := by
 obtain ⟨h1, h2⟩ := putE_zero h0
 refine ⟨h.kd, h.sz, fun d hd => ?_, risL_put h.ris hij hj h0, h2, fun d hd => ?_⟩
 ·rcases mem_withL hd with rfl | hd
  ·exact h1
  ·exact h.may d hd
 ·rcases mem_withL hd with rfl | hd
  ·exact hc
  ·exact h.wf d hd
theorem PgOk.rem {k : Int} {n : Nat} {cs : List Cl} {i : Nat} (h : PgOk k n cs) (hi : i < cs.length) : PgOk k n (cs.take i ++ cs.drop (i + 1)) := by
 have hm : ∀ d ∈ cs.take i ++ cs.drop (i + 1), d ∈ cs := fun d hd => by
  rcases List.mem_append.1 hd with hd | hd
  ·exact List.mem_of_mem_take hd
  ·exact List.mem_of_mem_drop hd
 refine ⟨h.kd, h.sz, fun d hd => h.may d (hm d hd), risL_rem zce h.ris hi, ?_, fun d hd => h.wf d (hm d hd)⟩
 have hs : (cs.take i ++ cs.drop (i + 1)).Sublist cs := by
  conv => rhs; rw [← List.take_append_drop i cs]
  exact (List.Sublist.refl _).append (by rw [← List.drop_drop]; exact List.drop_sublist _ _)
 exact zN (szN_sub hs) h.size
theorem PgOk.len {k : Int} {n : Nat} {cs : List Cl} (h : PgOk k n cs) : cs.length ≤ 65536 := by
 have h1 := zaq cs
 have h2 := h.size
 have h3 := zak h.sz
 omega
theorem PgOk.fit {k : Int} {n : Nat} {cs : List Cl} (h : PgOk k n cs) : ∀ c ∈ cs, c.fit := fun c hc => (h.may c hc).fit (by have := zak h.sz; omega)
theorem chk_ok {k p : Int} : ∀ {pr : Option (List Int)} {cs : List Cl}, (∀ c ∈ cs, mayP k p c) → risL cs → (∀ c, cs[0]? = some c → zat pr c.key) → chk k p pr cs = 0
 | _, [], _, _, _ => rfl
 | pr, c :: r, hm, hr, h0 => by
  unfold chk
  rw [if_pos (hm c (by simp)), if_pos (h0 c rfl)]
  refine chk_ok (fun d hd => hm d (by simp [hd])) (fun t ht => ?_) (fun d hd => ?_)
  ·exact hr (t + 1) (by simp; omega)
  ·have := hr 0 (by
    have := (zH.1 hd).1
    simp
    omega)
   have e : kyL (c :: r) 1 = d.key := kyL_at (by simpa using hd)
   have e0 : kyL (c :: r) 0 = c.key := kyL_at rfl
   rw [e0] at this
   rw [show (0 : Nat) + 1 = 1 from rfl, e] at this
   exact this
theorem PgOk.chk {k : Int} {n : Nat} {cs : List Cl} (h : PgOk k n cs) : chk k n none cs = 0 := chk_ok h.may h.ris (fun _ _ => trivial)
theorem Po.sl {w : World} {B a : Nat} {k : Int} {n : Nat} {vb vs : Value} {cs : List Cl} (h : Po w B a k n vb vs cs) : ∃ bo bc so sc, vb = .slice bo (bdy cs).length bc ∧ vs = .slice so cs.length sc := by
 obtain ⟨bo, bc, e1⟩ := h.body.slice
 obtain ⟨so, sc, e2⟩ := h.starts.shape
 rw [zai] at e2
 exact ⟨bo, bc, so, sc, e1, e2⟩
theorem PgOk.at {w : World} {B a : Nat} {k : Int} {n : Nat} {bo so : Option Addr} {bn bc sn sc : Nat} {cs : List Cl} (g : PgOk k n cs) (h : Po w B a k n (.slice bo bn bc) (.slice so sn sc) cs) : PgAt w a k n bo bn bc so sn sc cs := h.pg g.wf (by have := g.size; have := zak g.sz; omega)
theorem lenO_any (w : World) (B a : Nat) (k : Int) (n : Nat) (vb vs : Value) (cs : List Cl) (h : Po w B a k n vb vs cs) :
  Calls Tryz.prog 147 #[.pointer (some ⟨a, 0, none⟩)] w fun e w' => e = .returned (.int .i64 (cs.length : Int)) ∧ w' = w := by
 obtain ⟨bo, bc, so, sc, rfl, rfl⟩ := h.sl
 exact zcv w a k n _ so cs.length sc h.row
theorem usedO_any (w : World) (B a : Nat) (k : Int) (n : Nat) (vb vs : Value) (cs : List Cl) (h : Po w B a k n vb vs cs) (g : PgOk k n cs) :
  Calls Tryz.prog 263 #[.pointer (some ⟨a, 0, none⟩)] w fun e w' => e = .returned (.int .i64 (szN cs : Int)) ∧ Hid (Below w.heap.size w w') := by
 obtain ⟨bo, bc, so, sc, rfl, rfl⟩ := h.sl
 have hz := zaq cs
 have hs := g.size
 have hp := zak g.sz
 refine (used_row w a k n bo (bdy cs).length bc so cs.length sc h.row (by omega) (by omega)).mono ?_
 rintro e w' ⟨rfl, q, rfl⟩
 rw [hz]
 exact ⟨rfl, zaa (zad Br _)⟩
theorem findO_any (w : World) (B a : Nat) (k : Int) (n : Nat) (vb vs : Value) (cs : List Cl) (h : Po w B a k n vb vs cs) (g : PgOk k n cs) (qo : Option Addr) (qn qc : Nat) (q : List Int) (hq : Sl w qo qn qc q) :
  Calls Tryz.prog 258 #[.pointer (some ⟨a, 0, none⟩), .slice qo qn qc] w fun e w' => e = .returned (.tuple #[.int .i64 (cntL cs q : Int), .bool (isL cs q)]) ∧ Hid (Below w.heap.size w w') := by
 obtain ⟨bo, bc, so, sc, rfl, rfl⟩ := h.sl
 have hp := zak g.sz
 exact (find_any w a k n bo _ bc so _ sc cs (g.at h) g.chk (by omega) g.size qo qn qc q hq).mono fun e w' h => h.cnt
def cB8 : Cl := ⟨[98], 1, [120], 0, 0⟩
def cA8 : Cl := ⟨[97], 1, [121], 0, 0⟩
theorem cB8_may : mayP 2 512 cB8 := by decide
theorem cA8_may : mayP 2 512 cA8 := by decide
theorem c8_wf : ∀ c ∈ [cA8, cB8], c.Wf := by
 intro c hc
 simp only [List.mem_cons, List.not_mem_nil, or_false] at hc
 rcases hc with rfl | rfl
 ·exact ⟨Wf.cons (by omega) Wf.nil, Wf.cons (by omega) Wf.nil⟩
 ·exact ⟨Wf.cons (by omega) Wf.nil, Wf.cons (by omega) Wf.nil⟩
theorem c8_fit : ∀ c ∈ [cA8, cB8], c.fit := by
 intro c hc
 simp only [List.mem_cons, List.not_mem_nil, or_false] at hc
 rcases hc with rfl | rfl
 ·exact cA8_may.fit (by omega)
 ·exact cB8_may.fit (by omega)
theorem c8_sz : szN [cA8, cB8] = 26 := by decide
theorem c8_chk : chk 2 512 none [cA8, cB8] = 0 := by decide
theorem c8_ins1 : insE 2 512 [] 0 cB8 = 0 := by decide
theorem c8_ins2 : insE 2 512 [cB8] 0 cA8 = 0 := by decide
theorem c8_fnd (r : Nat) (h : Fnd [cA8, cB8] [98] r) : r = 1 := by
 have h1 := h.le
 simp at h1
 rcases Nat.lt_or_ge r 1 with h0 | h0
 ·exact absurd (by decide) (h.hi 0 cA8 (by omega) rfl)
 ·rcases Nat.lt_or_ge 1 r with h2 | h2
  ·exact absurd (h.lo 1 cB8 h2 rfl) (by decide)
  ·omega
def p8 : List Int := pgB 2 512 [cA8, cB8]
theorem p8_is : Is 2 512 [cA8, cB8] p8 := ⟨isKd2, pw512, c8_chk, by rw [c8_sz]; decide, rfl⟩
theorem p8_len : p8.length = 512 := pgB_length 2 512 _ (by rw [c8_sz]; decide)
theorem p8_wf : Wf p8 := pgB_wf (by omega) c8_wf
theorem p8_kd : p8.getD 0 0 = 2 := (readM_of p8_is).2.2
theorem p8_one (cs : List Cl) (h : Is (p8.getD 0 0) p8.length cs p8) : cs = [cA8, cB8] := (h.one p8_is).2.2
theorem p8_eg : egO p8 = 1 := by
 unfold egO
 rw [p8_len, if_neg (by omega)]
 obtain ⟨U, _, h⟩ := pgB_split 2 512 [cA8, cB8]
 rw [show p8 = pgB 2 512 [cA8, cB8] from rfl, h]
 rfl
structure S8 (w u : World) (a b : Nat) (cs : List Cl) : Prop where
 be : Below w.heap.size w u
 po : ∃ vb vs, Po u w.heap.size a 2 512 vb vs cs ∧ vb.ownBlock ≠ some b ∧ vs.ownBlock ≠ some b
 qr : QR u b 2 512 (.slice none 0 0) (.slice none 0 0) (.slice none 0 0) 0
 hab : a ≠ b
 ha : w.heap.size ≤ a
 hb : w.heap.size ≤ b
theorem S8.on {w u u' : World} {a b : Nat} {cs : List Cl} (h : S8 w u a b cs) (hb : Below u.heap.size u u') : S8 w u' a b cs := by
 obtain ⟨vb, vs, h1, h2, h3⟩ := h.po
 exact ⟨zab h.be Lr hb, ⟨vb, vs, h1.on hb, h2, h3⟩, zaf h.qr hb, h.hab, h.ha, h.hb⟩
theorem Po.zone {w : World} {B a : Nat} {k : Int} {n : Nat} {vb vs : Value} {cs : List Cl} (h : Po w B a k n vb vs cs) (ha : B ≤ a) {i : Nat} (hi : PZ a vb vs i) : B ≤ i := by
 rcases hi with rfl | e | e
 ·exact ha
 ·have := h.body
  unfold OwnB at this
  exact (this.lt i e).1
 ·have := h.starts
  unfold OwnN at this
  exact (this.lt i e).1
theorem S8.ins {w u : World} {a b : Nat} {cs : List Cl} (h : S8 w u a b cs) (c : Cl) (ka va : Option Addr) (kc vc : Nat) (hk : Sl u ka c.key.length kc c.key) (hv : Sl u va c.val.length vc c.val) (hw : ∀ c ∈ cs, c.Wf) (hft : ∀ c ∈ cs, c.fit) (hz : szN cs ≤ 512) (h0 : insE 2 512 cs 0 c = 0) :
  Calls Tryz.prog 259 #[.pointer (some ⟨a, 0, none⟩), .int .i64 0, .agg #[.slice ka c.key.length kc, .int .i64 c.kd, .slice va c.val.length vc, .int .i64 c.pg, .int .i64 c.ct]] u fun e w' => e = .returned (.int .i64 0) ∧ Hid (S8 w w' a b (c :: cs)) := by
 obtain ⟨vb, vs, h1, h2, h3⟩ := h.po
 refine (insert_any u w.heap.size a 2 512 vb vs cs 0 ka _ kc c.kd va _ vc c.pg c.ct c.key c.val h1 (by omega) hw hft hz hk hv h.be.size).mono ?_
 rintro e w' ⟨rfl, HP, HC⟩
 have e0 : insE 2 512 cs 0 ⟨c.key, c.kd, c.val, c.pg, c.ct⟩ = 0 := h0
 rw [e0] at HP ⊢
 obtain ⟨vb', vs', q1, q2, q3⟩ := HP.out
 have hc := HC.out
 have hbl := zah h.qr
 refine ⟨rfl, zaa ⟨h.be.trans (hc.below h.be.size (fun i hi e => ?_)), ⟨vb', vs', ?_, ?_, ?_⟩, ?_, h.hab, h.ha, h.hb⟩⟩
 ·have := h1.zone h.ha e
  omega
 ·simpa using q1
 ·rcases q2 with q | ⟨g, q, hg⟩
  ·rw [q]; exact h2
  ·rw [q]; intro e; injection e with e; omega
 ·rcases q3 with q | ⟨g, q, hg⟩
  ·rw [q]; exact h3
  ·rw [q]; intro e; injection e with e; omega
 ·refine (hc.block b hbl ?_).trans h.qr
  rintro (e | e | e)
  ·exact h.hab e.symm
  ·exact h2 e
  ·exact h3 e
theorem putQ_new (w : World) (B a : Nat) (k : Int) (n : Nat) (hPO : PO w B a k n none 0 0 (.slice none 0 0) (.slice none 0 0) 0 [] [] []) (hB : B ≤ w.heap.size) (hk3 : ¬ k = 3)
  (c : Cl) (ka va : Option Addr) (kc vc : Nat) (hk : Sl w ka c.key.length kc c.key) (hv : Sl w va c.val.length vc c.val) (hm : mayP k n c) (hn : pw n) (hfit : 12 + (qB 0 c).length ≤ n) :
  Calls Tryz.prog 281 #[.pointer (some ⟨a, 0, none⟩), .int .i64 0, .int .i64 0, .agg #[.slice ka c.key.length kc, .int .i64 c.kd, .slice va c.val.length vc, .int .i64 c.pg, .int .i64 c.ct]] w
   (QuTo w B a k n none 0 0 (.slice none 0 0) (.slice none 0 0) 0 [] (qB 0 c) [0] (.int .i64 0)) := by
 have hn2 := zak hn
 have hcf : c.fit := hm.fit (by omega)
 have hck := hcf.key
 have hcv := hcf.val
 have hpg0 : PgQ w a k n none 0 0 none 0 0 none 0 0 0 [] [] [] := hPO.pgq Wf.nil (by simp) (by simp)
 obtain ⟨x, hx⟩ : ∃ x, w.alloc (.cells #[.slice ka c.key.length kc, .int .i64 c.kd, .slice va c.val.length vc, .int .i64 c.pg, .int .i64 c.ct] 43) = x := ⟨_, rfl⟩
 have hbx : Below w.heap.size w x := by rw [← hx]; exact zac Br Lr _
 obtain ⟨s, hs⟩ : ∃ s, w.heap.size = s := ⟨_, rfl⟩
 have hc5 : C5 x s (.slice ka c.key.length kc) (.int .i64 c.kd) (.slice va c.val.length vc) (.int .i64 c.pg) (.int .i64 c.ct) := by rw [← hx, ← hs]; exact C5.box _ _ _ _ _ _
 have HMB := zaa (fun u => zcu k (n : Int) ka c.key.length kc c.kd va c.val.length vc c.pg c.ct u (by omega) (by omega) (by omega) (by omega))
 rw [decide_eq_true ((zch k n c).2 hm)] at HMB
 have HU : Hid (∀ u, Below x.heap.size x u → PgQ u a k n none 0 0 none 0 0 none 0 0 0 [] [] [] ∧ C5 u s (.slice ka c.key.length kc) (.int .i64 c.kd) (.slice va c.val.length vc) (.int .i64 c.pg) (.int .i64 c.ct) ∧ Sl u ka c.key.length kc c.key ∧ Sl u va c.val.length vc c.val ∧ Below w.heap.size w u) := zaa fun u hu => by
  have hb := zab hbx Lr hu
  exact ⟨hpg0.on hb, zaf hc5 hu, hk.on Lr hb, hv.on Lr hb, hb⟩
 have HIN : Hid (∀ u, Below w.heap.size w u → Calls Tryz.prog 291 #[.pointer (some ⟨a, 0, none⟩), .int .i64 0, .int .i64 0, .agg #[.slice ka c.key.length kc, .int .i64 c.kd, .slice va c.val.length vc, .int .i64 c.pg, .int .i64 c.ct]] u (QuTo u B a k n none 0 0 (.slice none 0 0) (.slice none 0 0) 0 [] (qB 0 c) [0] (.bool true))) := zaa fun u hu =>
  inPlace_ins u B a k n none 0 0 none 0 0 none 0 0 0 [] [] [] (hPO.go hu) (by omega) (by omega) (zN hB hu.size) 0 (by omega) Lr (by omega) c ka va kc vc (hk.on Lr hu) (hv.on Lr hu) (.inr fun p hp => (by simp [Value.ownBlock])) (.inr fun p hp => (by simp [Value.ownBlock])) (by omega) (by omega) rfl (.inl rfl) (by simp; omega)
 obtain ⟨p0, p1, p2, p3, p4, p5⟩ := (hpg0.on hbx).cells
 obtain ⟨z0, z1, z2, z3, z4⟩ := hc5.cells
 have HSW := zaa hs
 clear hPO hk hv hm hn hfit hpg0 hcf hbx hc5 hck hcv hn2
 go_enter Tryz.func281, Tryz.ntmps281
 go_upto_region 1 with fail
 go_cut [20] from 10 to 20 (fun v u => v = .bool false ∧ Hid (Below x.heap.size x u))
 case first =>
  go_wp2_with fail
  go_region_with (first | (go_at_call 143; refine (HMB.out _).mono ?_; rintro e w2 ⟨rfl, hb2⟩; have HB2 : Hid (Below x.heap.size x w2) := zaa (by first | exact hb2 | exact zab Br.drew Lr hb2 | exact zab (zad Br _) Lr hb2)))
  all_goals (try go_wp2_with fail)
  all_goals go_meet
  all_goals exact ⟨by simp, by first | exact HB2 | exact zaa HB2.out.drew | exact zaa (zad HB2.out _)⟩
 obtain ⟨rfl, HB2⟩ := hcut
 obtain ⟨w2, hw2⟩ : ∃ w2, w2 = wc := ⟨_, rfl⟩
 subst hw2
 clear p0 p1 p2 p3 p4 p5 z0 z1 z2 z3 z4 HMB hx
 obtain ⟨hpg2, hc52, hk2, hv2, hb2⟩ := HU.out w2 HB2.out
 obtain ⟨z0, z1, z2, z3, z4⟩ := hc52.cells
 have HAG := zaa (against_any w2 a k n none 0 0 _ _ 0 [] hpg2.row hpg2.pre ka c.key.length kc c.key hk2)
 clear hpg2 hc52 hk2 hv2 hb2
 go_wp2_with (go_at_call 280; refine HAG.out.mono ?_; rintro e w3 ⟨b1, b2, b3, b4, ro, rn, rc, b, rfl, HA3, HB3⟩; refine Hid.out ?_)
 apply zaa
 have HX3 : Hid (Below x.heap.size x w3) := zaa (zab HB2.out Lr HB3.out)
 clear z0 z1 z2 z3 z4 HAG
 obtain ⟨hpg3, hc53, hk3', hv3, hb3⟩ := HU.out w3 HX3.out
 obtain ⟨z0, z1, z2, z3, z4⟩ := hc53.cells
 have HLN := zaa (zbl w3 a k n none 0 0 none 0 0 none 0 0 0 [] [] [] hpg3)
 have HIP := zaa (HIN.out w3 hb3)
 have HBW := zaa hb3
 clear hpg3 hc53 hk3' hv3 hb3 HU HIN
 go_wp2_with (first
  | (go_at_call 159; refine zae HLN.out ?_)
  | (go_at_call 291; refine HIP.out.mono ?_; rintro e w4 ⟨rfl, HP4, HC4⟩; refine Hid.out ?_))
 apply zaa
 go_wp2
 go_ret
 obtain ⟨vb', vs', q1, qf, q2, q3⟩ := HP4.out
 exact ⟨rfl, zaa ⟨vb', vs', q1, qf, q2.imp id (fun ⟨g, h1, h2⟩ => ⟨g, h1, zN HBW.out.size h2⟩), q3.imp id (fun ⟨g, h1, h2⟩ => ⟨g, h1, zN HBW.out.size h2⟩)⟩, zaa ((Cf.of_below HBW.out).go HC4.out)⟩
theorem insertQ_new (w : World) (B a : Nat) (k : Int) (n : Nat) (hPO : PO w B a k n none 0 0 (.slice none 0 0) (.slice none 0 0) 0 [] [] []) (hB : B ≤ w.heap.size) (hk3 : ¬ k = 3)
  (c : Cl) (ka va : Option Addr) (kc vc : Nat) (hk : Sl w ka c.key.length kc c.key) (hv : Sl w va c.val.length vc c.val) (hm : mayP k n c) (hn : pw n) (hfit : 12 + (qB 0 c).length ≤ n) :
  Calls Tryz.prog 272 #[.pointer (some ⟨a, 0, none⟩), .int .i64 0, .agg #[.slice ka c.key.length kc, .int .i64 c.kd, .slice va c.val.length vc, .int .i64 c.pg, .int .i64 c.ct]] w
   (QuTo w B a k n none 0 0 (.slice none 0 0) (.slice none 0 0) 0 [] (qB 0 c) [0] (.int .i64 0)) := by
 obtain ⟨x, hx⟩ : ∃ x, w.alloc (.cells #[.slice ka c.key.length kc, .int .i64 c.kd, .slice va c.val.length vc, .int .i64 c.pg, .int .i64 c.ct] 43) = x := ⟨_, rfl⟩
 have hbx : Below w.heap.size w x := by rw [← hx]; exact zac Br Lr _
 have hc5 : C5 x w.heap.size (.slice ka c.key.length kc) (.int .i64 c.kd) (.slice va c.val.length vc) (.int .i64 c.pg) (.int .i64 c.ct) := by rw [← hx]; exact C5.box _ _ _ _ _ _
 obtain ⟨z0, z1, z2, z3, z4⟩ := hc5.cells
 have HPT := zaa (putQ_new x B a k n (hPO.go hbx) (zN hB hbx.size) hk3 c ka va kc vc (hk.on Lr hbx) (hv.on Lr hbx) hm hn hfit)
 have HLN := zaa (zbl x a k n none 0 0 none 0 0 none 0 0 0 [] [] [] ((hPO.pgq Wf.nil (by simp) (by simp)).on hbx))
 have HBX := zaa hbx
 clear hPO hk hv hm hn hfit hbx hc5
 go_enter Tryz.func272, Tryz.ntmps272
 go_wp2_with (first | (go_at_call 159; refine zae HLN.out ?_) | (go_at_call 281; refine HPT.out.mono ?_; rintro e w4 ⟨rfl, HP4, HC4⟩; refine Hid.out ?_))
 apply zaa
 go_wp2
 go_ret
 obtain ⟨vb', vs', q1, qf, q2, q3⟩ := HP4.out
 exact ⟨rfl, zaa ⟨vb', vs', q1, qf, q2.imp id (fun ⟨g, h1, h2⟩ => ⟨g, h1, zN HBX.out.size h2⟩), q3.imp id (fun ⟨g, h1, h2⟩ => ⟨g, h1, zN HBX.out.size h2⟩)⟩, zaa ((Cf.of_below HBX.out).go HC4.out)⟩
structure R8 (w u : World) (a b : Nat) : Prop where
 be : Below w.heap.size w u
 po : ∃ vb vs, Po u w.heap.size a 2 512 vb vs [cA8, cB8]
 pq : ∃ vb vs, PO u w.heap.size b 2 512 none 0 0 vb vs 0 [] (qB 0 cA8) [0]
theorem R8.on {w u u' : World} {a b : Nat} (h : R8 w u a b) (hb : Below u.heap.size u u') : R8 w u' a b := by
 obtain ⟨vb, vs, h1⟩ := h.po
 obtain ⟨xb, xs, h2⟩ := h.pq
 exact ⟨zab h.be Lr hb, ⟨vb, vs, h1.on hb⟩, ⟨xb, xs, h2.go hb⟩⟩
theorem S8.insQ {w u : World} {a b : Nat} (h : S8 w u a b [cA8, cB8]) (ka va : Option Addr) (kc vc : Nat) (hk : Sl u ka 1 kc [97]) (hv : Sl u va 1 vc [121]) :
  Calls Tryz.prog 272 #[.pointer (some ⟨b, 0, none⟩), .int .i64 0, .agg #[.slice ka 1 kc, .int .i64 1, .slice va 1 vc, .int .i64 0, .int .i64 0]] u fun e w' => e = .returned (.int .i64 0) ∧ Hid (R8 w w' a b) := by
 refine (insertQ_new u w.heap.size b 2 512 ⟨h.qr, Sl.nil_any _ _ _ (fun _ => rfl), OwnB.nil _ _, OwnN.nil _ _, .inl rfl, h.hb⟩ h.be.size (by decide) cA8 ka va kc vc hk hv cA8_may pw512 (by decide)).mono ?_
 rintro e w' ⟨rfl, HP, HC⟩
 obtain ⟨xb, xs, q1, _, _, _⟩ := HP.out
 have hc : Cf (· = b) u w' := HC.out.wideQ (fun i hi => by
  rcases hi with e | e | e
  ·exact e
  ·simp [Value.ownBlock] at e
  ·simp [Value.ownBlock] at e)
 obtain ⟨vb, vs, h1, h2, h3⟩ := h.po
 refine ⟨rfl, zaa ⟨h.be.trans (hc.below h.be.size (fun i hi e => ?_)), ⟨vb, vs, (hc.block a (zah h1.row) h.hab).trans h1.row, h1.body.cf hc h2, h1.starts.cf hc h3⟩, ⟨xb, xs, q1⟩⟩⟩
 have := h.hb
 omega
theorem nilP (a : Nat) (w : World) : (nilAhead 346 110 (.pointer (some ⟨a, 0, none⟩)) "Insert").run Tryz.prog w = .ok (some false) w := by kernel_rfl
theorem nilQ (a : Nat) (w : World) : (nilAhead 346 115 (.pointer (some ⟨a, 0, none⟩)) "Insert").run Tryz.prog w = .ok (some false) w := by kernel_rfl
theorem awake8_any (w : World) (ht : Tab w) (h0 : 1 < w.heap.size) : Calls Tryz.prog 7 #[] w fun e w' => e = .returned (.bool true) ∧ Below w.heap.size w w' := by
 have HTW : Hid (∀ u, Below w.heap.size w u → Tab u ∧ 1 < u.heap.size) := zaa fun u hu => ⟨ht.on hu h0, zO h0 hu.size⟩
 have HN0 := zaa (nnew_0 3 2 512 (by decide) (by decide) w)
 clear ht h0
 go_enter Tryz.func7, Tryz.ntmps7
 go_wp2_with (go_at_call 8; refine HN0.out.mono ?_; rintro e w1 ⟨rfl, HB1⟩; refine Hid.out ?_)
 apply zaa
 have HN1 := zaa (nnew_1 2 512 w1)
 clear HN0
 go_wp2_with (go_at_call 8; refine HN1.out.mono ?_; rintro e w2 ⟨v, c, rfl, HB2, HQ2⟩; refine Hid.out ?_)
 apply zaa
 obtain ⟨a, rfl, rfl, hal, hpr⟩ : ∃ a, v = iP a ∧ c = 0 ∧ w1.heap.size ≤ a ∧ PR w2 a 2 512 (.slice none 0 0) (.slice none 0 0) := by
  rcases HQ2.out with ⟨_, _, h⟩ | ⟨a, h1, h2, _, _, h5, h6⟩
  ·exact absurd ⟨isKd2, pw512⟩ h
  ·exact ⟨a, h1, h2, h5, h6⟩
 have HPR := zaa (And.intro hal hpr)
 have HN2 := zaa (nnew_2 2 512 w2)
 clear HN1 HQ2 hal hpr
 go_wp2_with (go_at_call 8; refine HN2.out.mono ?_; rintro e w3 ⟨v, c, rfl, HB3, HQ3⟩; refine Hid.out ?_)
 apply zaa
 obtain ⟨b, rfl, rfl, hbl, hqr⟩ : ∃ b, v = iQ b ∧ c = 0 ∧ w2.heap.size ≤ b ∧ QR w3 b 2 512 (.slice none 0 0) (.slice none 0 0) (.slice none 0 0) 0 := by
  rcases HQ3.out with ⟨_, _, h⟩ | ⟨a, h1, h2, _, _, h5, h6⟩
  ·exact absurd ⟨isKd2, pw512⟩ h
  ·exact ⟨a, h1, h2, h5, h6⟩
 have HS3 : Hid (S8 w w3 a b []) := zaa (by
  have h1 := HB1.out.size
  have h2 := HB2.out.size
  have h3 := zah HPR.out.2
  have h4 := HPR.out.1
  exact ⟨zab (zab HB1.out Lr HB2.out) Lr HB3.out, ⟨.slice none 0 0, .slice none 0 0, ⟨zaf HPR.out.2 HB3.out, OwnB.nil _ _, World.ownsRow_nil _ _ _ _⟩, by simp [Value.ownBlock], by simp [Value.ownBlock]⟩, hqr, by omega, by omega, by omega⟩)
 clear HN2 HQ3 hbl hqr HPR HB1 HB2 HB3
 have HV : Hid (∀ k v, ∀ u u', k.size = 1 → v.size = 1 → Below u.heap.size u u' → Calls Tryz.prog 37 #[.string k, .string v] u' fun e w' => ∃ g1 c1 g2 c2, e = .returned (.agg #[.slice (some ⟨g1, 0, none⟩) 1 c1, .int .i64 1, .slice (some ⟨g2, 0, none⟩) 1 c2, .int .i64 0, .int .i64 0]) ∧ Hid (Sl w' (some ⟨g1, 0, none⟩) 1 c1 (nB k) ∧ Sl w' (some ⟨g2, 0, none⟩) 1 c2 (nB v)) ∧ Hid (Below u.heap.size u w')) := by
  refine zaa fun k v u u' hk hv hu => (value8_any k v (by omega) (by omega) u').mono ?_
  rintro e w' ⟨g1, c1, g2, c2, rfl, HS, HB⟩
  rw [hk, hv] at HS ⊢
  exact ⟨g1, c1, g2, c2, rfl, zaa ⟨HS.out.1, HS.out.2.1⟩, zaa (zab hu Lr HB.out)⟩
 have n1 := fun u => nilP a u
 have n2 := fun u => nilQ b u
 go_upto_region 6 with fail
 go_cut [7] from 48 to 53 (fun v u => v = .int .i64 0 ∧ Hid (S8 w u a b [cB8]))
 case first =>
  go_wp2_with fail
  go_region_with (first
   | (go_at_call 259; refine ((HS3.out.on (by first | exact HB4.out | exact zad HB4.out _ | exact HB4.out.drew)).ins cB8 (some ⟨g1, 0, none⟩) (some ⟨g2, 0, none⟩) c1 c2 (by first | exact HV4.out.1 | exact HV4.out.1.on Lr (zad Br _) | exact HV4.out.1.on Lr Br.drew) (by first | exact HV4.out.2 | exact HV4.out.2.on Lr (zad Br _) | exact HV4.out.2.on Lr Br.drew) (by simp) (by simp) (by decide) c8_ins1).mono ?_; rintro e w5 ⟨rfl, HS5⟩)
   | (go_at_call 37; refine (HV.out _ _ w3 _ rfl rfl (by first | exact Br | exact Br.drew | exact zad Br _)).mono ?_; rintro e w4 ⟨g1, c1, g2, c2, rfl, HV4, HB4⟩))
  all_goals (try go_wp2_with fail)
  all_goals go_meet
  all_goals exact ⟨rfl, HS5⟩
 obtain ⟨rfl, HS5⟩ := hcut
 obtain ⟨w5, hw5⟩ : ∃ w5, w5 = wc := ⟨_, rfl⟩
 subst hw5
 clear HS3
 go_upto_region 7 with fail
 go_cut [8] from 54 to 59 (fun v u => v = .int .i64 0 ∧ Hid (S8 w u a b [cA8, cB8]))
 case first =>
  go_wp2_with fail
  go_region_with (first
   | (go_at_call 259; refine ((HS5.out.on (by first | exact HB6.out | exact zad HB6.out _ | exact HB6.out.drew)).ins cA8 (some ⟨g1, 0, none⟩) (some ⟨g2, 0, none⟩) c1 c2 (by first | exact HV6.out.1 | exact HV6.out.1.on Lr (zad Br _) | exact HV6.out.1.on Lr Br.drew) (by first | exact HV6.out.2 | exact HV6.out.2.on Lr (zad Br _) | exact HV6.out.2.on Lr Br.drew) (fun c hc => c8_wf c (by simp at hc; simp [hc])) (fun c hc => c8_fit c (by simp at hc; simp [hc])) (by decide) c8_ins2).mono ?_; rintro e w7 ⟨rfl, HS7⟩)
   | (go_at_call 37; refine (HV.out _ _ w5 _ rfl rfl (by first | exact Br | exact Br.drew | exact zad Br _)).mono ?_; rintro e w6 ⟨g1, c1, g2, c2, rfl, HV6, HB6⟩))
  all_goals (try go_wp2_with fail)
  all_goals go_meet
  all_goals exact ⟨rfl, HS7⟩
 obtain ⟨rfl, HS7⟩ := hcut
 obtain ⟨w7, hw7⟩ : ∃ w7, w7 = wc := ⟨_, rfl⟩
 subst hw7
 clear HS5
 have k7 := conv6H w7 #[.int .u8 98] 1 1 w7.heap.size rfl
 obtain ⟨y, hy⟩ : ∃ y, w7.alloc (.cells #[.int .u8 98] 5 (1, 2)) = y := ⟨_, rfl⟩
 have hby : Below w7.heap.size w7 y := by rw [← hy]; exact zac Br Lr _
 have hys : Sl y (some ⟨w7.heap.size, 0, none⟩) 1 1 [98] := sl_lit y [98] 1 (1, 2) _ (by rw [← hy]; exact heap_alloc_last w7 _) rfl (Wf.cons (by omega) Wf.nil) (by omega)
 have HFI : Hid (Calls Tryz.prog 258 #[.pointer (some ⟨a, 0, none⟩), .slice (some ⟨w7.heap.size, 0, none⟩) 1 1] y fun e w' => e = .returned (.tuple #[.int .i64 1, .bool true]) ∧ Hid (S8 w w' a b [cA8, cB8])) := zaa (by
  have hs := HS7.out.on hby
  obtain ⟨vb, vs, h1, h2, h3⟩ := hs.po
  obtain ⟨bo, bc, rfl⟩ := h1.body.slice
  obtain ⟨so, sc, rfl⟩ := h1.starts.shape
  refine (find_any y a 2 512 bo _ bc so _ sc [cA8, cB8] (h1.pg c8_wf (by rw [c8_sz]; decide)) c8_chk (by omega) (by rw [c8_sz]; decide) _ 1 1 [98] hys).mono ?_
  rintro e w' ⟨r, is, rfl, HB, HQ⟩
  obtain ⟨hf, hi⟩ := HQ.out
  obtain rfl : r = 1 := c8_fnd r hf
  obtain rfl : is = true := hi.2 ⟨cB8, rfl, rfl⟩
  exact ⟨rfl, zaa (hs.on HB.out)⟩)
 clear hby hys HS7
 go_wp2_with (go_at_call 258; refine HFI.out.mono ?_; rintro e w8 ⟨rfl, HS8⟩; refine Hid.out ?_)
 apply zaa
 clear HFI k7 hy
 go_upto_region 9 with fail
 go_cut [11] from 67 to 72 (fun v u => v = .int .i64 0 ∧ Hid (R8 w u a b))
 case first =>
  go_wp2_with fail
  go_region_with (first
   | (go_at_call 272; refine ((HS8.out.on (by first | exact HB9.out | exact zad HB9.out _ | exact HB9.out.drew)).insQ (some ⟨g1, 0, none⟩) (some ⟨g2, 0, none⟩) c1 c2 (by first | exact HV9.out.1 | exact HV9.out.1.on Lr (zad Br _) | exact HV9.out.1.on Lr Br.drew) (by first | exact HV9.out.2 | exact HV9.out.2.on Lr (zad Br _) | exact HV9.out.2.on Lr Br.drew)).mono ?_; rintro e w10 ⟨rfl, HR10⟩)
   | (go_at_call 37; refine (HV.out _ _ w8 _ rfl rfl (by first | exact Br | exact Br.drew | exact zad Br _)).mono ?_; rintro e w9 ⟨g1, c1, g2, c2, rfl, HV9, HB9⟩))
  all_goals (try go_wp2_with fail)
  all_goals go_meet
  all_goals exact ⟨rfl, HR10⟩
 obtain ⟨rfl, HR10⟩ := hcut
 obtain ⟨w10, hw10⟩ : ∃ w10, w10 = wc := ⟨_, rfl⟩
 subst hw10
 clear HS8 HV n1 n2
 have HBY : Hid (Calls Tryz.prog 146 #[.pointer (some ⟨a, 0, none⟩)] w10 fun e w' => ∃ g, e = .returned (.slice (some ⟨g, 0, none⟩) 512 512) ∧ Hid (Bk w' g p8) ∧ Hid (R8 w w' a b)) := zaa (by
  obtain ⟨vb, vs, h1⟩ := HR10.out.po
  obtain ⟨bo, bc, rfl⟩ := h1.body.slice
  obtain ⟨so, sc, rfl⟩ := h1.starts.shape
  obtain ⟨t1, t2⟩ := HTW.out w10 HR10.out.be
  refine (bytes_any w10 a 2 512 bo _ bc so _ sc [cA8, cB8] (h1.pg c8_wf (by rw [c8_sz]; decide)) isKd2 pw512 (by rw [c8_sz]; decide) t1 t2 c8_wf).mono ?_
  rintro e w' ⟨g, rfl, _, HK, HB⟩
  exact ⟨g, rfl, HK, zaa (HR10.out.on HB.out)⟩)
 go_wp2_with (go_at_call 146; refine HBY.out.mono ?_; rintro e w11 ⟨g, rfl, HK11, HR11⟩; refine Hid.out ?_)
 apply zaa
 clear HBY HR10
 have HOP : Hid (Calls Tryz.prog 12 #[.slice (some ⟨g, 0, none⟩) 512 512] w11 fun e w' => ∃ o, e = .returned (.tuple #[iP o, .int .i64 0]) ∧ Hid (R8 w w' a b ∧ ∃ vb so sc, PR w' o 2 512 vb (.slice so 2 sc))) := zaa (by
  obtain ⟨t1, t2⟩ := HTW.out w11 HR11.out.be
  refine (nopen_1 (some ⟨g, 0, none⟩) 512 512 p8 w11 (HK11.out.sl p8_len p8_wf (by omega)) t1 t2 p8_eg).mono ?_
  rintro e w' ⟨v, c, rfl, HB, HQ⟩
  rcases HQ.out with ⟨_, _, h⟩ | ⟨o, bo, bn, bc, so, sn, sc, cs, rfl, rfl, _, h4, _, h6⟩
  ·exact absurd ⟨[cA8, cB8], by rw [p8_kd, p8_len]; exact p8_is⟩ h
  ·have := p8_one cs h4
   subst this
   rw [p8_kd, p8_len] at h6
   have hsn := (h6.starts.sl2 (by rw [zai]; decide)).2
   rw [zai] at hsn
   obtain rfl : sn = 2 := hsn.symm
   exact ⟨o, rfl, zaa ⟨HR11.out.on HB.out, _, so, sc, h6.row⟩⟩)
 go_wp2_with (go_at_call 12; refine HOP.out.mono ?_; rintro e w12 ⟨o, rfl, HQ12⟩; refine Hid.out ?_)
 apply zaa
 clear HOP HK11 HR11
 obtain ⟨hr12, vb3, so3, sc3, hpr3⟩ := HQ12.out
 obtain ⟨vb1, vs1, hpo1⟩ := hr12.po
 obtain ⟨bo1, bc1, rfl⟩ := hpo1.body.slice
 obtain ⟨so1, sc1, rfl⟩ := hpo1.starts.shape
 obtain ⟨vb2, vs2, hpq2⟩ := hr12.pq
 obtain ⟨bo2, bc2, rfl⟩ := hpq2.ob.shape
 obtain ⟨so2, sc2, rfl⟩ := hpq2.on.shape
 have HUS := zaa (used_row w12 a 2 512 bo1 14 bc1 so1 2 sc1 (by exact hpo1.row) (by omega) (by omega))
 have HLO := zaa (fun q => zcv (w12.drewN q) o 2 512 vb3 so3 2 sc3 (by exact (show PR _ _ _ _ _ _ from zaf hpr3 (zad Br _))))
 have HLQ := zaa (fun q => zbl (w12.drewN q) b 2 512 none 0 0 bo2 _ bc2 so2 1 sc2 0 [] (qB 0 cA8) [0] ((hpq2.pgq (by exact (by decide : ∀ x ∈ qB 0 cA8, 0 ≤ x ∧ x ≤ 255)) (by decide) (by decide)).on (zad Br _)))
 have HBE := zaa hr12.be
 have k1 := fun u => nmostKey_any 512 u
 have k2 := fun u => nmostValue_any 512 u
 rw [if_pos pw512] at k1 k2
 have K1 := zaa k1
 have K2 := zaa k2
 clear hr12 hpr3 hpo1 hpq2 k1 k2 HQ12
 go_wp2_with (first
  | (go_at_call 263; refine HUS.out.mono ?_; rintro e w13 ⟨rfl, q, rfl⟩)
  | (go_at_call 147; refine zae (HLO.out q) ?_)
  | (go_at_call 159; refine zae (HLQ.out q) ?_)
  | (go_at_call 30; refine zae (K1.out _) ?_)
  | (go_at_call 32; refine zae (K2.out _) ?_))
 go_ret
 exact ⟨rfl, zad HBE.out _⟩
end Go.Proofs.YtofafbmpbkjhnaaGreatDoor
namespace Go.Proofs.YtofafbmpbkjhnaaGreatDoor
set_option maxRecDepth 100000
set_option maxHeartbeats 8000000
open Go.ChangeShapes Go.WideShapes Go.ChangeAt Go.RowKit
theorem own : ownKnob Tryz.prog.godebug = none := by kernel_rfl
theorem gTab : Tryz.prog.globalNamed "espalier/ink.steps" = some 1 := by kernel_rfl
theorem gTabType : (Tryz.prog.globals[1]?).map (·.type) = some 214 := by kernel_rfl
theorem cellsR : Tryz.prog.cellsOf 213 = 16 := by kernel_rfl
theorem cellsU : Tryz.prog.cellsOf 143 = 1 := by kernel_rfl
def rowZ (i : Nat) : List Int := ((tabN.drop (16 * i)).take 16).map fun (x : Nat) => (x : Int)
theorem laid_eq {H : Type} : (Rows.laid_espalier_ink_steps : DataW H) = .agg ((List.range 8).map fun i => Lib.tabData .u32 (rowZ i)) := by kernel_rfl
theorem rowZ_at (i r : Nat) (hi : i < 8) (hr : r < 16) : (rowZ i)[r]? = some ((tN (16 * i + r) : Nat) : Int) := by
 have h : ∀ (a : Fin 8) (b : Fin 16), (rowZ a.val)[b.val]? = some ((tN (16 * a.val + b.val) : Nat) : Int) := by decide +kernel
 exact h ⟨i, hi⟩ ⟨r, hr⟩
theorem tab_of_laid {W : World} (h : laidMetH Tryz.prog [("espalier/ink.steps", Rows.laid_espalier_ink_steps)] W) : Tab W := by
 have h' : laidMet Tryz.prog [("espalier/ink.steps", Rows.laid_espalier_ink_steps)] W := h
 obtain ⟨ps, ⟨g', t', cs, fuel, p, q, hg', ht', hvar, hd, _, _⟩, _⟩ := h'
 obtain rfl := Option.some.inj (gTab.symm.trans hg')
 obtain rfl := Option.some.inj (gTabType.symm.trans ht')
 obtain ⟨xs, m, _, hx, _, hxl, hat⟩ := DataW.trod_array Tryz.underlying214 hd
 rw [laid_eq] at hx
 have hxs : (List.range 8).map (fun i => Lib.tabData .u32 (rowZ i)) = xs.map (·.1) := by
  have := congrArg Prod.fst hx
  simpa using this
 rw [cellsR] at hat
 intro j hj
 have e : j = 16 * (j / 16) + j % 16 := by omega
 have hi : j / 16 < 8 := by omega
 have hr : j % 16 < 16 := by omega
 generalize j / 16 = i at *
 generalize j % 16 = r at *
 subst e
 have hxi : xs[i]? = some xs[i] := zI (by omega)
 have hfst : xs[i].1 = Lib.tabData .u32 (rowZ i) := by
  have := congrArg (·[i]?) hxs
  simpa [hi, hxl] using this.symm
 have hrow := hat i hi
 rw [hxi] at hrow
 have hc := Lib.cells_of_tab (zs := rowZ i) (p := xs[i].2) (k := .u32) Tryz.underlying213 Tryz.underlying143 cellsU cellsR (hrow.trans (by rw [← hfst]))
 have hcj : cs[16 * i + r]? = some (.int .u32 (tN (16 * i + r))) := by
  have h1 := congrArg (·[r]?) hc
  simp only [List.getElem?_map, rowZ_at i r hi hr, Option.map_some] at h1
  rw [List.getElem?_take_of_lt hr, List.getElem?_drop] at h1
  rw [Nat.mul_comm i 16] at h1
  simpa using h1
 have := World.var?_cell gTab hvar (16 * i + r)
 rw [this]
 simpa using hcj
theorem laidOut : laidOutB Tryz.prog = true := by kernel_rfl
end Go.Proofs.YtofafbmpbkjhnaaGreatDoor
namespace Go.Proofs.YtofafbmpbkjhnaaGreatDoor
set_option maxRecDepth 100000
set_option maxHeartbeats 8000000
open Go.ChangeShapes Go.WideShapes Go.ChangeAt Go.RowKit
theorem bytesU8 : Tryz.prog.bytesOf 5 = 1 := by kernel_rfl
theorem cells5 : Tryz.prog.cellsOf 5 = 1 := by kernel_rfl
theorem bulk_lits {H : Type} (k : IntKind) (zs : List Int) : Rows.uptoBulkAll (lits (H := H) k zs) = zs.length := by
 induction zs with
 | nil => rfl
 | cons z zs ih =>
  show Rows.uptoBulkAll (DataW.lit (.int k z) :: lits k zs) = _
  simp only [Rows.uptoBulkAll, Rows.uptoBulk, ih, List.length_cons]
  omega
theorem open_bytes {H : Type} {enc : TypeId × Value → H} {W : World} {base : Nat} {sp : Nat → Bool} {held : Bool} {v : Value} {d : DataW H} {p : List MemPlace} (hok : Value.okWide Tryz.prog W .any base 41 v)
  (h : DataW.Trod enc Tryz.prog W 0 sp held 41 v d p) (hsz : ∀ elems spare, d = .slice elems spare → (elems.length + spare.length) * Tryz.prog.bytesOf 5 ≤ reachBytes) :
  ∃ a n c l, v = .slice a n c ∧ Sl W a n c l ∧ n ≤ 140737488351232 ∧ n + 1 ≤ Rows.uptoBulk d := by
 obtain ⟨a, len, cap, rfl⟩ := okWide_slice Tryz.underlying41 hok
 obtain ⟨fuel, hf⟩ := h
 rcases open_ints Tryz.underlying41 Tryz.underlying5 cells5 hf with ⟨hcs, hx⟩ | ⟨x, l, c, zs, hcs, _, hl, hm, hz, hx, hcell, hwz⟩
 ·simp [Value.cells] at hcs
  obtain ⟨rfl, rfl, rfl⟩ := hcs
  obtain rfl : d = .nil := congrArg Prod.fst hx
  exact ⟨none, 0, 0, [], rfl, ⟨rfl, Lr, by omega, Wf.nil, fun _ => rfl, .inl rfl⟩, by omega, by simp [Rows.uptoBulk]⟩
 ·simp [Value.cells] at hcs
  obtain ⟨rfl, rfl, rfl⟩ := hcs
  obtain rfl : d = .slice (lits .u8 (zs.take len)) (lits .u8 (zs.drop len)) := congrArg Prod.fst hx
  have hzl : len ≤ zs.length := by rw [hz]; split <;> omega
  have h1 := hsz _ _ rfl
  rw [bytesU8] at h1
  simp only [lits, List.length_map, zJ, zK, reachBytes] at h1
  have hb : len ≤ 140737488351232 := by omega
  refine ⟨some x, len, cap, zs.take len, rfl, ⟨by simp; omega, hl, by omega, fun y hy => bounds_u8 (hwz y (List.mem_of_mem_take hy)), (by intro h; cases h), ?_⟩, hb, ?_⟩
  ·by_cases h0 : len = 0
   ·exact .inl h0
   ·obtain ⟨b, off, spot⟩ := x
    have hc := hcell 0 (by omega)
    have hspot : spot = none := by simpa [Addr.add] using World.cell?_spot hc
    subst hspot
    refine .inr ⟨b, off, rfl, World.block_lt_of_cell? W _ (by simpa [Addr.add] using hc), fun i hi => ?_⟩
    have h2 := hcell i (by omega)
    rw [Addr.add_lit] at h2
    rw [h2]
    simp [List.getD, hi]
  ·simp only [Rows.uptoBulk, bulk_lits, zJ]
   omega
theorem cellsSl : Tryz.prog.cellsOf 41 = 1 := by kernel_rfl
theorem open_cells {H : Type} {enc : TypeId × Value → H} {W : World} {sp : Nat → Bool} {held : Bool} {fuel : Nat} {cs : List Value} {d : DataW H} {p : List MemPlace}
  (hf : DataW.trod enc Tryz.prog W 0 sp held fuel 41 cs = some (d, p)) (hsz : ∀ elems spare, d = .slice elems spare → (elems.length + spare.length) * Tryz.prog.bytesOf 5 ≤ reachBytes) :
  ∃ a n c l, cs = [.slice a n c] ∧ Sl W a n c l ∧ n ≤ 140737488351232 := by
 rcases open_ints Tryz.underlying41 Tryz.underlying5 cells5 hf with ⟨hcs, hx⟩ | ⟨x, len, cap, zs, hcs, _, hl, hm, hz, hx, hcell, hwz⟩
 ·exact ⟨none, 0, 0, [], hcs, ⟨rfl, Lr, by omega, Wf.nil, fun _ => rfl, .inl rfl⟩, by omega⟩
 ·obtain rfl : d = .slice (lits .u8 (zs.take len)) (lits .u8 (zs.drop len)) := congrArg Prod.fst hx
  have hzl : len ≤ zs.length := by rw [hz]; split <;> omega
  have h1 := hsz _ _ rfl
  rw [bytesU8] at h1
  simp only [lits, List.length_map, zJ, zK, reachBytes] at h1
  have hb : len ≤ 140737488351232 := by omega
  refine ⟨some x, len, cap, zs.take len, hcs, ⟨by simp; omega, hl, by omega, fun y hy => bounds_u8 (hwz y (List.mem_of_mem_take hy)), (by intro h; cases h), ?_⟩, hb⟩
  by_cases h0 : len = 0
  ·exact .inl h0
  ·obtain ⟨b, off, spot⟩ := x
   have hc := hcell 0 (by omega)
   have hspot : spot = none := by simpa [Addr.add] using World.cell?_spot hc
   subst hspot
   refine .inr ⟨b, off, rfl, World.block_lt_of_cell? W _ (by simpa [Addr.add] using hc), fun i hi => ?_⟩
   have h2 := hcell i (by omega)
   rw [Addr.add_lit] at h2
   rw [h2]
   simp [List.getD, hi]
theorem weights_part {H : Type} {t : TypeId} {d : DataW H} {n : Nat} : ∀ {ds : List (DataW H)}, d ∈ ds → n ∈ d.weights Tryz.prog t → n ∈ DataW.weightsAll Tryz.prog t ds
 | [], h, _ => by cases h
 | x :: ds, h, hn => by
  simp only [DataW.weightsAll, List.mem_append]
  rcases List.mem_cons.1 h with rfl | h
  ·exact .inl hn
  ·exact .inr (weights_part h hn)
theorem cellsCell : Tryz.prog.cellsOf 43 = 5 := by kernel_rfl
theorem cellsInt : Tryz.prog.cellsOf 3 = 1 := by kernel_rfl
end Go.Proofs.YtofafbmpbkjhnaaGreatDoor
