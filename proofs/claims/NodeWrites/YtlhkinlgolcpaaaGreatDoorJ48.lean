import Derived.Test.YtlhkinlgolcpaaaGreatDoorJ47
import Derived.Test.YtlhkinlgolcpaaaGreatDoorJ46
import Derived.Test.YtlhkinlgolcpaaaGreatDoorJ22
import Derived.Test.YtlhkinlgolcpaaaGreatDoorJ23
import Derived.Test.YtlhkinlgolcpaaaGreatDoorJ14
import Derived.Handy
namespace Go.Proofs.YtlhkinlgolcpaaaGreatDoor
set_option maxRecDepth 100000
open Go.RowKit
def insE (k : Int) (n : Nat) (cs : List Cl) (x : Int) (c : Cl) : Int := if 0 ≤ x ∧ x ≤ (cs.length : Int) then putE k n cs x.toNat x.toNat c else 64
set_option maxHeartbeats 1000000 in
theorem insert_any (w : World) (B a : Nat) (k : Int) (n : Nat) (vb vs : Value) (cs : List Cl) (x : Int) (ka : Option Addr) (kn kc : Nat) (kd : Int) (va : Option Addr) (vn vc : Nat) (pg ct : Int) (key val : List Int) (hp : Po w B a k n vb vs cs) (hn : n ≤ 65536) (hw : ∀ c ∈ cs, c.Wf) (hft : ∀ c ∈ cs, c.fit) (hz : szN cs ≤ n) (hk : Sl w ka kn kc key) (hv : Sl w va vn vc val) (hB : B ≤ w.heap.size) :
  Calls Tryz.prog 187 #[.pointer (some ⟨a, 0, none⟩), .int .i64 x, .agg #[.slice ka kn kc, .int .i64 kd, .slice va vn vc, .int .i64 pg, .int .i64 ct]] w (PuTo w B a k n vb vs cs (cs.take x.toNat ++ [⟨key, kd, val, pg, ct⟩] ++ cs.drop x.toNat) (insE k n cs x ⟨key, kd, val, pg, ct⟩)) := by
 have hzc := szN_eq cs
 obtain ⟨bo, bc, rfl⟩ := hp.body.slice
 obtain ⟨so, sc, rfl⟩ := hp.starts.shape
 rw [sts_length] at hp ⊢
 obtain ⟨bl, hbl⟩ : ∃ bl, (bdy cs).length = bl := ⟨_, rfl⟩
 obtain ⟨sn, hsn⟩ : ∃ sn, cs.length = sn := ⟨_, rfl⟩
 rw [hbl, hsn] at hp
 rw [hbl, hsn]
 unfold insE
 rw [hsn]
 obtain ⟨y, hy⟩ : ∃ y, w.alloc (.cells #[.slice ka kn kc, .int .i64 kd, .slice va vn vc, .int .i64 pg, .int .i64 ct] 41) = y := ⟨_, rfl⟩
 have hby : Below w.heap.size w y := by rw [← hy]; exact bl_al (Below.refl _ _) (Nat.le_refl _) _
 obtain ⟨s, hs⟩ : ∃ s, w.heap.size = s := ⟨_, rfl⟩
 have HBOX : Hid (C5 y s (.slice ka kn kc) (.int .i64 kd) (.slice va vn vc) (.int .i64 pg) (.int .i64 ct)) := by rw [← hy, ← hs]; exact hidden (C5.box _ _ _ _ _ _)
 have hpy := hp.on hby
 have HL : Hid (Calls Tryz.prog 85 #[.pointer (some ⟨a, 0, none⟩)] y fun e w' => e = .returned (.int .i64 (sn : Int)) ∧ w' = y) := hidden (lenR_any y a k n _ so sn sc hpy.row)
 have HBY := hidden hby
 have HP := hidden hp
 obtain ⟨z0, z1, z2, z3, z4⟩ := HBOX.out.cells
 by_cases hx : 0 ≤ x ∧ x ≤ (sn : Int)
 ·rw [if_pos hx]
  obtain ⟨i, rfl⟩ : ∃ i : Nat, x = (i : Int) := ⟨x.toNat, by omega⟩
  rw [Int.toNat_natCast]
  by_cases hl : i = sn
  ·have hlI : (i : Int) = (sn : Int) := by omega
   rw [hlI]
   have hlN : i = sn := hl
   subst hl
   have HPT := hidden (put_any y B a k n _ _ cs i i ka kn kc kd va vn vc pg ct key val hpy (by omega) (by omega) hn hw hft hz (hk.on (Nat.le_refl _) hby) (hv.on (Nat.le_refl _) hby) (Nat.le_trans hB hby.size))
   generalize putE k n cs i i ⟨key, kd, val, pg, ct⟩ = R at *
   have hiI : (i : Int) ≤ 65536 := by omega
   clear hp hpy hk hv hby hw hft hzc hz hbl
   go_enter Tryz.func187, Tryz.ntmps187
   go_wp2_with (first | (go_at_call 85; refine same_call HL.out ?_) | (go_at_call 196; refine HPT.out.mono ?_; rintro e w2 ⟨rfl, HP2, HC2⟩; refine Hid.out ?_))
   apply hidden
   clear HPT
   go_wp2
   go_ret
   refine ⟨rfl, hidden ?_, hidden ((Cf.of_below HBY.out).go HC2.out)⟩
   obtain ⟨vb', vs', p1, p2, p3⟩ := HP2.out
   exact ⟨vb', vs', p1, p2.imp id (fun ⟨q, h1, h2⟩ => ⟨q, h1, Nat.le_trans HBY.out.size h2⟩), p3.imp id (fun ⟨q, h1, h2⟩ => ⟨q, h1, Nat.le_trans HBY.out.size h2⟩)⟩
  ·have hlI : ¬ (i : Int) = (sn : Int) := by omega
   have HPT := hidden (put_any y B a k n _ _ cs i i ka kn kc kd va vn vc pg ct key val hpy (by omega) (by omega) hn hw hft hz (hk.on (Nat.le_refl _) hby) (hv.on (Nat.le_refl _) hby) (Nat.le_trans hB hby.size))
   have HH := hidden (has_any y a k n _ so sn sc hpy.row (i : Int) true (by unfold hasP; simp; omega))
   generalize putE k n cs i i ⟨key, kd, val, pg, ct⟩ = R at *
   have hiI : (i : Int) ≤ 65536 := by omega
   clear hp hpy hk hv hby hw hft hzc hz hbl
   go_enter Tryz.func187, Tryz.ntmps187
   go_wp2_with (first | (go_at_call 85; refine same_call HL.out ?_) | (go_at_call 195; refine same_call HH.out ?_) | (go_at_call 196; refine HPT.out.mono ?_; rintro e w2 ⟨rfl, HP2, HC2⟩; refine Hid.out ?_))
   apply hidden
   clear HPT
   go_wp2
   go_ret
   refine ⟨rfl, hidden ?_, hidden ((Cf.of_below HBY.out).go HC2.out)⟩
   obtain ⟨vb', vs', p1, p2, p3⟩ := HP2.out
   exact ⟨vb', vs', p1, p2.imp id (fun ⟨q, h1, h2⟩ => ⟨q, h1, Nat.le_trans HBY.out.size h2⟩), p3.imp id (fun ⟨q, h1, h2⟩ => ⟨q, h1, Nat.le_trans HBY.out.size h2⟩)⟩
 ·rw [if_neg hx]
  have hxl : ¬ x = (sn : Int) := by omega
  have HH := hidden (has_any y a k n _ so sn sc hpy.row x false (by unfold hasP; simp; omega))
  clear hp hpy hk hv hby hw hft hzc hz hbl
  go_enter Tryz.func187, Tryz.ntmps187
  go_wp2_with (first | (go_at_call 85; refine same_call HL.out ?_) | (go_at_call 195; refine same_call HH.out ?_))
  go_ret
  exact PuTo.same HP.out HBY.out (by decide)
end Go.Proofs.YtlhkinlgolcpaaaGreatDoor

namespace Go.Proofs.YtlhkinlgolcpaaaGreatDoor
set_option maxRecDepth 100000
open Go.RowKit
def cB8 : Cl := ⟨[98], 1, [120], 0, 0⟩
def cA8 : Cl := ⟨[97], 1, [121], 0, 0⟩
theorem cB8_may : mayP 2 512 cB8 := by decide
theorem cA8_may : mayP 2 512 cA8 := by decide
theorem c8_wf : ∀ c ∈ [cA8, cB8], c.Wf := by
 intro c hc
 simp only [List.mem_cons, List.not_mem_nil, or_false] at hc
 rcases hc with rfl | rfl
 ·exact ⟨Wf.cons (by omega) Wf.nil, Wf.cons (by omega) Wf.nil⟩
 ·exact ⟨Wf.cons (by omega) Wf.nil, Wf.cons (by omega) Wf.nil⟩
theorem c8_fit : ∀ c ∈ [cA8, cB8], c.fit := by
 intro c hc
 simp only [List.mem_cons, List.not_mem_nil, or_false] at hc
 rcases hc with rfl | rfl
 ·exact cA8_may.fit (by omega)
 ·exact cB8_may.fit (by omega)
theorem c8_sz : szN [cA8, cB8] = 26 := by decide
theorem c8_chk : chk 2 512 none [cA8, cB8] = 0 := by decide
theorem c8_ins1 : insE 2 512 [] 0 cB8 = 0 := by decide
theorem c8_ins2 : insE 2 512 [cB8] 0 cA8 = 0 := by decide
theorem c8_fnd (r : Nat) (h : Fnd [cA8, cB8] [98] r) : r = 1 := by
 have h1 := h.le
 simp at h1
 rcases Nat.lt_or_ge r 1 with h0 | h0
 ·exact absurd (by decide) (h.hi 0 cA8 (by omega) rfl)
 ·rcases Nat.lt_or_ge 1 r with h2 | h2
  ·exact absurd (h.lo 1 cB8 h2 rfl) (by decide)
  ·omega
def p8 : List Int := pgB 2 512 [cA8, cB8]
theorem p8_is : Is 2 512 [cA8, cB8] p8 := ⟨isKd2, pw512, c8_chk, by rw [c8_sz]; decide, rfl⟩
theorem p8_len : p8.length = 512 := pgB_length 2 512 _ (by rw [c8_sz]; decide)
theorem p8_wf : Wf p8 := pgB_wf (by omega) c8_wf
theorem p8_kd : p8.getD 0 0 = 2 := (readM_of p8_is).2.2
theorem p8_one (cs : List Cl) (h : Is (p8.getD 0 0) p8.length cs p8) : cs = [cA8, cB8] := (h.one p8_is).2.2
theorem p8_eg : egO p8 = 1 := by
 unfold egO
 rw [p8_len, if_neg (by omega)]
 obtain ⟨U, _, h⟩ := pgB_split 2 512 [cA8, cB8]
 rw [show p8 = pgB 2 512 [cA8, cB8] from rfl, h]
 rfl
structure S8 (w u : World) (a b : Nat) (cs : List Cl) : Prop where
 be : Below w.heap.size w u
 po : ∃ vb vs, Po u w.heap.size a 2 512 vb vs cs ∧ vb.ownBlock ≠ some b ∧ vs.ownBlock ≠ some b
 qr : QR u b 2 512 (.slice none 0 0) (.slice none 0 0) (.slice none 0 0) 0
 hab : a ≠ b
 ha : w.heap.size ≤ a
 hb : w.heap.size ≤ b
theorem S8.on {w u u' : World} {a b : Nat} {cs : List Cl} (h : S8 w u a b cs) (hb : Below u.heap.size u u') : S8 w u' a b cs := by
 obtain ⟨vb, vs, h1, h2, h3⟩ := h.po
 exact ⟨bl_go h.be (Nat.le_refl _) hb, ⟨vb, vs, h1.on hb, h2, h3⟩, box_on h.qr hb, h.hab, h.ha, h.hb⟩
theorem Po.zone {w : World} {B a : Nat} {k : Int} {n : Nat} {vb vs : Value} {cs : List Cl} (h : Po w B a k n vb vs cs) (ha : B ≤ a) {i : Nat} (hi : PZ a vb vs i) : B ≤ i := by
 rcases hi with rfl | e | e
 ·exact ha
 ·have := h.body
  unfold OwnB at this
  exact (this.lt i e).1
 ·have := h.starts
  unfold OwnN at this
  exact (this.lt i e).1
theorem S8.ins {w u : World} {a b : Nat} {cs : List Cl} (h : S8 w u a b cs) (c : Cl) (ka va : Option Addr) (kc vc : Nat) (hk : Sl u ka c.key.length kc c.key) (hv : Sl u va c.val.length vc c.val) (hw : ∀ c ∈ cs, c.Wf) (hft : ∀ c ∈ cs, c.fit) (hz : szN cs ≤ 512) (h0 : insE 2 512 cs 0 c = 0) :
  Calls Tryz.prog 187 #[.pointer (some ⟨a, 0, none⟩), .int .i64 0, .agg #[.slice ka c.key.length kc, .int .i64 c.kd, .slice va c.val.length vc, .int .i64 c.pg, .int .i64 c.ct]] u fun e w' => e = .returned (.int .i64 0) ∧ Hid (S8 w w' a b (c :: cs)) := by
 obtain ⟨vb, vs, h1, h2, h3⟩ := h.po
 refine (insert_any u w.heap.size a 2 512 vb vs cs 0 ka _ kc c.kd va _ vc c.pg c.ct c.key c.val h1 (by omega) hw hft hz hk hv h.be.size).mono ?_
 rintro e w' ⟨rfl, HP, HC⟩
 have e0 : insE 2 512 cs 0 ⟨c.key, c.kd, c.val, c.pg, c.ct⟩ = 0 := h0
 rw [e0] at HP ⊢
 obtain ⟨vb', vs', q1, q2, q3⟩ := HP.out
 have hc := HC.out
 have hbl := lt_some h.qr
 refine ⟨rfl, hidden ⟨h.be.trans (hc.below h.be.size (fun i hi e => ?_)), ⟨vb', vs', ?_, ?_, ?_⟩, ?_, h.hab, h.ha, h.hb⟩⟩
 ·have := h1.zone h.ha e
  omega
 ·simpa using q1
 ·rcases q2 with q | ⟨g, q, hg⟩
  ·rw [q]; exact h2
  ·rw [q]; intro e; injection e with e; omega
 ·rcases q3 with q | ⟨g, q, hg⟩
  ·rw [q]; exact h3
  ·rw [q]; intro e; injection e with e; omega
 ·refine (hc.block b hbl ?_).trans h.qr
  rintro (e | e | e)
  ·exact h.hab e.symm
  ·exact h2 e
  ·exact h3 e
end Go.Proofs.YtlhkinlgolcpaaaGreatDoor

namespace Go.Proofs.YtlhkinlgolcpaaaGreatDoor
set_option maxRecDepth 100000
open Go.RowKit
theorem filled_any (w : World) (a : Nat) (k n : Int) (po : Option Addr) (pn pc : Nat) (bo : Option Addr) (bn bc : Nat) (so : Option Addr) (sn sc : Nat) (ws : Int) (h : QR w a k n (.slice po pn pc) (.slice bo bn bc) (.slice so sn sc) ws) (h1 : pn ≤ 1099511627776) (h2 : bn ≤ 1099511627776) (h3 : sn ≤ 1099511627776) :
  Calls Tryz.prog 210 #[.pointer (some ⟨a, 0, none⟩)] w fun e w' => e = .returned (.int .i64 ((10 + pn + 2 * sn + bn : Nat) : Int)) ∧ ∃ q, w' = w.drewN q := by
 obtain ⟨c0, c1, c2, c3, c4, c5⟩ := h.cells
 have b1 : (pn : Int) ≤ 1099511627776 := by omega
 have b2 : (bn : Int) ≤ 1099511627776 := by omega
 have b3 : (sn : Int) ≤ 1099511627776 := by omega
 clear h
 go_enter Tryz.func210, Tryz.ntmps210
 go_wp2_with fail
 go_quiet (fail)
 go_wp2
 go_ret
 refine ⟨ret_int ?_, _, rfl⟩
 omega
end Go.Proofs.YtlhkinlgolcpaaaGreatDoor

namespace Go.Proofs.YtlhkinlgolcpaaaGreatDoor
set_option maxRecDepth 100000
open Go.RowKit
theorem Sl.apartQ {w : World} {ao : Option Addr} {n cap : Nat} {l : List Int} (h : Sl w ao n cap l) {g : Nat} {a b d : Option Addr} {c1 c2 c3 c4 c5 c6 : Nat} {x y z : Int} (hr : QR w g x y (.slice a c1 c2) (.slice b c3 c4) (.slice d c5 c6) z) : n = 0 ∨ ∀ p, ao = some p → ¬ p.block = g := by
 rcases h.hat with h0 | ⟨q, off, rfl, hg, hc⟩
 ·exact .inl h0
 ·rcases Nat.eq_zero_or_pos n with h0 | h0
  ·exact .inl h0
  ·right
   rintro p hp rfl
   injection hp with hp
   subst hp
   have h1 := hc 0 h0
   unfold QR at hr
   rw [cell_of_row _ _ _ _ _ _ hr] at h1
   rcases Nat.lt_or_ge (off + 0) 6 with h3 | h3
   ·have h4 : off + 0 = 0 ∨ off + 0 = 1 ∨ off + 0 = 2 ∨ off + 0 = 3 ∨ off + 0 = 4 ∨ off + 0 = 5 := by omega
    rcases h4 with h4 | h4 | h4 | h4 | h4 | h4 <;> (rw [h4] at h1; simp at h1)
   ·rw [Array.getElem?_eq_none (by simpa using h3)] at h1
    cases h1
end Go.Proofs.YtlhkinlgolcpaaaGreatDoor

namespace Go.Proofs.YtlhkinlgolcpaaaGreatDoor
set_option maxRecDepth 100000
open Go.RowKit
def QZ (a : Nat) (vb vs : Value) (b : Nat) : Prop := b = a ∨ vb.ownBlock = some b ∨ vs.ownBlock = some b
theorem own_oneN {w : World} {g : Nat} {x : Nat} {fr : Nat × Nat} (h : w.heap[g]? = some (.cells #[.int .i64 (x : Int)] 3 fr)) (hf : fr = (0, 0)) : w.ownsRow g 3 1 (.slice (some ⟨g, 0, none⟩) 1 1) 1 (NI [x]) := by
 subst hf
 refine ⟨by simp [NI], .inr ⟨g, 1, _, rfl, Nat.le_refl _, h, Nat.le_refl _, by unfold maxLen; omega, by simp, ?_⟩⟩
 simp [NI]
theorem NIq (a b c : List Nat) : NI (a ++ b ++ c) = NI a ++ NI b ++ NI c := by simp [NI]
theorem NIq_take (l : List Nat) (n : Nat) : (NI l).take n = NI (l.take n) := by simp [NI, List.map_take]
theorem NIq_drop (l : List Nat) (n : Nat) : (NI l).drop n = NI (l.drop n) := by simp [NI, List.map_drop]
def QuTo (w : World) (B a : Nat) (k : Int) (n : Nat) (po : Option Addr) (pn pc : Nat) (vb vs : Value) (ws : Int) (P body : List Int) (st : List Nat) (r : Value) (e : Ending) (w' : World) : Prop :=
 e = .returned r ∧ Hid (∃ vb' vs', PO w' B a k n po pn pc vb' vs' ws P body st ∧ Far po pn vs' ∧ (vb'.ownBlock = vb.ownBlock ∨ ∃ g, vb'.ownBlock = some g ∧ w.heap.size ≤ g) ∧ (vs'.ownBlock = vs.ownBlock ∨ ∃ g, vs'.ownBlock = some g ∧ w.heap.size ≤ g)) ∧ Hid (Cf (QZ a vb vs) w w')
theorem Cf.wideQ {F G : Nat → Prop} {w w' : World} (h : Cf F w w') (hf : ∀ b, F b → G b) : Cf G w w' := ⟨h.os, h.tape, h.output, h.size, fun k hk hg => h.block k hk (fun e => hg (hf k e))⟩
set_option maxHeartbeats 4000000 in
theorem inPlace_ins (w : World) (B a : Nat) (k : Int) (n : Nat) (po : Option Addr) (pn pc : Nat) (bo : Option Addr) (bn bc : Nat) (so : Option Addr) (sn sc : Nat) (ws : Int) (P body : List Int) (st : List Nat)
  (hPO : PO w B a k n po pn pc (.slice bo bn bc) (.slice so sn sc) ws P body st) (hbb : bn ≤ 65536) (hss : sn ≤ 65536) (hB : B ≤ w.heap.size) (i : Nat) (hi : ¬ (k = 3 ∧ i = 0)) (his : i ≤ sn) (hn : n ≤ 65536)
  (c : Cl) (ka va : Option Addr) (kc vc : Nat) (hk : Sl w ka c.key.length kc c.key) (hv : Sl w va c.val.length vc c.val) (fk : Far ka c.key.length (.slice bo bn bc)) (fv : Far va c.val.length (.slice bo bn bc)) (hkl : c.key.length ≤ 65536) (hvl : c.val.length ≤ 65536)
  (hbeg : c.key.take P.length = P) (hfs : Far po pn (.slice so sn sc)) (hfit : 10 + pn + 2 * sn + bn + (qB P.length c).length + 2 ≤ n) :
  Calls Tryz.prog 215 #[.pointer (some ⟨a, 0, none⟩), .int .i64 (i : Int), .int .i64 (i : Int), .agg #[.slice ka c.key.length kc, .int .i64 c.kd, .slice va c.val.length vc, .int .i64 c.pg, .int .i64 c.ct]] w
   (QuTo w B a k n po pn pc (.slice bo bn bc) (.slice so sn sc) ws P (body ++ qB P.length c) (st.take i ++ [bn] ++ st.drop i) (.bool true)) := by
 have hpl := hPO.pre.hlen
 have hPk : P.length ≤ c.key.length := by rw [← hbeg, List.length_take]; omega
 obtain ⟨x, hx⟩ : ∃ x, w.alloc (.cells #[.slice ka c.key.length kc, .int .i64 c.kd, .slice va c.val.length vc, .int .i64 c.pg, .int .i64 c.ct] 41) = x := ⟨_, rfl⟩
 have hbx : Below w.heap.size w x := by rw [← hx]; exact bl_al (Below.refl _ _) (Nat.le_refl _) _
 obtain ⟨s, hs⟩ : ∃ s, w.heap.size = s := ⟨_, rfl⟩
 have hc5 : C5 x s (.slice ka c.key.length kc) (.int .i64 c.kd) (.slice va c.val.length vc) (.int .i64 c.pg) (.int .i64 c.ct) := by rw [← hx, ← hs]; exact C5.box _ _ _ _ _ _
 obtain ⟨z0, z1, z2, z3, z4⟩ := hc5.cells
 have hrx : QR x a k n (.slice po pn pc) (.slice bo bn bc) (.slice so sn sc) ws := box_on hPO.row hbx
 obtain ⟨c0, c1, c2, c3, c4, c5⟩ := hrx.cells
 obtain ⟨qo, qn, qc, hqc, hhd⟩ := head_row k i po pn pc
 obtain ⟨rfl, rfl, rfl⟩ : qo = po ∧ qn = pn ∧ qc = pc := by
  rcases hqc with ⟨_, _, _, h4⟩ | ⟨h1, h2, h3, _⟩
  ·exact absurd h4 hi
  ·exact ⟨h1, h2, h3⟩
 have HHD := hidden (hhd x a n _ _ ws hrx)
 have HSW : Hid (Calls Tryz.prog 91 #[.int .i64 k, .int .i64 (i : Int)] x fun e w' => e = .returned (.bool false) ∧ w' = x) := hidden (by
  have := standsWhole_any k (i : Int) x
  rwa [decide_eq_false (show ¬ (k = 3 ∧ (i : Int) = 0) by omega)] at this)
 have HHP : Hid (Calls Tryz.prog 218 #[.slice ka c.key.length kc, .slice qo qn qc] x fun e w' => e = .returned (.bool true) ∧ w' = x) := hidden (by
  have := hasPrefix_any ka qo c.key.length qn kc qc c.key P x (hk.on (Nat.le_refl _) hbx) (hPO.pre.on (Nat.le_refl _) hbx)
  rwa [decide_eq_true hbeg] at this)
 obtain ⟨M, hM⟩ : ∃ M, (body ++ qB P.length c).length = M := ⟨_, rfl⟩
 have hbn : bn = body.length := hPO.ob.len
 have hMl : M = bn + (qB P.length c).length := by rw [← hM, List.length_append, hbn]
 have HAP : Hid (∀ u, Below x.heap.size x u → Calls Tryz.prog 128 #[.agg (eV none 0 0 ka c.key.length kc c.kd va c.val.length vc c.pg c.ct), .slice bo bn bc, .int .i64 (qn : Int)] u fun e w' => ∃ ao cp, e = .returned (.slice ao M cp) ∧ Hid (OwnB w' B (.slice ao M cp) (body ++ qB P.length c)) ∧ Hid (Gr x (.slice bo bn bc) w' (.slice ao M cp))) := by
  refine hidden fun u hu => ?_
  have hwu := bl_go hbx (Nat.le_refl _) hu
  have h := eappended_any (.slice bo bn bc) B body none 0 0 ka c.key.length kc c.kd va c.val.length vc c.pg c.ct [] c.key c.val P.length u (hPO.ob.on (Nat.le_refl _) hwu) (Nat.le_trans hB hwu.size) (Sl.nil_any _ _ _ fun _ => rfl) (hk.on (Nat.le_refl _) hwu) (hv.on (Nat.le_refl _) hwu) (.inl rfl) fk fv (by omega) (by omega)
  rw [hpl] at h
  refine h.mono ?_
  rintro e w' ⟨v', rfl, HO, HG⟩
  obtain ⟨ao, cp, rfl⟩ := HO.out.shape
  have e1 : (body ++ qB qn ⟨[] ++ c.key, c.kd, c.val, c.pg, c.ct⟩).length = M := by rw [← hM, hpl]; rfl
  rw [e1] at HO HG ⊢
  refine ⟨ao, cp, rfl, hidden ?_, hidden ((Gr.ofBelow _ hu).trans HG.out)⟩
  rw [hpl]
  exact HO.out
 have hapa : (Value.slice bo bn bc).ownBlock ≠ some a := by
  have := hPO.row
  unfold QR at this
  exact hPO.ob.apart this (by decide)
 have hapS : (Value.slice so sn sc).ownBlock ≠ some a := by
  have := hPO.row
  unfold QR at this
  exact hPO.on.apart this (by decide)
 have hapN := hPO.ob.apartN hPO.on
 have hapB := hPO.on.apartB hPO.ob
 have HPO := hidden hPO
 have HPX := hidden (hPO.go hbx)
 have HBX := hidden hbx
 have HAPA := hidden (And.intro hapa (And.intro hapS (And.intro hapN hapB)))
 have HPL := hidden hpl
 have HM := hidden hM
 have HBN := hidden hbn
 have HS := hidden hs
 obtain ⟨st', hst'⟩ : ∃ st', st.take i ++ [bn] ++ st.drop i = st' := ⟨_, rfl⟩
 obtain ⟨body', hbd'⟩ : ∃ body', body ++ qB P.length c = body' := ⟨_, rfl⟩
 rw [hst', hbd']
 rw [hbd'] at HAP HM
 have HST' := hidden hst'
 have HBD' := hidden hbd'
 have HBW := hidden hB
 have hbnI : (bn : Int) ≤ 65536 := by omega
 have hMI : (M : Int) ≤ 200000 := by omega
 have hiI : (i : Int) ≤ 65536 := by omega
 have hnI : (n : Int) ≤ 65536 := by omega
 have HFIT : Hid (10 + qn + 2 * sn + bn + (M - bn) + 2 ≤ n ∧ bn ≤ M) := hidden (by omega)
 have HQN : Hid (qn ≤ 65536) := hidden (by omega)
 have HFS := hidden hfs
 clear hst' hbd' hfs hPO hk hv fk fv hbx hc5 hrx hhd hqc hi hbeg hpl hPk hM hMl hbn hapa hapS hapN hapB hB hfit
 go_enter Tryz.func215, Tryz.ntmps215
 go_upto_region 7 with (first | (go_at_call 91; refine same_call HSW.out ?_) | (go_at_call 129; refine same_call HHD.out ?_) | (go_at_call 218; refine same_call HHP.out ?_))
 go_cut [11] from 37 to 45 (fun v u => ∃ ao cp, v = .slice ao M cp ∧ Hid (OwnB u B (.slice ao M cp) body') ∧ Hid (Gr x (.slice bo bn bc) u (.slice ao M cp)))
 case first =>
  go_wp2_with fail
  go_region_with (first | (go_at_call 128; refine (HAP.out _ (by first | exact Below.refl _ _ | exact (Below.refl _ _).drew | exact bl_dr (Below.refl _ _) _)).mono ?_; rintro e w1 ⟨ao, cp, rfl, HO1, HG1⟩))
  all_goals (try go_wp2_with fail)
  all_goals go_meet
  all_goals exact ⟨ao, cp, rfl, by first | exact HO1 | exact hidden (HO1.out.on (Nat.le_refl _) (Below.refl _ _).drew) | exact hidden (HO1.out.on (Nat.le_refl _) (bl_dr (Below.refl _ _) _)), by first | exact HG1 | exact hidden (HG1.out.trans (Gr.ofBelow _ (Below.refl _ _).drew)) | exact hidden (HG1.out.trans (Gr.ofBelow _ (bl_dr (Below.refl _ _) _)))⟩
 obtain ⟨ao, cp, rfl, HO1, HG1⟩ := hcut
 obtain ⟨w1, hw1⟩ : ∃ w1, w1 = wc := ⟨_, rfl⟩
 subst hw1
 clear z0 z1 z2 z3 z4 c0 c1 c2 c3 c4 c5 HSW HHD HHP HAP
 have HR1 : Hid (QR w1 a k n (.slice qo qn qc) (.slice bo bn bc) (.slice so sn sc) ws) := hidden (HPX.out.row.gr HG1.out HAPA.out.1)
 obtain ⟨Z, hZ⟩ : ∃ Z, 10 + qn + 2 * sn + bn = Z := ⟨_, rfl⟩
 have HFL : Hid (∀ u, Below w1.heap.size w1 u → Calls Tryz.prog 210 #[.pointer (some ⟨a, 0, none⟩)] u fun e w' => e = .returned (.int .i64 (Z : Int)) ∧ w'.cell? ⟨a, 1, none⟩ = some (.int .i64 (n : Int)) ∧ Hid (Below w1.heap.size w1 w')) := by
  refine hidden fun u hu => (filled_any u a k n qo qn qc bo bn bc so sn sc ws (box_on HR1.out hu) (by have := HQN.out; omega) (by omega) (by omega)).mono ?_
  rintro e w' ⟨rfl, q, rfl⟩
  rw [hZ]
  have hb := bl_dr hu q
  exact ⟨rfl, (show QR (u.drewN q) a k n (.slice qo qn qc) (.slice bo bn bc) (.slice so sn sc) ws from box_on HR1.out hb).cells.2.1, hidden hb⟩
 have c1 := HR1.out.cells.2.1
 have hbM : (bn : Int) ≤ (M : Int) := by have := HFIT.out; omega
 have hZI : (Z : Int) ≤ 65536 := by have := HFIT.out; omega
 have HZF : Hid (Z + (M - bn) + 2 ≤ n) := hidden (by have := HFIT.out; omega)
 have hZn : ¬ (n : Int) < (Z : Int) + (M : Int) - (bn : Int) + 2 := by have := HZF.out; omega
 clear hZ
 go_upto_region 8 with fail
 go_cut [63] from 46 to 63 (fun v u => v = .bool false ∧ Hid (Below w1.heap.size w1 u))
 case first =>
  go_wp2_with fail
  go_region_with (first | (go_at_call 210; refine (HFL.out _ (by first | exact Below.refl _ _ | exact (Below.refl _ _).drew | exact bl_dr (Below.refl _ _) _)).mono ?_; rintro e w2 ⟨rfl, y1, HB2⟩))
  all_goals (try go_wp2_with fail)
  all_goals go_meet
  all_goals exact ⟨by go_unwrap; simp; omega, by first | exact HB2 | exact hidden HB2.out.drew | exact hidden (bl_dr HB2.out _)⟩
 obtain ⟨rfl, HB2⟩ := hcut
 obtain ⟨w2, hw2⟩ : ∃ w2, w2 = wc := ⟨_, rfl⟩
 subst hw2
 clear c1 HFL hZn hZI HZF
 have HW2 : Hid (Below w1.heap.size w1 w2) := HB2
 have HR2 : Hid (QR w2 a k n (.slice qo qn qc) (.slice bo bn bc) (.slice so sn sc) ws) := hidden (box_on HR1.out HB2.out)
 go_wp2_with fail
 go_loopw [12] (fun j wr => j = .int .i64 (i : Int) ∧ wr = w2) (fun _ _ => 0)
 case atStart => exact ⟨rfl, by first | rfl | trivial⟩
 case round =>
  obtain ⟨rfl, rfl⟩ := hrel
  have HSN : Hid (sn = st.length) := hidden HPO.out.on.len
  have HOS2 : Hid (OwnN wr B (.slice so sn sc) st) := hidden ((HPX.out.on.gr HG1.out HAPA.out.2.2.2).below HB2.out)
  obtain ⟨c0, c1, c2, c3, c4, c5⟩ := HR2.out.cells
  have f3 := HR2.out.free 3
  have f4 := HR2.out.free 4
  obtain ⟨u3, hu3⟩ : ∃ u3, (wr.setCell ⟨a, 3, none⟩ (.slice ao M cp)).alloc (.cells #[.int .i64 (bn : Int)] 3) = u3 := ⟨_, rfl⟩
  have hs3 : (wr.setCell ⟨a, 3, none⟩ (.slice ao M cp)).heap.size = wr.heap.size := by simp
  have hb3 : Below (wr.setCell ⟨a, 3, none⟩ (.slice ao M cp)).heap.size (wr.setCell ⟨a, 3, none⟩ (.slice ao M cp)) u3 := by rw [← hu3]; exact bl_al (Below.refl _ _) (Nat.le_refl _) _
  have hcs : Cf (· = a) wr (wr.setCell ⟨a, 3, none⟩ (.slice ao M cp)) := Cf.set _ _ _ _
  have hr2 := HR2.out
  unfold QR at hr2
  have HOB2 := HO1.out.on (Nat.le_refl _) HB2.out
  have HQ3 : Hid (QR u3 a k n (.slice qo qn qc) (.slice ao M cp) (.slice so sn sc) ws ∧ OwnB u3 B (.slice ao M cp) body' ∧ OwnN u3 B (.slice so sn sc) st ∧ u3.heap.size = wr.heap.size + 1) := hidden ⟨box_on (HR2.out.set3 _) hb3, (HOB2.cf hcs (HOB2.apart hr2 (by decide))).on (Nat.le_refl _) hb3, (HOS2.out.cf hcs (HOS2.out.apart hr2 (by decide))).below hb3, by rw [← hu3]; simp⟩
  have HRP : Hid (Calls Tryz.prog 117 #[.slice so sn sc, .int .i64 (i : Int), .int .i64 (i : Int), .slice (some ⟨wr.heap.size, 0, none⟩) 1 1] u3 (RN.To u3 B (.slice so sn sc) (i + 1 + (sn - i)) ((NI st).take i ++ NI [bn] ++ (NI st).drop i))) := hidden (by
   have h1 := HQ3.out.2.2.1
   unfold OwnN at h1
   rw [← HSN.out] at h1
   have h2 : u3.ownsRow wr.heap.size 3 1 (.slice (some ⟨wr.heap.size, 0, none⟩) 1 1) 1 (NI [bn]) := own_oneN (fr := (0, 0)) (by rw [← hu3]; have := heap_alloc_last (wr.setCell ⟨a, 3, none⟩ (.slice ao M cp)) (.cells #[.int .i64 (bn : Int)] 3); rw [hs3] at this; exact this) rfl
   refine RN.rep_any u3 B wr.heap.size sn 1 i i _ _ _ _ h1 h2 (NI_one _) (NI_one _) (.inr fun e => ?_) (Nat.le_refl _) his (by omega) ?_ (.inr (by omega))
   ·have h3 := HOS2.out
    unfold OwnN at h3
    have := (h3.lt wr.heap.size (by rw [← e]; rfl)).2
    omega
   ·have h4 := HQ3.out.2.2.2
    have h5 := HBW.out
    have h6 := HBX.out.size
    have h7 := HG1.out.grow.size
    have h8 := HB2.out.size
    omega)
  have HCA : Hid (Cf (QZ a (.slice bo bn bc) (.slice so sn sc)) w u3) := hidden (((((Cf.of_below HBX.out).go (Cf.ofGr HG1.out (fun g e => .inr (.inl e)))).go (Cf.of_below HB2.out)).go (hcs.wideQ (fun b e => .inl e))).go (Cf.of_below hb3))
  clear hr2 HOB2 hcs hb3
  go_wp2_with (first | (go_at_call 117; refine HRP.out.mono ?_; rintro e w4 ⟨so4, sc4, rfl, HO4, HG4⟩; refine Hid.out ?_))
  apply hidden
  have HR4 : Hid (QR w4 a k n (.slice qo qn qc) (.slice ao M cp) (.slice so sn sc) ws) := hidden (HQ3.out.1.gr HG4.out HAPA.out.2.1)
  clear c0 c1 c2 c3 c4 c5 f3 f4 HRP hu3
  obtain ⟨c0, c1, c2, c3, c4, c5⟩ := HR4.out.cells
  have f4 := HR4.out.free 4
  go_wp2
  go_ret
  have hr4 := HR4.out
  unfold QR at hr4
  have hcs : Cf (· = a) w4 (w4.setCell ⟨a, 4, none⟩ (.slice so4 (i + 1 + (sn - i)) sc4)) := Cf.set _ _ _ _
  obtain ⟨_, qb, qs, _⟩ := HQ3.out
  have hob4 := qb.gr HG4.out (qb.apartN qs)
  have hon4 : OwnN w4 B (.slice so4 (i + 1 + (sn - i)) sc4) st' := by
   unfold OwnN
   rw [← HST'.out, NIq, ← NIq_take, ← NIq_drop]
   have e : (st.take i ++ [bn] ++ st.drop i).length = i + 1 + (sn - i) := by have := HSN.out; simp; omega
   rw [e]
   exact HO4.out
  have hcw : Cf (QZ a (.slice bo bn bc) (.slice so sn sc)) w (w4.setCell ⟨a, 4, none⟩ (.slice so4 (i + 1 + (sn - i)) sc4)) := (HCA.out.go (Cf.ofGr HG4.out (fun g e => .inr (.inr e)))).go (hcs.wideQ (fun b e => .inl e))
  have hpo := HPO.out
  have hfarv := hpo.far
  have hpre : Sl (w4.setCell ⟨a, 4, none⟩ (.slice so4 (i + 1 + (sn - i)) sc4)) qo qn qc P := hpo.pre.cf hcw (by
   rcases hpo.pre.apartQ hpo.row with h | h
   ·exact .inl h
   ·rcases hfarv with h1 | h1
    ·exact .inl h1
    ·rcases HFS.out with h2 | h2
     ·exact .inl h2
     ·right
      intro p hp
      rintro (e | e | e)
      ·exact h p hp e
      ·exact h1 p hp e
      ·exact h2 p hp e)
  have hpre3 : Sl u3 qo qn qc P := hpo.pre.cf HCA.out (by
   rcases hpo.pre.apartQ hpo.row with h | h
   ·exact .inl h
   ·rcases hfarv with h1 | h1
    ·exact .inl h1
    ·rcases HFS.out with h2 | h2
     ·exact .inl h2
     ·right
      intro p hp
      rintro (e | e | e)
      ·exact h p hp e
      ·exact h1 p hp e
      ·exact h2 p hp e)
  have hsz : w.heap.size ≤ u3.heap.size := HCA.out.size
  refine ⟨rfl, hidden ⟨_, _, ⟨HR4.out.set4 _, hpre, hob4.cf hcs (hob4.apart hr4 (by decide)), hon4.cf hcs (hon4.apart hr4 (by decide)), hfarv.gr HPX.out.pre HG1.out, hpo.ha⟩, HFS.out.gr hpre3 HG4.out, HG1.out.own.imp id (fun ⟨g, h1, h2⟩ => ⟨g, h1, Nat.le_trans HBX.out.size h2⟩), HG4.out.own.imp id (fun ⟨g, h1, h2⟩ => ⟨g, h1, Nat.le_trans hsz h2⟩)⟩, hidden hcw⟩
end Go.Proofs.YtlhkinlgolcpaaaGreatDoor

namespace Go.Proofs.YtlhkinlgolcpaaaGreatDoor
set_option maxRecDepth 100000
open Go.RowKit
theorem PO.pgq {w : World} {B a : Nat} {k : Int} {n : Nat} {po : Option Addr} {pn pc : Nat} {bo : Option Addr} {bn bc : Nat} {so : Option Addr} {sn sc : Nat} {ws : Int} {P body : List Int} {st : List Nat} (h : PO w B a k n po pn pc (.slice bo bn bc) (.slice so sn sc) ws P body st) (hw : Wf body) (hb : body.length ≤ 140737488355328) (hs : st.length ≤ 140737488355328) : PgQ w a k n po pn pc bo bn bc so sn sc ws P body st := by
 obtain ⟨bo', bc', so', sc', e1, e2, hp⟩ := h.pg hw hb hs
 injection e1 with i1 i2 i3
 injection e2 with i4 i5 i6
 subst i1 i3 i4 i6
 rw [← i2, ← i5] at hp
 exact hp
end Go.Proofs.YtlhkinlgolcpaaaGreatDoor
