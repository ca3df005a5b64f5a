import Derived.Test.YtbkhjeacmmbabaaGreatDoorJ29
namespace Go.Proofs.YtbkhjeacmmbabaaGreatDoor
set_option maxRecDepth 100000
set_option maxHeartbeats 4000000
open Go.RowKit
theorem SlE.wf {w : World} {G : Nat} {ao : Option Addr} {n cap : Nat} {cs : List Cl} (h : SlE w G ao n cap cs) : ∀ c ∈ cs, c.Wf := by
 intro c hc
 obtain ⟨i, hi, e⟩ := List.getElem_of_mem hc
 rcases h.hat with h0 | ⟨b, off, _, _, A⟩
 ·have := h.hlen; omega
 ·obtain ⟨_, _, _, _, _, _, _, _, _, h1, key, _, _, _, _, _, _, s1, s2, s3, e2, _⟩ := A i c (by rw [zI hi, e])
  exact ⟨by rw [← e2]; exact s1.wf.append s2.wf, s3.wf⟩
def Ld (w : World) (b : Nat) (k : Int) (n : Nat) (cs : List Cl) : Prop :=
 ∃ po pn pc bo bn bc so sn sc, PgQ w b k n po pn pc bo bn bc so sn sc 0 (shP k cs) (qbd (shP k cs).length (whl k) cs) (qst (shP k cs).length (whl k) 0 cs)
theorem LaidTo.ld {k : Int} {n : Nat} {cs : List Cl} {w w' : World} {e : Ending} (h : LaidTo k n cs w e w') (A : ∀ c ∈ cs, c.Wf) (hf : ∀ c ∈ cs, c.fit) (hm : cs.length ≤ 65536) (hz : (qbd (shP k cs).length (whl k) cs).length ≤ 1099511627776) :
  ∃ b, e = .returned (.pointer (some ⟨b, 0, none⟩)) ∧ Hid (Ld w' b k n cs) ∧ Hid (Below w.heap.size w w') ∧ Hid (w.heap.size ≤ b) := by
 obtain ⟨w1, a, po, pn, pc, vb, vs, rfl, HL, HP, HB, _⟩ := h
 have hb := HL.out.be
 obtain ⟨bo, bc, so, sc, rfl, rfl, B⟩ := HL.out.pg (HP.out.on Lr hb) (qbd_wf _ _ _ fun c hc => ⟨A c hc, hf c hc⟩) zq (by rw [zbi]; omega)
 exact ⟨a, rfl, zaa ⟨po, pn, pc, bo, _, bc, so, _, sc, B⟩, zaa (zae HB.out Lr hb), zaa (zN HB.out.size HL.out.ha)⟩
theorem written_ld {w : World} {b : Nat} {k : Int} {n : Nat} {cs : List Cl} (h : Ld w b k n cs) (hk : isKd k) (hn : pw n) (B : szQ k (shP k cs).length cs ≤ n) (ht : Tab w) (h0 : 1 < w.heap.size) :
  Calls Tryz.prog 87 #[.pointer (some ⟨b, 0, none⟩)] w fun e w' => ∃ g, e = .returned (.slice (some ⟨g, 0, none⟩) n n) ∧ w.heap.size ≤ g ∧ Hid (Bk w' g (pkB k n cs)) ∧ Hid (Below w.heap.size w w') := by
 obtain ⟨po, pn, pc, bo, bn, bc, so, sn, sc, A⟩ := h
 have hz := zbj k (shP k cs).length cs
 have C := zas hn
 have := written_any w b k n po pn pc bo bn bc so sn sc 0 _ _ _ A hk zq (by rw [zbi]; omega) (fun s hs => by have := qst_le _ _ _ _ s hs; omega) ht h0
 rw [wrL_laid] at this
 exact this
theorem bytesQ_any (w : World) (a : Nat) (k : Int) (n : Nat) (po : Option Addr) (pn pc : Nat) (bo : Option Addr) (bn bc : Nat) (so : Option Addr) (sn sc : Nat) (ws : Int) (P body : List Int) (st : List Nat) (cs : List Cl) (h : PgQ w a k n po pn pc bo bn bc so sn sc ws P body st) (hl : LayQ k P cs body st) (hr : Rs cs) (hk : isKd k) (hn : pw n) (A : szQ k (shP k cs).length cs ≤ n) (ht : Tab w) (h0 : 1 < w.heap.size) :
  Calls Tryz.prog 92 #[.pointer (some ⟨a, 0, none⟩)] w fun e w' => ∃ g, e = .returned (.slice (some ⟨g, 0, none⟩) n n) ∧ Hid (w.heap.size ≤ g ∧ Bk w' g (pkB k n cs)) ∧ Hid (Below w.heap.size w w') := by
 have H := zas hn
 have hz := zbj k (shP k cs).length cs
 have B : sn = cs.length := by rw [← h.starts.hlen, hl.len]
 have E1 : Hid (∀ u, Below w.heap.size w u → Calls Tryz.prog 134 #[.pointer (some ⟨a, 0, none⟩)] u fun e w' => ∃ g, e = .returned (.slice (some ⟨g, 0, none⟩) sn sn) ∧ (w'.cell? ⟨a, 0, none⟩ = some (.int .i64 k) ∧ w'.cell? ⟨a, 1, none⟩ = some (.int .i64 (n : Int))) ∧ Hid (SlE w' g (some ⟨g, 0, none⟩) sn sn cs ∧ Below w.heap.size w w' ∧ g ≤ w'.heap.size)) := by
  refine zaa fun u hu => (entries_any u a k n po pn pc bo bn bc so sn sc ws P body st cs (h.on hu) hl zq).mono ?_
  rintro e w' ⟨g, rfl, HS, HB⟩
  have hb := zae hu Lr HB.out.1
  obtain ⟨c0, c1, _⟩ := (h.on hb).cells
  exact ⟨g, rfl, ⟨c0, c1⟩, zaa ⟨HS.out, hb, Nat.le_of_lt HB.out.2.2⟩⟩
 have E2 : Hid (∀ u g w1, Hid (SlE w1 g (some ⟨g, 0, none⟩) sn sn cs ∧ Below w.heap.size w w1 ∧ g ≤ w1.heap.size) → Below w1.heap.size w1 u → Calls Tryz.prog 86 #[.int .i64 k, .int .i64 (n : Int), .slice (some ⟨g, 0, none⟩) sn sn] u fun e w' => ∃ b, e = .returned (.pointer (some ⟨b, 0, none⟩)) ∧ Hid (Ld w' b k n cs ∧ Below w.heap.size w w')) := by
  refine zaa fun u g w1 hg hu => ?_
  obtain ⟨g1, g2, g3⟩ := hg.out
  refine (laid_any k n g _ sn sn cs u (g1.on hu) (zN g3 hu.size) hr hl.fit zq zq).mono ?_
  intro e w' hq
  obtain ⟨b, rfl, HL, HB, _⟩ := hq.ld g1.wf hl.fit zq zq
  exact ⟨b, rfl, zaa ⟨HL.out, zae (zae g2 Lr hu) Lr HB.out⟩⟩
 have E3 : Hid (∀ u b w2, Hid (Ld w2 b k n cs ∧ Below w.heap.size w w2) → Below w2.heap.size w2 u → Calls Tryz.prog 87 #[.pointer (some ⟨b, 0, none⟩)] u fun e w' => ∃ g, e = .returned (.slice (some ⟨g, 0, none⟩) n n) ∧ Hid (w.heap.size ≤ g ∧ Bk w' g (pkB k n cs)) ∧ Hid (Below w.heap.size w w')) := by
  refine zaa fun u b w2 hg hu => ?_
  have hb := zae hg.out.2 Lr hu
  obtain ⟨q1, q2, q3, q4, q5, q6, q7, q8, q9, C⟩ := hg.out.1
  refine (written_ld ⟨q1, q2, q3, q4, q5, q6, q7, q8, q9, C.on hu⟩ hk hn A (ht.on hb h0) (zO h0 hb.size)).mono ?_
  rintro e w' ⟨g, rfl, hg, HK, HB⟩
  exact ⟨g, rfl, zaa ⟨zN hb.size hg, HK.out⟩, zaa (zae hb Lr HB.out)⟩
 obtain ⟨c0, c1, c2, c3, c4, c5⟩ := h.cells
 clear h hl hr hk hn ht hz B A
 go_enter Tryz.func92, Tryz.ntmps92
 go_wp2_with fail
 go_region_with (first
  | (go_at_call 87; refine (E3.out _ b w2 D zW1).mono ?_; rintro e w3 ⟨g3, rfl, E, F⟩)
  | (go_at_call 86; refine (E2.out _ g w1 G zW1).mono ?_; rintro e w2 ⟨b, rfl, D⟩)
  | (go_at_call 134; refine (E1.out _ zW1).mono ?_; rintro e w1 ⟨g, rfl, ⟨y0, y1⟩, G⟩))
 all_goals
  go_wp2
  go_ret
  exact ⟨g3, rfl, E, F⟩
structure PO (w : World) (B a : Nat) (k : Int) (n : Nat) (po : Option Addr) (pn pc : Nat) (vb vs : Value) (ws : Int) (P body : List Int) (st : List Nat) : Prop where
 row : QR w a k n (.slice po pn pc) vb vs ws
 pre : Sl w po pn pc P
 ob : OwnB w B vb body
 on : OwnN w B vs st
 far : Far po pn vb
 ha : B ≤ a
theorem PO.go {w v : World} {B a : Nat} {k : Int} {n : Nat} {po : Option Addr} {pn pc : Nat} {vb vs : Value} {ws : Int} {P body : List Int} {st : List Nat} (h : PO w B a k n po pn pc vb vs ws P body st) (hb : Below w.heap.size w v) : PO v B a k n po pn pc vb vs ws P body st :=
 ⟨zag h.row hb, h.pre.on Lr hb, h.ob.on Lr hb, h.on.below hb, h.far, h.ha⟩
theorem PO.pg {w : World} {B a : Nat} {k : Int} {n : Nat} {po : Option Addr} {pn pc : Nat} {vb vs : Value} {ws : Int} {P body : List Int} {st : List Nat} (h : PO w B a k n po pn pc vb vs ws P body st) (hw : Wf body) (hb : body.length ≤ 140737488355328) (hs : st.length ≤ 140737488355328) :
  ∃ bo bc so sc, vb = .slice bo body.length bc ∧ vs = .slice so st.length sc ∧ PgQ w a k n po pn pc bo body.length bc so st.length sc ws P body st := by
 obtain ⟨bo, bc, rfl, A, _⟩ := h.ob.sl hw hb
 obtain ⟨so, sc, rfl, C⟩ := h.on.sln hs
 exact ⟨bo, bc, so, sc, rfl, rfl, ⟨h.row, h.pre, A, C⟩⟩
def Rz (w u : World) (a : Nat) (k0 : Int) (n gp pn pc gb bn bc : Nat) (P BD : List Int) : Prop :=
 QR u a k0 n (.slice (some ⟨gp, 0, none⟩) pn pc) (.slice (some ⟨gb, 0, none⟩) bn bc) (.slice none 0 0) 0 ∧ OwnB u w.heap.size (.slice (some ⟨gp, 0, none⟩) pn pc) P ∧ OwnB u w.heap.size (.slice (some ⟨gb, 0, none⟩) bn bc) BD ∧ gp < a ∧ gb < a ∧ gp ≠ gb ∧ w.heap.size ≤ a ∧ Below w.heap.size w u
def Cl1 (w u u' : World) (X : List Int) (g m c : Nat) : Prop := OwnB u' w.heap.size (.slice (some ⟨g, 0, none⟩) m c) X ∧ u.heap.size ≤ g ∧ g < u'.heap.size ∧ Below u.heap.size u u'
theorem Rz.of {w u0 u1 u2 u3 u4 : World} {k0 : Int} {n gp pn pc gb bn bc : Nat} {P BD : List Int} (h0 : Below w.heap.size w u0) (h1 : Cl1 w u0 u1 P gp pn pc) (B : Below u1.heap.size u1 u2) (h2 : Cl1 w u2 u3 BD gb bn bc) (A : Below u3.heap.size u3 u4) :
  Rz w (u4.alloc (.cells #[.int .i64 k0, .int .i64 (n : Int), .slice (some ⟨gp, 0, none⟩) pn pc, .slice (some ⟨gb, 0, none⟩) bn bc, .slice none 0 0, .int .i64 0] 128)) u4.heap.size k0 n gp pn pc gb bn bc P BD := by
 obtain ⟨a1, a2, a3, a4⟩ := h1
 obtain ⟨b1, b2, b3, b4⟩ := h2
 have e1 := B.size
 have e2 := b4.size
 have e3 := A.size
 have e4 := h0.size
 have hb := zab (Below.refl _ u4) Lr (.cells #[.int .i64 k0, .int .i64 (n : Int), .slice (some ⟨gp, 0, none⟩) pn pc, .slice (some ⟨gb, 0, none⟩) bn bc, .slice none 0 0, .int .i64 0] 128)
 refine ⟨heap_alloc_last u4 _, ((((a1.on Lr B).on Lr b4).on Lr A).on Lr hb), (b1.on Lr A).on Lr hb, zq, zq, zq, by have := a4.size; omega, ?_⟩
 exact zae (zae (zae (zae (zae h0 Lr a4) Lr B) Lr b4) Lr A) Lr hb
theorem equal7 (ao bo : Option Addr) (n m c d : Nat) (la lb : List Int) (w : World) (ha : Sl w ao n c la) (hb : Sl w bo m d lb) :
  Calls Tryz.prog 80 #[.slice ao n c, .slice bo m d] w fun e w' => e = .returned (.bool (decide (la = lb))) ∧ w' = w := by
 have h1 := zar ha
 have h2 := zar hb
 have h3 := str_beq ha.wf hb.wf
 clear ha hb
 go_enter Tryz.func80, Tryz.ntmps80
 go_wp2
 go_ret
 exact ⟨rfl, rfl⟩
theorem chk_rs {k p : Int} : ∀ {pr : Option (List Int)} {cs : List Cl}, chk k p pr cs = 0 → Rs cs
 | _, [], _ => List.Pairwise.nil
 | pr, e :: r, h => by
  unfold chk at h
  split at h
  ·split at h
   ·exact List.Pairwise.cons (fun d hd => chk_first h d hd) (chk_rs h)
   ·simp at h
  ·simp at h
theorem chk_fit {k : Int} {n : Nat} {pr : Option (List Int)} {cs : List Cl} (h : chk k n pr cs = 0) (hn : pw n) : ∀ c ∈ cs, c.fit := fun c hc => (zcp h c hc).fit (by have := zas hn; omega)
theorem OwnB.sets {w : World} {B : Nat} {v : Value} {l : List Int} {b N j : Nat} {vs : List Value} (h : OwnB w B v l) (hr : RowC w b N) : OwnB (w.setCells b j vs) B v l := by
 refine h.same fun i e => ?_
 obtain ⟨cur, h1, _⟩ := hr
 have A := h.apart h1 zd
 have C : i < w.heap.size := by unfold OwnB at h; exact (h.lt i e).2
 exact World.heap_setCells_other _ _ _ _ C (fun h2 => A (by rw [e, h2]))
theorem zcl {w w' : World} {B C : Nat} {v : Value} {l m : List Int} {ao : Option Addr} {n c : Nat} (h : OwnB w B v l) (k : OwnB w' C (.slice ao n c) m) (hz : w.heap.size ≤ C) : Far ao n v := by
 right
 intro p hp e
 have h1 : p.block < w.heap.size := (World.ownsRow.lt h p.block e).2
 rcases k.2 with ⟨e2, _⟩ | ⟨g, cap, cur, e2, hg, _⟩
 ·injection e2 with e3
  rw [e3] at hp
  cases hp
 ·injection e2 with e3
  rw [e3] at hp
  injection hp with hp
  subst hp
  simp only at h1
  omega
theorem sl_far {w w' : World} {B : Nat} {v : Value} {l m : List Int} {ao : Option Addr} {n c : Nat} (hs : Sl w ao n c m) (h : OwnB w' B v l) (hz : w.heap.size ≤ B) : Far ao n v := by
 rcases hs.hat with h0 | ⟨b, off, rfl, A, _⟩
 ·exact .inl h0
 ·exact h.far fun p hp => by injection hp with hp; subst hp; exact zO A hz
theorem zbz (v : Value) (B : Nat) (l r : List Int) (ao : Option Addr) (n c : Nat) (w : World) (ho : OwnB w B v l) (hs : Sl w ao n c r) (hf : Far ao n v) (hl : l.length + n ≤ 140737488355328) (hB : B ≤ w.heap.size) :
  Calls Tryz.prog 101 #[v, .slice ao n c] w fun e w' => ∃ v', e = .returned v' ∧ Hid (OwnB w' B v' (l ++ r)) ∧ Hid (Gr w v w' v') := by
 have HS := zaa hs
 have HF := zaa hf
 have HO := zaa ho
 have M := hs.hlen
 have hn := hs.hroom
 clear hs hf ho
 go_enter Tryz.func101, Tryz.ntmps101
 go_wp2_with fail
 go_loopw [0, 5] (fun b i wr => ∃ k : Nat, k ≤ n ∧ i = .int .i64 k ∧ Hid (OwnB wr B b (l ++ r.take k)) ∧ Hid (Gr w v wr b)) (fun _ i _ => n - (intOf i).toNat)
 case atStart => exact ⟨0, zq, rfl, by simpa using HO, zaa (Gr.refl _ _)⟩
 case round =>
  obtain ⟨k, hk, rfl, A, HG⟩ := hrel
  clear HO
  have P : (k : Int) ≤ 140737488355328 := zq
  by_cases J : k < n
  ·have N : (k : Int) < (n : Int) := zq
   have C := zaa (HS.out.gr HG.out HF.out)
   have E := C.out.wf.getD k
   rcases C.out.hat with h | ⟨b', off', rfl, O, hc'⟩
   ·omega
   have F := hc' k J
   have D := take_snoc r k zq
   obtain ⟨y, hy⟩ : ∃ y, r.getD k 0 = y := ⟨_, rfl⟩
   rw [hy] at F D E
   have HT := zaa D
   have Q : B ≤ wr.heap.size := zN hB HG.out.grow.size
   have G : (l ++ r.take k).length + 1 ≤ 140737488355328 := by simp only [zG, zJ]; omega
   have H := zaa G
   clear hc' D hy G
   go_wp2_with (at_builtin; refine zat _ rfl _ _ rfl B (l ++ r.take k) [y] _ (some ⟨wr.heap.size, 0, none⟩) 1 1 rfl rfl (A.out.alloc _) (sl_one wr y E) H.out zso ?_; refine Hid.out ?_)
   apply zaa
   intro v2 w2 I g2
   have K : Hid (OwnB w2 B v2 (l ++ r.take (k + 1))) := zaa (by rw [HT.out]; simpa [zM] using I)
   have L := zaa ((HG.out.trans (Gr.alloc _ _ _)).trans g2)
   clear I g2 A HG F C HT H
   go_wp2
   go_roundw
   case rel => exact ⟨k + 1, zq, by go_num, K, L⟩
   case measure => simp [intOf]; omega
  ·have e : r.take k = r := List.take_of_length_le zq
   rw [e] at A
   go_wp2
   go_ret
   exact ⟨_, rfl, A, HG⟩
theorem zcg (v : Value) (B : Nat) (l r : List Int) (ao : Option Addr) (n c : Nat) (w : World) (ho : OwnB w B v l) (hs : Sl w ao n c r) (hf : Far ao n v) (hl : l.length + n ≤ 140737488355328) (hB : B ≤ w.heap.size) :
  Calls Tryz.prog 101 #[v, .slice ao n c] w fun e w' => ∃ v', e = .returned v' ∧ Hid (OwnB w' B v' (l ++ r)) ∧ Hid (Below B w w') :=
 (zbz v B l r ao n c w ho hs hf hl hB).mono fun e w' h => by
  obtain ⟨v', h1, h2, h3⟩ := h
  exact ⟨v', h1, h2, zaa (h3.out.below ho hB)⟩
theorem rrest_whole (k i : Int) (ao : Option Addr) (n c m : Nat) (w : World) (h : k = 3 ∧ i = 0) :
  Calls Tryz.prog 141 #[.int .i64 k, .int .i64 i, .slice ao n c, .int .i64 (m : Int)] w fun e w' => e = .returned (.slice ao n c) ∧ w' = w := by
 obtain ⟨rfl, rfl⟩ := h
 go_enter Tryz.func141, Tryz.ntmps141
 go_wp2
 go_ret
 exact ⟨rfl, rfl⟩
theorem rrest_cut (k i : Int) (ao : Option Addr) (n c m : Nat) (l : List Int) (w : World) (h : ¬ (k = 3 ∧ i = 0)) (hs : Sl w ao n c l) (hm : m ≤ n) :
  Calls Tryz.prog 141 #[.int .i64 k, .int .i64 i, .slice ao n c, .int .i64 (m : Int)] w fun e w' => (∃ a' c', e = .returned (.slice a' (n - m) c') ∧ Hid (Sl w a' (n - m) c' (l.drop m))) ∧ w' = w := by
 have hf := sl_from hs m hm
 have hc := hs.hcap
 have hr := hs.hroom
 have A := hs.hlen
 have F : (m : Int) ≤ (n : Int) := zq
 have G : m ≤ c := zq
 have E : (m : Int) ≤ (c : Int) := zq
 have H : ¬ (n : Int) < (m : Int) := zq
 have i1 : (m : Int) ≤ 140737488355328 := zq
 clear hs
 by_cases h3 : k = 3
 ·have hi : ¬ i = 0 := fun e => h ⟨h3, e⟩
  have I : (i == 0) = false := by simpa using hi
  subst h3
  clear h hi
  rcases hf with ⟨rfl, rfl, rfl⟩ | ⟨a, rfl, ⟨e, hS⟩ | ⟨e, hS⟩⟩
  ·obtain rfl : m = 0 := zq
   have HE : Hid (Sl w none 0 0 (l.drop 0)) := zaa (by rw [show l.drop 0 = [] from List.eq_nil_of_length_eq_zero (by simpa using A)]; exact Sl.nil_any _ _ _ (fun _ => rfl))
   go_enter Tryz.func141, Tryz.ntmps141
   go_wp2
   go_ret
   exact ⟨⟨_, _, rfl, HE⟩, rfl⟩
  ·have HS := zaa hS
   subst e
   obtain rfl : n = c := zq
   clear hS
   go_enter Tryz.func141, Tryz.ntmps141
   go_wp2
   go_ret
   exact ⟨⟨_, _, rfl, by simpa using HS⟩, rfl⟩
  ·have HS := zaa hS
   have B : c - m ≠ 0 := zq
   have C : m < c := zq
   have D : (m : Int) < (c : Int) := zq
   clear hS
   go_enter Tryz.func141, Tryz.ntmps141
   go_wp2
   go_ret
   exact ⟨⟨_, _, rfl, by simpa using HS⟩, rfl⟩
 ·have J : (k == 3) = false := by simpa using h3
  clear h h3
  rcases hf with ⟨rfl, rfl, rfl⟩ | ⟨a, rfl, ⟨e, hS⟩ | ⟨e, hS⟩⟩
  ·obtain rfl : m = 0 := zq
   have HE : Hid (Sl w none 0 0 (l.drop 0)) := zaa (by rw [show l.drop 0 = [] from List.eq_nil_of_length_eq_zero (by simpa using A)]; exact Sl.nil_any _ _ _ (fun _ => rfl))
   go_enter Tryz.func141, Tryz.ntmps141
   go_wp2
   go_ret
   exact ⟨⟨_, _, rfl, HE⟩, rfl⟩
  ·have HS := zaa hS
   subst e
   obtain rfl : n = c := zq
   clear hS
   go_enter Tryz.func141, Tryz.ntmps141
   go_wp2
   go_ret
   exact ⟨⟨_, _, rfl, by simpa using HS⟩, rfl⟩
  ·have HS := zaa hS
   have B : c - m ≠ 0 := zq
   have C : m < c := zq
   have D : (m : Int) < (c : Int) := zq
   clear hS
   go_enter Tryz.func141, Tryz.ntmps141
   go_wp2
   go_ret
   exact ⟨⟨_, _, rfl, by simpa using HS⟩, rfl⟩
theorem own_one8 (w : World) (x : Int) : OwnB (w.alloc (.cells #[.int .u8 x] 5)) w.heap.size (.slice (some ⟨w.heap.size, 0, none⟩) 1 1) [x] :=
 zcn (l := [x]) (heap_alloc_last w _) Lr (by unfold maxLen; simp)
theorem rbytes_any (k i : Int) (c : Cl) (ka va : Option Addr) (kc vc m : Nat) (w : World) (h1 : Sl w ka c.key.length kc c.key) (h2 : Sl w va c.val.length vc c.val) (hm : ¬ (k = 3 ∧ i = 0) → m ≤ c.key.length) (hl : c.key.length + c.val.length ≤ 35184372088832) :
  Calls Tryz.prog 105 #[.int .i64 k, .int .i64 i, .agg #[.slice ka c.key.length kc, .int .i64 c.kd, .slice va c.val.length vc, .int .i64 c.pg, .int .i64 c.ct], .int .i64 (m : Int)] w fun e w' => ∃ v, e = .returned v ∧ Hid (OwnB w' w.heap.size v (qB (if k = 3 ∧ i = 0 then 0 else m) c)) ∧ Hid (Below w.heap.size w w') := by
 obtain ⟨key, kd, val, pg, ct⟩ := c
 simp only at h1 h2 hm hl ⊢
 obtain ⟨kn, A4⟩ : ∃ kn, key.length = kn := ⟨_, rfl⟩
 obtain ⟨vn, C2⟩ : ∃ vn, val.length = vn := ⟨_, rfl⟩
 rw [A4] at h1 hm hl ⊢
 rw [C2] at h2 hl ⊢
 obtain ⟨x, hx⟩ : ∃ x, w.alloc (.cells #[.slice ka kn kc, .int .i64 kd, .slice va vn vc, .int .i64 pg, .int .i64 ct] 50) = x := ⟨_, rfl⟩
 have X : Below w.heap.size w x := by rw [← hx]; exact zab Br Lr _
 have A : C5 x w.heap.size (.slice ka kn kc) (.int .i64 kd) (.slice va vn vc) (.int .i64 pg) (.int .i64 ct) := by rw [← hx]; exact C5.box w _ _ _ _ _
 obtain ⟨M, hM⟩ : ∃ M, (if k = 3 ∧ i = 0 then 0 else m) = M := ⟨_, rfl⟩
 rw [hM]
 have E8 : M ≤ kn := by rw [← hM]; split <;> rename_i h <;> first | omega | exact hm h
 have HR : Hid (Calls Tryz.prog 141 #[.int .i64 k, .int .i64 i, .slice ka kn kc, .int .i64 (m : Int)] x fun e w' => (∃ a' c', e = .returned (.slice a' (kn - M) c') ∧ Hid (Sl x a' (kn - M) c' (key.drop M))) ∧ w' = x) := zaa (by
  have C3 := h1.on Lr X
  by_cases h : k = 3 ∧ i = 0
  ·rw [if_pos h] at hM
   subst hM
   refine (rrest_whole k i ka kn kc m x h).mono ?_
   rintro e w' ⟨rfl, rfl⟩
   exact ⟨⟨_, _, rfl, zaa (by simpa using C3)⟩, rfl⟩
  ·rw [if_neg h] at hM
   subst hM
   exact rrest_cut k i ka kn kc m key x h C3 (hm h))
 obtain ⟨s, hs⟩ : ∃ s, w.heap.size = s := ⟨_, rfl⟩
 rw [hs] at A
 have Y : s < x.heap.size := zaf A
 have C4 := zaa X
 have A5 := zaa A
 have HV := zaa (h2.on Lr X)
 obtain ⟨N, hN⟩ : ∃ N, kn - M = N := ⟨_, rfl⟩
 have F7 : N ≤ kn := zq
 have hQ : ∀ T, (if kd = 1 then uB (vn : Int) ++ val else uB (pg % 18446744073709551616) ++ uB (ct % 18446744073709551616)) = T → qB M ⟨key, kd, val, pg, ct⟩ = [kd % 256] ++ uB (N : Int) ++ key.drop M ++ T := by
  intro T hT
  unfold qB
  simp only
  rw [C2, hT, A4, hN]
  simp only [zM]
 have HQ := zaa hQ
 rw [hN] at HR
 obtain ⟨R, hR⟩ : ∃ R, key.drop M = R := ⟨_, rfl⟩
 rw [hR] at HR HQ
 have C6 : Hid (R.length = N) := zaa (by rw [← hR, zK, A4, hN])
 obtain ⟨QQ, C7⟩ : ∃ Q, qB M ⟨key, kd, val, pg, ct⟩ = Q := ⟨_, rfl⟩
 rw [C7] at HQ ⊢
 obtain ⟨b0, b1, b2, b3, b4⟩ := A.cells
 have i1 : (N : Int) ≤ 35184372088832 := zq
 have i2 : (vn : Int) ≤ 35184372088832 := zq
 clear h1 h2 hm hM X A hR hQ hN E8 C7
 go_enter Tryz.func105, Tryz.ntmps105
 go_wp2_with (go_at_call 141; refine HR.out.mono ?_; rintro e w1 ⟨⟨a1, c1, rfl, A6⟩, rfl⟩; refine Hid.out ?_)
 apply zaa
 clear HR hx
 obtain ⟨y, hy⟩ : ∃ y, w1.alloc (.cells #[.int .u8 (kd % 256)] 5) = y := ⟨_, rfl⟩
 have A7 : Below w1.heap.size w1 y := by rw [← hy]; exact zab Br Lr _
 have A8 : Hid (OwnB y w1.heap.size (.slice (some ⟨w1.heap.size, 0, none⟩) 1 1) [kd % 256]) := zaa (by rw [← hy]; exact own_one8 w1 _)
 have C8 := zaa A7
 have C9 : w1.heap.size ≤ y.heap.size := A7.size
 have F8 : IntKind.u64.wrap (N : Int) = (N : Int) := by rw [IntKind.wrap_u64]; omega
 have HU := zaa (zdo (N : Int) y zq zq)
 clear A7
 go_wp2_with (go_at_call 142; refine HU.out.mono ?_; rintro e w2 ⟨u2, rfl, A9, Z⟩; refine Hid.out ?_)
 apply zaa
 obtain ⟨ua, um, uc, rfl, us2, F9⟩ := A9.slu zq zq
 have D0 := zaa (A8.out.on Lr Z)
 have D3 := zaa (zcl A8.out A9 Lr)
 have D4 := zaa (zae C8.out Lr Z)
 have B0 : w1.heap.size ≤ w2.heap.size := zN C9 Z.size
 have D5 := zaa (zcg (.slice (some ⟨w1.heap.size, 0, none⟩) 1 1) w1.heap.size [kd % 256] (uB (N : Int)) ua um uc w2 D0.out us2 D3.out zso B0)
 clear HU A9 us2 Z D0 D3 A8 C8 C9 hy b0 b1 b2 b3 b4
 go_wp2_with (go_at_call 101; refine D5.out.mono ?_; rintro e w3 ⟨v3, rfl, A0, B1⟩; refine Hid.out ?_)
 apply zaa
 have B2 := zaa (D4.out.trans B1.out)
 have B3 : w1.heap.size ≤ w3.heap.size := zN B0 B1.out.size
 have D7 := zaa (A6.out.on Lr B2.out)
 have E9 := (zba (N : Int)).1
 obtain ⟨L3, B4⟩ : ∃ L, [kd % 256] ++ uB (N : Int) = L := ⟨_, rfl⟩
 have F4 : L3.length ≤ 11 := by rw [← B4]; simp only [zG, List.length_cons, List.length_nil]; omega
 rw [B4] at A0 HQ
 have D8 := zaa (zcg v3 w1.heap.size L3 R a1 N c1 w3 A0.out D7.out (sl_far A6.out A0.out Lr) zq B3)
 clear D5 B1 D4 B0 E9 B4 D7 A0
 go_wp2_with (go_at_call 101; refine D8.out.mono ?_; rintro e w4 ⟨v4, rfl, B, B5⟩; refine Hid.out ?_)
 apply zaa
 have A1 := zaa (B2.out.trans B5.out)
 have D9 : w1.heap.size ≤ w4.heap.size := zN B3 B5.out.size
 obtain ⟨L4, B6⟩ : ∃ L, L3 ++ R = L := ⟨_, rfl⟩
 have F5 : L4.length ≤ 11 + kn := by rw [← B6, zG, C6.out]; omega
 rw [B6] at B HQ
 clear D8 B5 B2 B3 B6 A6 C6
 have B7 := zaa (zag A5.out A1.out)
 obtain ⟨b0, b1, b2, b3, b4⟩ := C5.cells B7.out
 have E0 := zaa (HV.out.on Lr A1.out)
 by_cases B8 : kd = 1
 ·subst B8
  have G0 : IntKind.u64.wrap (vn : Int) = (vn : Int) := by rw [IntKind.wrap_u64]; omega
  have B9 := zaa (HQ.out _ (if_pos rfl))
  have HU := zaa (zdo (vn : Int) w4 zq zq)
  clear HQ
  go_wp2_with (go_at_call 142; refine HU.out.mono ?_; rintro e w5 ⟨u5, rfl, D, A⟩; refine Hid.out ?_)
  apply zaa
  obtain ⟨ub, un, ud, rfl, us5, F0⟩ := D.slu zq zq
  have K := zaa (B.out.on Lr A)
  have O := zaa (zcl B.out D Lr)
  have I := zaa (zae A1.out Lr A)
  have E : w1.heap.size ≤ w5.heap.size := zN D9 A.size
  have U := zaa (zcg v4 w1.heap.size L4 (uB (vn : Int)) ub un ud w5 K.out us5 O.out zq E)
  clear HU D us5 A K O B
  go_wp2_with (go_at_call 101; refine U.out.mono ?_; rintro e w6 ⟨v6, rfl, F, G⟩; refine Hid.out ?_)
  apply zaa
  have J := zaa (I.out.trans G.out)
  have C0 : w1.heap.size ≤ w6.heap.size := zN E G.out.size
  clear U G I E b0 b1 b2 b3 b4 B7
  have V := zaa (zag A5.out J.out)
  obtain ⟨b0, b1, b2, b3, b4⟩ := C5.cells V.out
  have E1 := zaa (HV.out.on Lr J.out)
  have W : (L4 ++ uB (vn : Int)).length + vn ≤ 140737488355328 := by
   have := (zba (vn : Int)).1
   rw [zG]
   omega
  have E2 := zaa (zcg v6 w1.heap.size (L4 ++ uB (vn : Int)) val va vn vc w6 F.out E1.out (sl_far HV.out F.out Lr) W C0)
  clear F E1 E0 V
  go_wp2_with (go_at_call 101; refine E2.out.mono ?_; rintro e w7 ⟨v7, rfl, A2, H⟩; refine Hid.out ?_)
  apply zaa
  have HO : Hid (OwnB w7 s v7 QQ) := zaa (by rw [B9.out, ← zM]; exact A2.out.low (Nat.le_of_lt Y))
  have HB : Hid (Below s w w7) := zaa ((by have := C4.out; rwa [hs] at this : Below s w w1).trans ((J.out.trans H.out).mono (Nat.le_of_lt Y)))
  clear E2 H
  go_wp2
  go_ret
  rw [hs]
  exact ⟨v7, rfl, HO, HB⟩
 ·obtain ⟨P, hP⟩ : ∃ P, pg % 18446744073709551616 = P := ⟨_, rfl⟩
  obtain ⟨C, hC⟩ : ∃ C, ct % 18446744073709551616 = C := ⟨_, rfl⟩
  have G1 : IntKind.u64.wrap pg = P := by rw [IntKind.wrap_u64, hP]
  have G2 : IntKind.u64.wrap ct = C := by rw [IntKind.wrap_u64, hC]
  have B9 := zaa (HQ.out (uB P ++ uB C) (by rw [if_neg B8, hP, hC]))
  have E3 : 0 ≤ P ∧ P < 18446744073709551616 := zq
  have A3 : 0 ≤ C ∧ C < 18446744073709551616 := zq
  have HU := zaa (zdo P w4 zq zq)
  have F6 : (kd == 1) = false := by simpa using B8
  clear HQ hP hC E0
  go_wp2_with (go_at_call 142; refine HU.out.mono ?_; rintro e w5 ⟨u5, rfl, D, A⟩; refine Hid.out ?_)
  apply zaa
  obtain ⟨ub, un, ud, rfl, us5, F0⟩ := D.slu E3.1 E3.2
  have K := zaa (B.out.on Lr A)
  have O := zaa (zcl B.out D Lr)
  have I := zaa (zae A1.out Lr A)
  have E : w1.heap.size ≤ w5.heap.size := zN D9 A.size
  have U := zaa (zcg v4 w1.heap.size L4 (uB P) ub un ud w5 K.out us5 O.out zq E)
  clear HU D us5 A K O B
  go_wp2_with (go_at_call 101; refine U.out.mono ?_; rintro e w6 ⟨v6, rfl, F, G⟩; refine Hid.out ?_)
  apply zaa
  have J := zaa (I.out.trans G.out)
  have C0 : w1.heap.size ≤ w6.heap.size := zN E G.out.size
  clear U G I E b0 b1 b2 b3 b4 B7
  have V := zaa (zag A5.out J.out)
  obtain ⟨b0, b1, b2, b3, b4⟩ := C5.cells V.out
  have HU := zaa (zdo C w6 A3.1 A3.2)
  go_wp2_with (go_at_call 142; refine HU.out.mono ?_; rintro e w7 ⟨u7, rfl, C1, H⟩; refine Hid.out ?_)
  apply zaa
  obtain ⟨ue, uq, uf, rfl, us7, G3⟩ := C1.slu A3.1 A3.2
  have A2 := zaa (F.out.on Lr H)
  have E4 := zaa (zcl F.out C1 Lr)
  have F1 := zaa (zae J.out Lr H)
  have F2 : w1.heap.size ≤ w7.heap.size := zN C0 H.size
  have W : (L4 ++ uB P).length + uq ≤ 140737488355328 := by
   have := (zba P).1
   rw [zG]
   omega
  have E5 := zaa (zcg v6 w1.heap.size (L4 ++ uB P) (uB C) ue uq uf w7 A2.out us7 E4.out W F2)
  clear HU C1 us7 H A2 E4 F V
  go_wp2_with (go_at_call 101; refine E5.out.mono ?_; rintro e w8 ⟨v8, rfl, F3, E7⟩; refine Hid.out ?_)
  apply zaa
  have HO : Hid (OwnB w8 s v8 QQ) := zaa (by rw [B9.out, ← zM]; exact F3.out.low (Nat.le_of_lt Y))
  have HB : Hid (Below s w w8) := zaa ((by have := C4.out; rwa [hs] at this : Below s w w1).trans ((F1.out.trans E7.out).mono (Nat.le_of_lt Y)))
  clear E5 E7
  go_wp2
  go_ret
  rw [hs]
  exact ⟨v8, rfl, HO, HB⟩
theorem zch {w : World} {B : Nat} {v : Value} {l : List Int} (h : OwnB w B v l) : ∃ ao c, v = .slice ao l.length c := by
 rcases h.2 with ⟨rfl, h0⟩ | ⟨g, cap, cur, rfl, _⟩
 ·exact ⟨none, 0, by rw [h0]⟩
 ·exact ⟨_, _, rfl⟩
theorem rtaken_any (k : Int) (ao : Option Addr) (n cap m : Nat) (cs : List Cl) (w : World) (hs : SlC w ao n cap cs) (E : ∀ (j : Nat) (c : Cl), cs[j]? = some c → ¬ (k = 3 ∧ (j : Int) = 0) → m ≤ c.key.length) (A : ∀ c ∈ cs, c.key.length + c.val.length ≤ 35184372088832) (hz : szQ k m cs ≤ 1099511627776) :
  Calls Tryz.prog 108 #[.int .i64 k, .slice ao n cap, .int .i64 (m : Int)] w fun e w' => e = .returned (.int .i64 (szQ k m cs : Int)) ∧ Hid (Below w.heap.size w w') := by
 have HS := zaa hs
 have hn := hs.hroom
 have M := zaa hs.hlen
 have N := zaa E
 have O := zaa A
 have C := hz
 unfold szQ at C ⊢
 have HZ := zaa C
 have U : (m : Int) ≤ 1099511627776 := zq
 obtain ⟨f, hf⟩ : ∃ f, whl k = f := ⟨_, rfl⟩
 rw [hf] at HZ ⊢
 have HF : Hid (∀ j : Nat, (if k = 3 ∧ (j : Int) = 0 then 0 else m) = (if f = true ∧ j = 0 then 0 else m)) := zaa (by
  intro j
  have e : (k = 3 ∧ (j : Int) = 0) = (f = true ∧ j = 0) := by
   rw [← hf]
   unfold whl
   simp
  simp only [e])
 obtain ⟨T, hT⟩ : ∃ T : Nat, 10 + m + qsm m f cs = T := ⟨_, rfl⟩
 rw [hT]
 have HT := zaa hT
 clear hs hz C hf E hT A
 go_enter Tryz.func108, Tryz.ntmps108
 go_wp2_with fail
 go_loopw [7, 8] (fun v i wr => ∃ j q : Nat, j ≤ n ∧ q ≤ 1099511627776 ∧ i = .int .i64 j ∧ v = .int .i64 (q : Int) ∧ Hid (q = 10 + m + qsm m f (cs.take j)) ∧ Hid (Below w.heap.size w wr)) (fun _ i _ => n - (intOf i).toNat)
 case atStart => exact ⟨0, 10 + m, zq, by have := HZ.out; omega, rfl, by go_num, zaa (by simp [qsm]), zaa Br⟩
 case round =>
  obtain ⟨j, q, hj, hq, rfl, rfl, HQ, HB⟩ := hrel
  have bj : (j : Int) ≤ 140737488355328 := zq
  have bq : (q : Int) ≤ 1099511627776 := zq
  by_cases P : j < n
  ·have R : (j : Int) < (n : Int) := zq
   obtain ⟨b, off, c, ka, kc, va, vc, rfl, hb, B, c0, c1, c2, c3, c4, hk, hv⟩ := (HS.out.on HB.out).item j P
   have D := zaa (qsm_take m cs f j c B)
   have F := qsm_take_le m cs f (j + 1)
   rw [D.out] at F
   have hz := HZ.out
   have G := qB_length (if f = true ∧ j = 0 then 0 else m) c
   have Q := HQ.out
   have A : c.key.length + c.val.length ≤ 35184372088832 := O.out c (List.mem_of_getElem? B)
   have HC := zaa (rbytes_any k (j : Int) c ka va kc vc m wr hk hv (N.out j c B) A)
   rw [HF.out j] at HC
   obtain ⟨L, hL⟩ : ∃ L, qB (if f = true ∧ j = 0 then 0 else m) c = L := ⟨_, rfl⟩
   rw [hL] at HC G
   have bL : (L.length : Int) ≤ 1099511627776 := zq
   have bsum : q + 2 + L.length ≤ 1099511627776 := zq
   have H : Hid (q + 2 + L.length = 10 + m + qsm m f (cs.take (j + 1))) := zaa (by rw [D.out]; omega)
   clear hk hv B F hz G Q A hL D
   go_wp2_with (go_at_call 105; refine HC.out.mono ?_; rintro e w1 ⟨v1, rfl, I, J⟩; refine Hid.out ?_)
   apply zaa
   obtain ⟨a1, c1', rfl⟩ := zch I.out
   have HB' := zaa (zae HB.out Lr J.out)
   obtain ⟨LN, K⟩ : ∃ LN, L.length = LN := ⟨_, rfl⟩
   rw [K] at bL bsum H ⊢
   clear HC I J HB c0 c1 c2 c3 c4 K
   go_wp2
   go_roundw
   case rel => exact ⟨j + 1, q + 2 + LN, zq, zq, by go_num, by go_num, H, HB'⟩
   case measure => simp [intOf]; omega
  ·have e : q = T := by
    rw [← HT.out, HQ.out, List.take_of_length_le (by rw [M.out]; omega)]
   subst e
   go_wp2
   go_ret
   exact ⟨rfl, HB⟩
end Go.Proofs.YtbkhjeacmmbabaaGreatDoor
