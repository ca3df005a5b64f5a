import Derived.Test.YtofafbmpbkjhnaaGreatDoorJ50
import Derived.Test.YtofafbmpbkjhnaaGreatDoorJ51
import Derived.BigQuiet
namespace Go.Proofs.YtofafbmpbkjhnaaGreatDoor
set_option maxRecDepth 100000
open Go.RowKit
theorem Pk.newN {w : World} {a : Nat} {k : Int} {n : Nat} (hn : pw n) (h : QR w a k n (.slice none 0 0) (.slice none 0 0) (.slice none 0 0) 0) (B : Nat) (hB : B ≤ a) : Pk w (fun b => B ≤ b ∧ b < w.heap.size) a k n ⟨[], [], 0⟩ := by
 have hn2 := zak hn
 refine ⟨none, 0, 0, none, 0, 0, none, 0, 0, [], [], ⟨⟨h, Sl.nil_any _ _ _ (fun _ => rfl), OwnB.nil _ _, OwnN.nil _ _, .inl rfl, Nat.zero_le _⟩, ⟨rfl, fun c hc => ?_, (fun c hc => by cases hc), (fun c i hi => by simp at hi)⟩, Wf.nil, .inl rfl, ⟨fun c hc => ?_, List.Pairwise.nil, (fun c hc => by cases hc), (fun c hc => by cases hc), ?_⟩, ?_, ⟨hB, zah h⟩, (fun g e => by cases e), (fun g e => by cases e), .inl rfl, (fun b e => e.2)⟩⟩
 ·unfold ktl at hc
  split at hc <;> simp at hc
 ·unfold ktl at hc
  split at hc <;> simp at hc
 ·unfold filQ lvQ
  simp [qbd]
  omega
 ·unfold lvQ
  simp [qbd]
structure Tz (w0 w : World) (a b : Nat) (k : Int) (n : Nat) (cs : List Cl) (s : Qs) (KP KQ : Nat → Prop) : Prop where
 pn : Pn w KP a k n cs
 pk : Pk w KQ b k n s
 dis : ∀ x, KP x → ¬ KQ x
 lp : ∀ x, KP x → w0.heap.size ≤ x
 lq : ∀ x, KQ x → w0.heap.size ≤ x
 be : Below w0.heap.size w0 w
section
variable {w0 w w' : World} {a b : Nat} {k : Int} {n : Nat} {cs : List Cl} {s : Qs} {KP KQ : Nat → Prop}
theorem Tz.go (h : Tz w0 w a b k n cs s KP KQ) (hb : Below w.heap.size w w') : Tz w0 w' a b k n cs s KP KQ := ⟨h.pn.go hb, h.pk.go hb, h.dis, h.lp, h.lq, zab h.be Lr hb⟩
theorem Tz.gd (h : Tz w0 w a b k n s.cs s KP KQ) : Gd k n s.cs := ⟨h.pn.ok.may, h.pk.ok.rs⟩
theorem Tz.f1 (h : Tz w0 w a b k n s.cs s KP KQ) : szE 1 k s.cs ≤ n := by
 have := h.pn.ok.size
 unfold szE
 simpa using this
theorem Tz.f2 (h : Tz w0 w a b k n s.cs s KP KQ) : szE 2 k s.cs ≤ n := by
 have := h.pk.ok.lay
 unfold szE
 simpa using this
theorem Sl.outN {ao : Option Addr} {m cap : Nat} {l : List Int} (h : Sl w0 ao m cap l) (hl : ∀ x, KQ x → w0.heap.size ≤ x) : OutK KQ ao m := by
 rcases h.hat with h0 | ⟨g, off, e, hb, _⟩
 ·exact .inl h0
 ·right
  intro p hp hk
  rw [e] at hp
  injection hp with hp
  rw [← hp] at hk
  have := hl _ hk
  simp only at this
  omega
theorem zbc.mono {A : An} {Q R : World → Prop} {e : Ending} (hQ : Q w' → R w') (h : zbc A Q w e w') : zbc A R w e w' := by
 obtain ⟨ko, kc, vo, vc, h1, h2, h3⟩ := h
 exact ⟨ko, kc, vo, vc, h1, h2, zaa (hQ h3.out)⟩
theorem Tz.first (h : Tz w0 w a b k n cs s KP KQ) (kd x : Int) (c : Cl) (ka : Option Addr) (kc : Nat) (va : Option Addr) (vc : Nat) (qa : Option Addr) (qn qc : Nat) (q : List Int) (hk : Sl w0 ka c.key.length kc c.key) (hv : Sl w0 va c.val.length vc c.val) (hq : Sl w0 qa qn qc q) :
  Calls Tryz.prog 34 #[iP a, opV kd x c ka kc va vc qa qn qc] w fun e w' => ∃ A cs2, Hid (TwP kd x c q k n cs A cs2) ∧ zbc A (fun u => Tz w0 u a b k n cs2 s (Zk KP w u) KQ ∧ Cf KP w u) w e w' := by
 refine (twinP_any w KP a k n cs h.pn kd x c ka kc va vc qa qn qc q (hk.on Lr h.be) (hv.on Lr h.be) (hq.on Lr h.be)).mono ?_
 rintro e w' ⟨A, cs2, h1, h2⟩
 refine ⟨A, cs2, zaa h1, h2.mono fun hq => ⟨⟨hq.1, h.pk.cfN hq.2 h.dis, fun x e f => ?_, fun x e => ?_, h.lq, h.be.trans (hq.2.below h.be.size fun i hi e => by have := h.lp i e; omega)⟩, hq.2⟩⟩
 ·rcases e with e | e
  ·exact h.dis x e f
  ·have := h.pk.kl x f
   omega
 ·rcases e with e | e
  ·exact h.lp x e
  ·have := h.be.size
   omega
theorem Tz.second (h : Tz w0 w a b k n cs s KP KQ) (kd x : Int) (c : Cl) (ka : Option Addr) (kc : Nat) (va : Option Addr) (vc : Nat) (qa : Option Addr) (qn qc : Nat) (q : List Int) (hk : Sl w0 ka c.key.length kc c.key) (hv : Sl w0 va c.val.length vc c.val) (hq : Sl w0 qa qn qc q) :
  Calls Tryz.prog 34 #[iQ b, opV kd x c ka kc va vc qa qn qc] w fun e w' => ∃ B t, Hid (TwQ kd x c q k n s B t) ∧ zbc B (fun u => Tz w0 u a b k n cs t KP (Zk KQ w u) ∧ Cf KQ w u) w e w' := by
 refine (twinQ_any w KQ b k n s h.pk h.pn.ok.sz kd x c ka kc va vc qa qn qc q (hk.on Lr h.be) (hv.on Lr h.be) (hq.on Lr h.be) (hk.outN h.lq) (hv.outN h.lq)).mono ?_
 rintro e w' ⟨B, t, h1, h2⟩
 refine ⟨B, t, zaa h1, h2.mono fun hq => ⟨⟨h.pn.cf hq.2 (fun x e f => h.dis x f e), hq.1, fun x e f => ?_, h.lp, fun x e => ?_, h.be.trans (hq.2.below h.be.size fun i hi e => by have := h.lq i e; omega)⟩, hq.2⟩⟩
 ·rcases f with f | f
  ·exact h.dis x e f
  ·have := h.pn.kl x e
   omega
 ·rcases e with e | e
  ·exact h.lq x e
  ·have := h.be.size
   omega
end
theorem pw_cast9 {n : Int} (h : pw n) : ∃ m : Nat, n = (m : Int) := by
 unfold pw at h
 exact ⟨n.toNat, by omega⟩
theorem new_pair {k n : Int} {w0 w1 w2 w3 : World} {v v' : Value} {c c' : Int} (h1 : (v = .nilIface ∧ c = 1 ∧ ¬ (isKd k ∧ pw n)) ∨ ∃ a, v = iP a ∧ c = 0 ∧ isKd k ∧ pw n ∧ w1.heap.size ≤ a ∧ PR w2 a k n.toNat (.slice none 0 0) (.slice none 0 0))
  (h2 : (v' = .nilIface ∧ c' = 1 ∧ ¬ (isKd k ∧ pw n)) ∨ ∃ a, v' = iQ a ∧ c' = 0 ∧ isKd k ∧ pw n ∧ w2.heap.size ≤ a ∧ QR w3 a k n (.slice none 0 0) (.slice none 0 0) (.slice none 0 0) 0)
  (b0 : Below w0.heap.size w0 w1) (b1 : Below w1.heap.size w1 w2) (b2 : Below w2.heap.size w2 w3) :
  (v = .nilIface ∧ c = 1 ∧ v' = .nilIface ∧ c' = 1) ∨ ∃ (m a b : Nat), n = (m : Int) ∧ v = iP a ∧ c = 0 ∧ v' = iQ b ∧ c' = 0 ∧ isKd k ∧ pw (m : Int) ∧ Hid (∃ KP KQ, Tz w0 w3 a b k m [] ⟨[], [], 0⟩ KP KQ) := by
 rcases h1 with ⟨rfl, rfl, hno⟩ | ⟨a, rfl, rfl, hk, hn, ha, hp⟩
 ·rcases h2 with ⟨rfl, rfl, _⟩ | ⟨b, _, _, hk, hn, _⟩
  ·exact .inl ⟨rfl, rfl, rfl, rfl⟩
  ·exact absurd ⟨hk, hn⟩ hno
 ·rcases h2 with ⟨_, _, hno⟩ | ⟨b, rfl, rfl, _, _, hb, hq⟩
  ·exact absurd ⟨hk, hn⟩ hno
  ·obtain ⟨m, rfl⟩ := pw_cast9 hn
   rw [Int.toNat_natCast] at hp
   have hs0 := b0.size
   have hs1 := b1.size
   refine .inr ⟨m, a, b, rfl, rfl, rfl, rfl, rfl, hk, hn, zaa ⟨fun i => w1.heap.size ≤ i ∧ i < w2.heap.size, fun i => w2.heap.size ≤ i ∧ i < w3.heap.size, (Pn.new hk hn hp ha).go b2, Pk.newN hn hq _ hb, fun x e f => by omega, fun x e => by omega, fun x e => by omega, zab (zab b0 Lr b1) Lr b2⟩⟩
set_option maxHeartbeats 16000000 in
theorem walk_NodeTwins (kd pg : Int) (so : Option Addr) (sn sc : Nat) (os : List Op9) (w : World) (ht : Tab w) (h0 : 1 < w.heap.size) (hs : SlO9 w so sn sc os) (hsn : sn ≤ 1256584717421) :
  Calls Tryz.prog 6 #[.int .i64 kd, .int .i64 pg, .slice so sn sc] w fun e w' => e = .returned (.bool true) ∧ Below w.heap.size w w' := by
 have HS := zaa hs
 have HT := zaa (And.intro ht h0)
 have HL := zaa (awake8_any w ht h0)
 clear hs ht h0
 go_enter Tryz.func6, Tryz.ntmps6
 go_wp2_with (first
  | (go_at_call 7; refine HL.out.mono ?_; rintro e w1 ⟨rfl, hb1⟩; have HB1 := zaa hb1; clear hb1)
  | (go_at_call 8; refine (nnew_1 kd pg _).mono ?_; rintro e w2 ⟨v, c, rfl, HB2, HQ2⟩; refine Hid.out ?_))
 apply zaa
 clear HL
 go_wp2_with (first
  | (go_at_call 8; refine (nnew_2 kd pg _).mono ?_; rintro e w3 ⟨v', c', rfl, HB3, HQ3⟩; refine Hid.out ?_))
 apply zaa
 have HBW : Hid (Below w.heap.size w w3) := zaa (zab (zab HB1.out Lr HB2.out) Lr HB3.out)
 have hp := new_pair HQ2.out HQ3.out HB1.out HB2.out HB3.out
 clear HQ2 HQ3
 rcases hp with ⟨rfl, rfl, rfl, rfl⟩ | ⟨n, a, b, rfl, rfl, rfl, rfl, rfl, hk1, hn1, HZ⟩
 ·go_wp2_with fail
  go_quiet (fail)
  go_wp2
  go_ret
  exact ⟨rfl, by first | exact HBW.out | exact zad HBW.out _⟩
 have HKN := zaa (And.intro hk1 hn1)
 clear hk1 hn1 HB1 HB2 HB3 HBW
 have nI : (n : Int) ≤ 65536 := by have := zak HKN.out.2; omega
 go_wp2_with fail
 go_quiet (fail)
 go_wp2_with fail
 have snI : (sn : Int) ≤ 1256584717421 := by omega
 go_loopw [12, 13, 14, 15, 16, 17] (fun iv s13 s14 s15 s16 s17 wr => ∃ j : Nat, iv = .int .i64 (j : Int) ∧ j ≤ sn ∧ Hid (∃ s KP KQ, Tz w wr a b kd n s.cs s KP KQ)) (fun iv _ _ _ _ _ _ => sn - (intOf iv).toNat)
 case atStart => exact ⟨0, rfl, by omega, zaa (by obtain ⟨KP, KQ, h⟩ := HZ.out; exact ⟨⟨[], [], 0⟩, KP, KQ, by first | exact h | exact h.go (zad Br _)⟩)⟩
 case round =>
  clear HZ
  obtain ⟨j, rfl, hj, HZJ⟩ := hrel
  have jI : (j : Int) ≤ 1256584717421 := by omega
  by_cases hlt : j < sn
  ·have hltI : (j : Int) < (sn : Int) := by omega
   obtain ⟨s, KP, KQ, tz⟩ := HZJ.out
   obtain ⟨bo, off, o, ka, kc, va, vc, qa, qc, rfl, hmem, c0', c1', c2', c3', c4', c5', c6', c7', hk, hv, hq⟩ := HS.out.item9 tz.be j hlt
   have HKV := zaa (And.intro hk (And.intro hv hq))
   clear hk hv hq hmem
   obtain ⟨y, hy⟩ : ∃ y, wr.alloc (.cells #[.int .i64 o.q, .int .i64 o.x, .slice ka o.c.key.length kc, .int .i64 o.c.kd, .slice va o.c.val.length vc, .int .i64 o.c.pg, .int .i64 o.c.ct, .slice qa o.key.length qc] 45) = y := ⟨_, rfl⟩
   obtain ⟨R, hR⟩ : ∃ R, wr.heap.size = R := ⟨_, rfl⟩
   have hby : Below wr.heap.size wr y := by rw [← hy]; exact zac Br Lr _
   have HO8 : Hid (B8 45 y R (.int .i64 o.q) (.int .i64 o.x) (.slice ka o.c.key.length kc) (.int .i64 o.c.kd) (.slice va o.c.val.length vc) (.int .i64 o.c.pg) (.int .i64 o.c.ct) (.slice qa o.key.length qc)) := by rw [← hy, ← hR]; exact zaa (heap_alloc_last wr _)
   have HZR : Hid (∀ x, (KP x ∨ KQ x) → x < R) := zaa (fun x e => by rw [← hR]; exact e.elim (tz.pn.kl x) (tz.pk.kl x))
   have HTZ := zaa (tz.go hby)
   have HGD : Hid (Gd kd n s.cs ∧ (szE 1 kd s.cs ≤ n ∧ szE 2 kd s.cs ≤ n) ∧ s.cs.length ≤ 65535 ∧ (∀ c ∈ s.cs, c.Wf) ∧ ∀ c ∈ s.cs, c.fit) := zaa ⟨tz.gd, ⟨tz.f1, tz.f2⟩, by have h1 := tz.pn.ok.size; have h2 := zaq s.cs; have h3 := zak tz.pn.ok.sz; omega, tz.pn.ok.wf, tz.pn.ok.fit⟩
   have HRY : Hid (R < y.heap.size) := zaa (by rw [← hR, ← hy]; simp)
   have HCE : Hid (Calls Tryz.prog 10 #[iP a] y fun e w' => ∃ g, e = .returned (.slice (some ⟨g, 0, none⟩) s.cs.length s.cs.length) ∧ Hid (OwC w' y.heap.size g s.cs) ∧ Hid (Below y.heap.size y w')) := zaa ((HTZ.out.pn.cells).mono fun e w' h => h.owc)
   have HRW : Hid (wr.heap.size = R) := zaa hR
   obtain ⟨o0, o1, o2, o3, o4, o5, o6, o7⟩ := HO8.out.cells
   clear tz hby HZJ
   go_wp2_with (go_at_call 10; refine HCE.out.mono ?_; rintro e w1 ⟨g, rfl, HOW, HB1⟩; refine Hid.out ?_)
   apply zaa
   clear HCE o0 o1 o2 o3 o4 o5 o6 o7 c0' c1' c2' c3' c4' c5' c6' c7' hy
   have HTZ1 := zaa (HTZ.out.go HB1.out)
   have HO1 := zaa (HO8.out.cf (Cf.of_below (F := fun _ => False) HB1.out) (fun e => e))
   have HR1 : Hid (R < w1.heap.size) := zaa (zO HRY.out HB1.out.size)
   have HZW : Hid (y.heap.size ≤ w1.heap.size) := zaa HB1.out.size
   have HF := zaa (HTZ1.out.first o.q o.x o.c ka kc va vc qa o.key.length qc o.key HKV.out.1 HKV.out.2.1 HKV.out.2.2)
   obtain ⟨o0, o1, o2, o3, o4, o5, o6, o7⟩ := HO1.out.cells
   clear HTZ HO8 HB1
   go_wp2_with (go_at_call 34; refine HF.out.mono ?_; rintro e w2 ⟨A, cs2, HTP, ko, kc2, vo, vc2, rfl, HS2, HZ2⟩; refine Hid.out ?_)
   apply zaa
   clear HF o0 o1 o2 o3 o4 o5 o6 o7
   -- behind the plain node's call
   obtain ⟨y2, hy2⟩ : ∃ y2, w2.alloc (.cells #[.int .i64 A.e, .int .i64 A.i, .bool A.is, .slice ko A.c.key.length kc2, .int .i64 A.c.kd, .slice vo A.c.val.length vc2, .int .i64 A.c.pg, .int .i64 A.c.ct] 66) = y2 := ⟨_, rfl⟩
   obtain ⟨sa, hsa⟩ : ∃ sa, w2.heap.size = sa := ⟨_, rfl⟩
   have hby2 : Below w2.heap.size w2 y2 := by rw [← hy2]; exact zac Br Lr _
   have HA8 : Hid (B8 66 y2 sa (.int .i64 A.e) (.int .i64 A.i) (.bool A.is) (.slice ko A.c.key.length kc2) (.int .i64 A.c.kd) (.slice vo A.c.val.length vc2) (.int .i64 A.c.pg) (.int .i64 A.c.ct)) := by rw [← hy2, ← hsa]; exact zaa (heap_alloc_last w2 _)
   have hkp : ∀ x, KP x → x < R := fun x e => HZR.out x (.inl e)
   have hkq : ∀ x, KQ x → x < R := fun x e => HZR.out x (.inr e)
   have HOW2 : Hid (OwC y2 y.heap.size g s.cs) := zaa ((HOW.out.cf HZ2.out.2 (fun b hb e => by have := hkp b e; have := HRY.out; omega)).on hby2)
   have HO2 := zaa ((HO1.out.cf HZ2.out.2 (fun e => by have := hkp _ e; omega)).cf (Cf.of_below (F := fun _ => False) hby2) (fun e => e))
   have HSA : Hid (R < sa ∧ y.heap.size ≤ w1.heap.size ∧ w1.heap.size ≤ sa) := zaa (by have := HZ2.out.2.size; have := HR1.out; have := HOW.out.row.lt; have := HOW.out.ge; exact ⟨by omega, by have := HZW.out; omega, by omega⟩)
   have HTZ2 := zaa (HZ2.out.1.go hby2)
   have HSL2 : Hid (Sl y2 ko A.c.key.length kc2 A.c.key ∧ Sl y2 vo A.c.val.length vc2 A.c.val ∧ (∀ p, ko = some p → ¬ KQ p.block) ∧ ∀ p, vo = some p → ¬ KQ p.block) := zaa ⟨HS2.out.1.on Lr hby2, HS2.out.2.1.on Lr hby2, fun p hp e => by have := HS2.out.2.2.1 p hp; have := hkq _ e; have := HR1.out; omega, fun p hp e => by have := HS2.out.2.2.2 p hp; have := hkq _ e; have := HR1.out; omega⟩
   have HF2 := zaa (HTZ2.out.second o.q o.x o.c ka kc va vc qa o.key.length qc o.key HKV.out.1 HKV.out.2.1 HKV.out.2.2)
   obtain ⟨o0, o1, o2, o3, o4, o5, o6, o7⟩ := HO2.out.cells
   clear HTZ1 HO1 HS2 HZ2 HOW hby2 hkp hkq
   go_wp2_with (go_at_call 34; refine HF2.out.mono ?_; rintro e w3 ⟨B, t, HTQ, lo, lc, uo, uc, rfl, HS3, HZ3⟩; refine Hid.out ?_)
   apply zaa
   clear HF2 o0 o1 o2 o3 o4 o5 o6 o7 hy2
   -- behind the packed node's call
   obtain ⟨y3, hy3⟩ : ∃ y3, w3.alloc (.cells #[.int .i64 B.e, .int .i64 B.i, .bool B.is, .slice lo B.c.key.length lc, .int .i64 B.c.kd, .slice uo B.c.val.length uc, .int .i64 B.c.pg, .int .i64 B.c.ct] 66) = y3 := ⟨_, rfl⟩
   obtain ⟨sb, hsb⟩ : ∃ sb, w3.heap.size = sb := ⟨_, rfl⟩
   have hby3 : Below w3.heap.size w3 y3 := by rw [← hy3]; exact zac Br Lr _
   have hkq : ∀ x, KQ x → x < R := fun x e => HZR.out x (.inr e)
   have HB8 : Hid (B8 66 y3 sb (.int .i64 B.e) (.int .i64 B.i) (.bool B.is) (.slice lo B.c.key.length lc) (.int .i64 B.c.kd) (.slice uo B.c.val.length uc) (.int .i64 B.c.pg) (.int .i64 B.c.ct)) := by rw [← hy3, ← hsb]; exact zaa (heap_alloc_last w3 _)
   have HA3 := zaa ((HA8.out.cf HZ3.out.2 (fun e => by have := hkq _ e; have := HSA.out; omega)).cf (Cf.of_below (F := fun _ => False) hby3) (fun e => e))
   have HO3 := zaa ((HO2.out.cf HZ3.out.2 (fun e => by have := hkq _ e; omega)).cf (Cf.of_below (F := fun _ => False) hby3) (fun e => e))
   have HOW3 : Hid (OwC y3 y.heap.size g s.cs) := zaa ((HOW2.out.cf HZ3.out.2 (fun b hb e => by have := hkq b e; have := HRY.out; omega)).on hby3)
   have HTZ3 := zaa (HZ3.out.1.go hby3)
   have HSL3 : Hid ((Sl y3 ko A.c.key.length kc2 A.c.key ∧ Sl y3 vo A.c.val.length vc2 A.c.val) ∧ Sl y3 lo B.c.key.length lc B.c.key ∧ Sl y3 uo B.c.val.length uc B.c.val) := zaa ⟨⟨(HSL2.out.1.cf HZ3.out.2 (.inr HSL2.out.2.2.1)).on Lr hby3, (HSL2.out.2.1.cf HZ3.out.2 (.inr HSL2.out.2.2.2)).on Lr hby3⟩, HS3.out.1.on Lr hby3, HS3.out.2.1.on Lr hby3⟩
   have HBE3 : Hid (Below w.heap.size w y3) := zaa HTZ3.out.be
   have HTY : Hid (Tab y3 ∧ 1 < y3.heap.size) := zaa ⟨HT.out.1.on HBE3.out HT.out.2, zO HT.out.2 HBE3.out.size⟩
   have HAHD : Hid (SlC y3 (some ⟨g, 0, none⟩) s.cs.length s.cs.length s.cs ∧ s.cs.length ≤ 65535 ∧ Gd kd n s.cs ∧ szE 1 kd s.cs ≤ n ∧ szE 2 kd s.cs ≤ n) := zaa ⟨HOW3.out.slc HGD.out.2.2.2.1 HGD.out.2.2.2.2 (by have := HGD.out.2.2.1; omega), HGD.out.2.2.1, HGD.out.1, HGD.out.2.1.1, HGD.out.2.1.2⟩
   obtain ⟨o0, o1, o2, o3, o4, o5, o6, o7⟩ := HO3.out.cells
   obtain ⟨a0, a1, a2, a3, a4, a5, a6, a7⟩ := HA3.out.cells
   obtain ⟨b0, b1, b2, b3, b4, b5, b6, b7⟩ := HB8.out.cells
   clear HTZ2 HO2 HA8 HOW2 HSL2 HZ3 HS3 HOW3 hby3 hkq
   by_cases hA : A.e = 61
   ·by_cases h0 : o.q = 0
    ·skip
     have hfull := HTP.out.full HAHD.out.2.2.1 h0 hA
     obtain ⟨i, hxi, hi, hgd, hno⟩ := hfull
     have HH : Hid (Calls Tryz.prog 35 #[.int .i64 1, .int .i64 kd, .int .i64 (n : Int), .slice (some ⟨g, 0, none⟩) s.cs.length s.cs.length, .agg #[.int .i64 0, .int .i64 o.x, .slice ka o.c.key.length kc, .int .i64 o.c.kd, .slice va o.c.val.length vc, .int .i64 o.c.pg, .int .i64 o.c.ct, .slice qa o.key.length qc]] y3 fun e w' => e = .returned (.bool true) ∧ Hid (Below y3.heap.size y3 w')) := zaa (by
      have := halves9_1 y3 kd n g s.cs.length s.cs HAHD.out.1 HAHD.out.2.1 o.q i o.c ka kc va vc qa o.key.length qc (HKV.out.1.on Lr HBE3.out) (HKV.out.2.1.on Lr HBE3.out) HKN.out.1 HKN.out.2 hi hgd HAHD.out.2.2.2.1 hno HTY.out.1 HTY.out.2
      rw [← hxi, h0] at this
      exact this)
     rw [hA] at a0
     rw [h0] at o0
     clear hxi hi hgd hno hA h0
     go_wp2_with (go_at_call 35; refine HH.out.mono ?_; rintro e w4 ⟨rfl, HB4⟩)
     go_ret
     exact ⟨rfl, zab HBE3.out Lr HB4.out⟩
    ·skip
     have hqb : (o.q == 0) = false := by simpa using h0
     rw [hA] at a0
     clear hA
     by_cases hB : B.e = 61
     ·rw [hB] at b0
      clear hB
      go_wp2
      go_ret
      exact ⟨rfl, HBE3.out⟩
     ·have hBb : (B.e == 61) = false := by simpa using hB
      go_wp2
      go_ret
      exact ⟨rfl, HBE3.out⟩
   ·by_cases hB : B.e = 61
    ·by_cases h0 : o.q = 0
     ·skip
      have hfull := HTQ.out.full HAHD.out.2.2.1 h0 hB
      obtain ⟨i, hxi, hi, hgd, hno⟩ := hfull
      have HH : Hid (Calls Tryz.prog 35 #[.int .i64 2, .int .i64 kd, .int .i64 (n : Int), .slice (some ⟨g, 0, none⟩) s.cs.length s.cs.length, .agg #[.int .i64 0, .int .i64 o.x, .slice ka o.c.key.length kc, .int .i64 o.c.kd, .slice va o.c.val.length vc, .int .i64 o.c.pg, .int .i64 o.c.ct, .slice qa o.key.length qc]] y3 fun e w' => e = .returned (.bool true) ∧ Hid (Below y3.heap.size y3 w')) := zaa (by
       have := halves9_2 y3 kd n g s.cs.length s.cs HAHD.out.1 HAHD.out.2.1 o.q i o.c ka kc va vc qa o.key.length qc (HKV.out.1.on Lr HBE3.out) (HKV.out.2.1.on Lr HBE3.out) HKN.out.1 HKN.out.2 hi hgd HAHD.out.2.2.2.2 hno HTY.out.1 HTY.out.2
       rw [← hxi, h0] at this
       exact this)
      have hAb : (A.e == 61) = false := by simpa using hA
      rw [hB] at b0
      rw [h0] at o0
      clear hxi hi hgd hno hB h0
      go_wp2_with (go_at_call 35; refine HH.out.mono ?_; rintro e w4 ⟨rfl, HB4⟩)
      go_ret
      exact ⟨rfl, zab HBE3.out Lr HB4.out⟩
     ·skip
      have hqb : (o.q == 0) = false := by simpa using h0
      have hAb : (A.e == 61) = false := by simpa using hA
      rw [hB] at b0
      clear hB
      go_wp2
      go_ret
      exact ⟨rfl, HBE3.out⟩
    ·skip
     obtain ⟨hab, hcs⟩ := twin_same HTP.out HTQ.out hA hB
     subst hab
     subst hcs
     have hAb : (A.e == 61) = false := by simpa using hA
     have HSC := zaa (sameCell_self A.c ko lo vo uo kc2 lc vc2 uc y3 HSL3.out.1.1 HSL3.out.2.1 HSL3.out.1.2 HSL3.out.2.2)
     have HOK : Hid ((∀ c ∈ t.cs, c.Wf) ∧ (∀ c ∈ t.cs, c.fit) ∧ t.cs.length ≤ 65536 ∧ szN t.cs ≤ n ∧ szQ kd t.P.length t.cs ≤ n) := zaa ⟨HTZ3.out.pn.ok.wf, HTZ3.out.pn.ok.fit, HTZ3.out.pn.ok.len, HTZ3.out.pn.ok.size, by have h1 := HTZ3.out.pk.ok.fit; have h2 := filQ_eq kd t; omega⟩
     have HCN : Hid (∀ u, Below y3.heap.size y3 u → Calls Tryz.prog 10 #[iP a] u fun e w' => ∃ g, e = .returned (.slice (some ⟨g, 0, none⟩) t.cs.length t.cs.length) ∧ Hid (OwC w' u.heap.size g t.cs) ∧ Hid (Below u.heap.size u w')) := zaa fun u hu => ((HTZ3.out.go hu).pn.cells).mono fun e w' h => h.owc
     have HCQ : Hid (∀ u, Below y3.heap.size y3 u → Calls Tryz.prog 10 #[iQ b] u fun e w' => ∃ g, e = .returned (.slice (some ⟨g, 0, none⟩) t.cs.length t.cs.length) ∧ Hid (OwC w' u.heap.size g t.cs) ∧ Hid (Below u.heap.size u w')) := zaa fun u hu => (ncells_Q u _ b kd n t t.cs rfl (HTZ3.out.go hu).pk HKN.out.2).mono fun e w' h => h.owc
     obtain ⟨M, hM⟩ : ∃ M, t.cs.length = M := ⟨_, rfl⟩
     have HML := zaa hM
     rw [hM] at HCN HCQ
     clear hM hA hB
     go_wp2_with (first
      | (go_at_call 36; refine HSC.out.mono ?_; rintro e u1 ⟨rfl, hbu1⟩; have HU1 := zaa hbu1; clear hbu1)
      | (go_at_call 10; refine (HCN.out _ HU1.out).mono ?_; rintro e u2 ⟨g1, rfl, HOA, HU2⟩; refine Hid.out ?_))
     apply zaa
     clear HSC HCN
     have HU12 : Hid (Below y3.heap.size y3 u2) := zaa (zab HU1.out Lr HU2.out)
     go_wp2_with (first
      | (go_at_call 10; refine (HCQ.out _ HU12.out).mono ?_; rintro e u3 ⟨g2, rfl, HOB, HU3⟩; refine Hid.out ?_))
     apply zaa
     clear HCQ
     have HSM : Hid (Calls Tryz.prog 19 #[.slice (some ⟨g1, 0, none⟩) M M, .slice (some ⟨g2, 0, none⟩) M M] u3 fun e w' => e = .returned (.bool true) ∧ Hid (Below u3.heap.size u3 w')) := zaa (by
      have h1 := (HOA.out.on HU3.out).slc HOK.out.1 HOK.out.2.1 (by have := HOK.out; omega)
      have h2 := HOB.out.slc HOK.out.1 HOK.out.2.1 (by have := HOK.out; omega)
      rw [HML.out] at h1 h2
      exact sameCells_self _ _ M M M t.cs u3 h1 h2)
     go_wp2_with (first
      | (go_at_call 19; refine HSM.out.mono ?_; rintro e u4 ⟨rfl, HU4⟩; refine Hid.out ?_))
     apply zaa
     clear HSM a0 a1 a2 a3 a4 a5 a6 a7 b0 b1 b2 b3 b4 b5 b6 b7 o0 o1 o2 o3 o4 o5 o6 o7
     have HUA : Hid (Below y3.heap.size y3 u4) := zaa (zab (zab HU12.out Lr HU3.out) Lr HU4.out)
     obtain ⟨a0, a1, a2, a3, a4, a5, a6, a7⟩ := (HA3.out.cf (Cf.of_below (F := fun _ => False) HUA.out) (fun e => e)).cells
     obtain ⟨b0, b1, b2, b3, b4, b5, b6, b7⟩ := (HB8.out.cf (Cf.of_below (F := fun _ => False) HUA.out) (fun e => e)).cells
     have HTZ4 := zaa (HTZ3.out.go HUA.out)
     have HLP : Hid (Calls Tryz.prog 147 #[.pointer (some ⟨a, 0, none⟩)] u4 fun e w' => e = .returned (.int .i64 (M : Int)) ∧ w' = u4) := zaa (by have := HTZ4.out.pn.ask.len; rw [HML.out] at this; exact this)
     have HLQ : Hid (Calls Tryz.prog 159 #[.pointer (some ⟨b, 0, none⟩)] u4 fun e w' => e = .returned (.int .i64 (M : Int)) ∧ w' = u4) := zaa (by have := (HTZ4.out.pk.askp HKN.out.2).len; rw [HML.out] at this; exact this)
     obtain ⟨Z1, hZ1⟩ : ∃ Z1, szN t.cs = Z1 := ⟨_, rfl⟩
     obtain ⟨Z2, hZ2⟩ : ∃ Z2, szQ kd t.P.length t.cs = Z2 := ⟨_, rfl⟩
     have HUP : Hid (Calls Tryz.prog 263 #[.pointer (some ⟨a, 0, none⟩)] u4 fun e w' => e = .returned (.int .i64 (Z1 : Int)) ∧ Hid (Below u4.heap.size u4 w')) := zaa (by have := HTZ4.out.pn.ask.used; rw [hZ1] at this; exact this)
     have HUQ : Hid (∀ u, Below u4.heap.size u4 u → Calls Tryz.prog 277 #[.pointer (some ⟨b, 0, none⟩)] u fun e w' => e = .returned (.int .i64 (Z2 : Int)) ∧ Hid (Below u.heap.size u w')) := zaa fun u hu => by have := ((HTZ4.out.go hu).pk.askp HKN.out.2).used; rw [hZ2] at this; exact this
     have hz1 : ¬ (n : Int) < (Z1 : Int) := by have := HOK.out; omega
     have hz2 : ¬ (n : Int) < (Z2 : Int) := by have := HOK.out; omega
     clear hZ1 hZ2
     go_wp2_with (first
      | (go_at_call 147; refine zae HLP.out ?_)
      | (go_at_call 159; refine zae HLQ.out ?_)
      | (go_at_call 263; refine HUP.out.mono ?_; rintro e u5 ⟨rfl, HU5⟩; refine Hid.out ?_))
     apply zaa
     clear HLP HLQ HUP
     go_wp2_with (first
      | (go_at_call 277; refine (HUQ.out _ HU5.out).mono ?_; rintro e u6 ⟨rfl, HU6⟩; refine Hid.out ?_))
     apply zaa
     clear HUQ
     go_wp2
     go_roundw
     case rel => exact ⟨j + 1, by go_num, by omega, zaa ⟨t, _, _, HTZ4.out.go (zab HU5.out Lr HU6.out)⟩⟩
     case measure => simp [intOf]; omega
  ·have hltI : ¬ (j : Int) < (sn : Int) := by omega
   have HBE : Hid (Below w.heap.size w wr) := zaa (by obtain ⟨_, _, _, tz⟩ := HZJ.out; exact tz.be)
   clear HZJ
   go_wp2
   go_ret
   exact ⟨rfl, HBE.out⟩
end Go.Proofs.YtofafbmpbkjhnaaGreatDoor
