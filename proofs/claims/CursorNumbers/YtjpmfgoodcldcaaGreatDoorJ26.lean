import Derived.Test.YtjpmfgoodcldcaaGreatDoorJ13
import Derived.Test.YtjpmfgoodcldcaaGreatDoorJ24
import Derived.Test.YtjpmfgoodcldcaaGreatDoorJ19
import Derived.Test.YtjpmfgoodcldcaaGreatDoorJ05
import Derived.Test.YtjpmfgoodcldcaaGreatDoorJ08
import Derived.Test.YtjpmfgoodcldcaaGreatDoorJ25
import Derived.Deep.QuietTactic
import Derived.BigQuiet
namespace Go.Proofs.YtjpmfgoodcldcaaGreatDoor
set_option maxRecDepth 100000
open Go.RowKit
theorem bengine_any {w : World} {b m : Nat} {en pg ps rd : Int} {M : Int → Option Pf} {ct : Nat} (h : Bn w b m en pg ps rd M ct) : Calls Tryz.prog 174 #[pB b] w fun e u => e = .returned (.int .i64 en) ∧ u = w := by
 obtain ⟨c0, c1, c2, c3, c4, f4⟩ := h.cells
 clear h
 go_enter Tryz.func174, Tryz.ntmps174
 go_wp2
 go_ret
 exact ⟨rfl, rfl⟩
theorem kindP_any (w : World) (a : Nat) (k : Int) (n : Nat) (vb vs : Value) (h : PR w a k n vb vs) : Calls Tryz.prog 181 #[.pointer (some ⟨a, 0, none⟩)] w fun e w' => e = .returned (.int .i64 k) ∧ w' = w := by
 obtain ⟨p0, p1, p2, p3⟩ := h.cells
 clear h
 go_enter Tryz.func181, Tryz.ntmps181
 go_wp2_with fail
 go_ret
 exact ⟨rfl, rfl⟩
structure Gd1 (cs : List Cl) : Prop where
 wf : ∀ c ∈ cs, c.Wf
 fit : ∀ c ∈ cs, c.fit
 chk : chk 2 512 none cs = 0
 sz : szN cs ≤ 512
theorem Gd1.is {cs : List Cl} (h : Gd1 cs) : Is 2 512 cs (pgB 2 512 cs) := ⟨isKd2, pw512, h.chk, h.sz, rfl⟩
theorem Gd1.len {cs : List Cl} (h : Gd1 cs) : (pgB 2 512 cs).length = 512 := pgB_length 2 512 _ h.sz
theorem Gd1.pwf {cs : List Cl} (h : Gd1 cs) : Wf (pgB 2 512 cs) := pgB_wf (by omega) h.wf
theorem Gd1.kd {cs : List Cl} (h : Gd1 cs) : (pgB 2 512 cs).getD 0 0 = 2 := (readM_of h.is).2.2
theorem Gd1.one {cs ds : List Cl} (h : Gd1 cs) (hd : Is ((pgB 2 512 cs).getD 0 0) (pgB 2 512 cs).length ds (pgB 2 512 cs)) : ds = cs := (hd.one h.is).2.2
theorem Gd1.eg {cs : List Cl} (h : Gd1 cs) : egO (pgB 2 512 cs) = 1 := by
 unfold egO
 rw [h.len, if_neg (by omega)]
 obtain ⟨U, _, e⟩ := pgB_split 2 512 cs
 rw [e]
 rfl
theorem Gd1.eg1 {cs : List Cl} (h : Gd1 cs) : (pgB 2 512 cs).getD 1 0 = 1 := by
 have := h.eg
 unfold egO at this
 rwa [h.len, if_neg (by omega)] at this
theorem toward_leaf (w : World) (B a : Nat) (vb vs : Value) (cs : List Cl) (hp : Po w B a 2 512 vb vs cs) (g : Gd1 cs) (qo : Option Addr) (qn qc : Nat) (q : List Int) (hq : Sl w qo qn qc q) :
  Calls Tryz.prog 30 #[iP a, .slice qo qn qc] w fun e w' => ∃ r : Nat, e = .returned (.int .i64 (r : Int)) ∧ Hid (Fnd cs q r) ∧ Hid (Below w.heap.size w w') := by
 obtain ⟨bo, bc, rfl⟩ := hp.body.slice
 obtain ⟨so, sc, rfl⟩ := hp.starts.shape
 have HF := hidden (find_any w a 2 512 bo _ bc so _ sc cs (hp.pg g.wf (by have := g.sz; omega)) g.chk (by omega) g.sz qo qn qc q hq)
 have HK : Hid (∀ u, Below w.heap.size w u → Calls Tryz.prog 181 #[.pointer (some ⟨a, 0, none⟩)] u fun e w' => e = .returned (.int .i64 2) ∧ w' = u) := hidden fun u hu => kindP_any u a 2 512 _ _ (box_on hp.row hu)
 clear hp hq g
 go_enter Tryz.func30, Tryz.ntmps30
 go_wp2_with (first | (go_at_call 179; refine HF.out.mono ?_; rintro e w1 ⟨r, is, rfl, HB, HQ⟩) | (go_at_call 181; refine same_call (HK.out _ HB.out) ?_))
 go_ret
 exact ⟨r, rfl, hidden HQ.out.1, HB⟩
theorem child_leaf (w : World) (B a : Nat) (vb vs : Value) (cs : List Cl) (x : Int) (hp : Po w B a 2 512 vb vs cs) :
  Calls Tryz.prog 50 #[iP a, .int .i64 x] w fun e w' => e = .returned (.int .i64 0) ∧ w' = w := by
 have HK := hidden (kindP_any w a 2 512 _ _ hp.row)
 clear hp
 go_enter Tryz.func50, Tryz.ntmps50
 go_wp2_with (first | (go_at_call 181; refine same_call HK.out ?_))
 go_ret
 exact ⟨rfl, rfl⟩
def TB (w : World) (b m : Nat) : Prop := ∀ u, Cf (Bo b m) w u → Tab u ∧ 1 < u.heap.size
abbrev Bq (w : World) (b m : Nat) (rd : Int) (M : Int → Option Pf) (ct : Nat) : Prop := Bn w b m 1 512 100 rd M ct
theorem meth_size (b : Nat) (w : World) : (method 301 28 (pB b) "Size").run Tryz.prog w = .ok (176, pB b) w := by kernel_rfl
theorem meth_engine (b : Nat) (w : World) : (method 301 28 (pB b) "Engine").run Tryz.prog w = .ok (174, pB b) w := by kernel_rfl
theorem meth_kind (a : Nat) (w : World) : (method 301 99 (.pointer (some ⟨a, 0, none⟩)) "Kind").run Tryz.prog w = .ok (181, .pointer (some ⟨a, 0, none⟩)) w := by kernel_rfl
set_option maxHeartbeats 2000000 in
theorem wread_leaf (w : World) (b m : Nat) (rd root : Int) (M : Int → Option Pf) (ct : Nat) (f : Pf) (cs : List Cl) (h : Bq w b m rd M ct) (hr : (Lit.int .i64 root).wf = true) (hM : M root = some f) (hl : f.l = pgB 2 512 cs) (g : Gd1 cs) (hrd : rd < 4611686018427387904) (hr0 : 0 ≤ rd) (ht : TB w b m) :
  Calls Tryz.prog 55 #[iB b, .int .i64 root] w fun e w' => ∃ a, e = .returned (.tuple #[iP a, .int .i64 0]) ∧ Hid (Cf (Bo b m) w w' ∧ Bq w' b m (rd + 1) M ct ∧ w.heap.size ≤ a ∧ ∃ vb vs, Po w' w.heap.size a 2 512 vb vs cs) := by
 have HRD : Hid (Calls Tryz.prog 175 #[pB b, .int .i64 root] w fun e u => ∃ gp cp, e = .returned (.tuple #[.slice (some ⟨gp, 0, none⟩) 512 cp, .int .i64 0]) ∧ Hid (Sl u (some ⟨gp, 0, none⟩) 512 cp (pgB 2 512 cs) ∧ Bq u b m (rd + 1) M ct ∧ Cf (Bo b m) w u)) := hidden (by
  refine (bread_any h root hr hrd hr0).mono ?_
  rintro e u ⟨ao, sn, c, k, rfl, HQ⟩
  rcases HQ.out with ⟨h1, _⟩ | ⟨f', h1, rfl, rfl, h4, h5, h6⟩
  ·rw [hM] at h1
   cases h1
  ·rw [hM] at h1
   injection h1 with h1
   subst h1
   rw [hl] at h4 ⊢
   obtain ⟨ao', c', e1, hsl, _⟩ := h4.sl g.pwf (by rw [g.len]; omega)
   injection e1 with e2 e3 e4
   subst e2 e4
   rw [g.len] at hsl ⊢
   obtain ⟨gp, rfl⟩ : ∃ gp, ao = some ⟨gp, 0, none⟩ := by
    unfold OwnB at h4
    rcases h4.2 with ⟨e, _⟩ | ⟨q, cc, cur, e, _⟩
    ·injection e with e1 e2
     rw [g.len] at e2
     cases e2
    ·injection e with e1
     exact ⟨q, e1⟩
   exact ⟨gp, c, rfl, hidden ⟨hsl, h5, h6.wd13 (fun x e => .inl e)⟩⟩)
 have HTB := hidden ht
 have HG := hidden g
 clear h hM hl g ht
 go_enter Tryz.func55, Tryz.ntmps55
 go_wp2_with (first | (go_at_call 175; refine HRD.out.mono ?_; rintro e w1 ⟨gp, cp, rfl, HQ1⟩; refine Hid.out ?_))
 apply hidden
 clear HRD
 have HOP : Hid (Calls Tryz.prog 56 #[.slice (some ⟨gp, 0, none⟩) 512 cp] w1 fun e w' => ∃ a, e = .returned (.tuple #[iP a, .int .i64 0]) ∧ Hid (Below w1.heap.size w1 w' ∧ w1.heap.size ≤ a ∧ ∃ vb vs, Po w' w1.heap.size a 2 512 vb vs cs)) := hidden (by
  obtain ⟨q1, q2, q3⟩ := HQ1.out
  obtain ⟨t1, t2⟩ := HTB.out w1 q3
  refine (nopen_1 (some ⟨gp, 0, none⟩) 512 cp (pgB 2 512 cs) w1 q1 t1 t2 HG.out.eg).mono ?_
  rintro e w' ⟨v, c, rfl, HB, HQ⟩
  rcases HQ.out with ⟨_, _, h⟩ | ⟨o, bo, bn, bc, so, sn, sc, ds, rfl, rfl, h3, h4, _, h6⟩
  ·exact absurd ⟨cs, by rw [HG.out.kd, HG.out.len]; exact HG.out.is⟩ h
  ·have := HG.out.one h4
   subst this
   rw [HG.out.kd, HG.out.len] at h6
   exact ⟨o, rfl, hidden ⟨HB.out, h3, _, _, h6⟩⟩)
 go_wp2_with (first | (go_at_call 56; refine HOP.out.mono ?_; rintro e w2 ⟨a, rfl, HQ2⟩; refine Hid.out ?_))
 apply hidden
 clear HOP
 obtain ⟨q1, q2, q3⟩ := HQ1.out
 obtain ⟨p1, p2, vb, vs, p3⟩ := HQ2.out
 have HBN := hidden (q2.on p1)
 have hsl2 := q1.on (Nat.le_refl _) p1
 have hcl : ∀ z, (w2.drewN z).cell? ⟨gp, 1, none⟩ = some (.int .u8 1) := fun z => by
  rcases (hsl2.drewN z).hat with h0 | ⟨g', off, e, _, hc⟩
  ·omega
  ·injection e with e
   injection e with e1 e2
   subst e1 e2
   have := hc 1 (by omega)
   rw [HG.out.eg1] at this
   simpa using this
 have hcl0 := hcl 0
 have HSZ := hidden (fun z => bsize_any (q2.on (bl_dr p1 z)))
 have HEN := hidden (fun z => bengine_any (q2.on (bl_dr p1 z)))
 have HKD := hidden (fun z => kindP_any (w2.drewN z) a 2 512 vb vs (box_on p3.row (bl_dr (Below.refl _ _) z)))
 have HFIN : Hid (∀ z, Cf (Bo b m) w (w2.drewN z) ∧ Bq (w2.drewN z) b m (rd + 1) M ct ∧ w.heap.size ≤ a ∧ ∃ vb vs, Po (w2.drewN z) w.heap.size a 2 512 vb vs cs) := hidden fun z => ⟨q3.go (Cf.of_below (bl_dr p1 z)), q2.on (bl_dr p1 z), Nat.le_trans q3.size p2, vb, vs, (p3.on (bl_dr (Below.refl _ _) z)).low q3.size⟩
 clear q1 q2 q3 p1 p2 p3 hsl2 HQ1 HQ2 HTB HG HBN
 have m1 := fun u => meth_size b u
 have m2 := fun u => meth_engine b u
 have m3 := fun u => meth_kind a u
 go_wp2_with fail
 go_quiet (first | (go_at_call 176; exact Calls.quiet_of_same (HSZ.out _)) | (go_at_call 174; exact Calls.quiet_of_same (HEN.out _)) | (go_at_call 181; exact Calls.quiet_of_same (HKD.out _)))
 go_wp2
 go_ret2
 exact ⟨a, rfl, hidden (HFIN.out _)⟩
end Go.Proofs.YtjpmfgoodcldcaaGreatDoor
