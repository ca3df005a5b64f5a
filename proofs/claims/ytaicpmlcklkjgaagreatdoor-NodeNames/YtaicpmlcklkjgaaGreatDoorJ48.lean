/- packed: Insert behind all, of a key that does not begin with the prefix. -/
import Derived.Test.YtaicpmlcklkjgaaGreatDoorJ46
import Derived.Test.YtaicpmlcklkjgaaGreatDoorJ47
namespace Go.Proofs.YtaicpmlcklkjgaaGreatDoor
open Go.RowKit

set_option maxRecDepth 100000 in
theorem PO.pgq {w : World} {B a : Nat} {k : Int} {n : Nat} {po : Option Addr} {pn pc : Nat} {bo : Option Addr} {bn bc : Nat} {so : Option Addr} {sn sc : Nat} {ws : Int} {P body : List Int} {st : List Nat} (h : PO w B a k n po pn pc (.slice bo bn bc) (.slice so sn sc) ws P body st) (hw : Wf body) (hb : body.length ≤ 140737488355328) (hs : st.length ≤ 140737488355328) : PgQ w a k n po pn pc bo bn bc so sn sc ws P body st := by
  obtain ⟨bo', bc', so', sc', e1, e2, hp⟩ := h.pg hw hb hs
  injection e1 with i1 i2 i3
  injection e2 with i4 i5 i6
  subst i1 i3 i4 i6
  rw [← i2, ← i5] at hp
  exact hp
end Go.Proofs.YtaicpmlcklkjgaaGreatDoor

/- packed: Insert into an empty leaf. -/

namespace Go.Proofs.YtaicpmlcklkjgaaGreatDoor
open Go.RowKit

set_option maxRecDepth 100000 in
set_option maxHeartbeats 2000000 in
theorem putQ_new (w : World) (B a : Nat) (k : Int) (n : Nat) (hPO : PO w B a k n none 0 0 (.slice none 0 0) (.slice none 0 0) 0 [] [] []) (hB : B ≤ w.heap.size) (hk3 : ¬ k = 3)
    (c : Cl) (ka va : Option Addr) (kc vc : Nat) (hk : Sl w ka c.key.length kc c.key) (hv : Sl w va c.val.length vc c.val) (hm : mayP k n c) (hn : pw n) (hfit : 12 + (qB 0 c).length ≤ n) :
    Calls Tryz.prog 282 #[.pointer (some ⟨a, 0, none⟩), .int .i64 0, .int .i64 0, .agg #[.slice ka c.key.length kc, .int .i64 c.kd, .slice va c.val.length vc, .int .i64 c.pg, .int .i64 c.ct]] w
      (QuTo w B a k n none 0 0 (.slice none 0 0) (.slice none 0 0) 0 [] (qB 0 c) [0] (.int .i64 0)) := by
  have hn2 := pw_nat hn
  have hcf : c.fit := hm.fit (by omega)
  have hck := hcf.key
  have hcv := hcf.val
  have hpg0 : PgQ w a k n none 0 0 none 0 0 none 0 0 0 [] [] [] := hPO.pgq Wf.nil (by simp) (by simp)
  obtain ⟨x, hx⟩ : ∃ x, w.alloc (.cells #[.slice ka c.key.length kc, .int .i64 c.kd, .slice va c.val.length vc, .int .i64 c.pg, .int .i64 c.ct] 43) = x := ⟨_, rfl⟩
  have hbx : Below w.heap.size w x := by rw [← hx]; exact bl_al (Below.refl _ _) (Nat.le_refl _) _
  obtain ⟨s, hs⟩ : ∃ s, w.heap.size = s := ⟨_, rfl⟩
  have hc5 : C5 x s (.slice ka c.key.length kc) (.int .i64 c.kd) (.slice va c.val.length vc) (.int .i64 c.pg) (.int .i64 c.ct) := by rw [← hx, ← hs]; exact C5.box _ _ _ _ _ _
  have HMB := hidden (fun u => mayBe_any k (n : Int) ka c.key.length kc c.kd va c.val.length vc c.pg c.ct u (by omega) (by omega) (by omega) (by omega))
  rw [decide_eq_true ((mayP_iff k n c).2 hm)] at HMB
  have HU : Hid (∀ u, Below x.heap.size x u → PgQ u a k n none 0 0 none 0 0 none 0 0 0 [] [] [] ∧ C5 u s (.slice ka c.key.length kc) (.int .i64 c.kd) (.slice va c.val.length vc) (.int .i64 c.pg) (.int .i64 c.ct) ∧ Sl u ka c.key.length kc c.key ∧ Sl u va c.val.length vc c.val ∧ Below w.heap.size w u) := hidden fun u hu => by
    have hb := bl_go hbx (Nat.le_refl _) hu
    exact ⟨hpg0.on hb, box_on hc5 hu, hk.on (Nat.le_refl _) hb, hv.on (Nat.le_refl _) hb, hb⟩
  have HIN : Hid (∀ u, Below w.heap.size w u → Calls Tryz.prog 292 #[.pointer (some ⟨a, 0, none⟩), .int .i64 0, .int .i64 0, .agg #[.slice ka c.key.length kc, .int .i64 c.kd, .slice va c.val.length vc, .int .i64 c.pg, .int .i64 c.ct]] u (QuTo u B a k n none 0 0 (.slice none 0 0) (.slice none 0 0) 0 [] (qB 0 c) [0] (.bool true))) := hidden fun u hu =>
    inPlace_ins u B a k n none 0 0 none 0 0 none 0 0 0 [] [] [] (hPO.go hu) (by omega) (by omega) (Nat.le_trans hB hu.size) 0 (by omega) (Nat.le_refl _) (by omega) c ka va kc vc (hk.on (Nat.le_refl _) hu) (hv.on (Nat.le_refl _) hu) (.inr fun p hp => (by simp [Value.ownBlock])) (.inr fun p hp => (by simp [Value.ownBlock])) (by omega) (by omega) rfl (.inl rfl) (by simp; omega)
  obtain ⟨p0, p1, p2, p3, p4, p5⟩ := (hpg0.on hbx).cells
  obtain ⟨z0, z1, z2, z3, z4⟩ := hc5.cells
  have HSW := hidden hs
  clear hPO hk hv hm hn hfit hpg0 hcf hbx hc5 hck hcv hn2
  go_enter Tryz.func282, Tryz.ntmps282
  go_upto_region 1 with fail
  go_cut [20] from 10 to 20 (fun v u => v = .bool false ∧ Hid (Below x.heap.size x u))
  case first =>
    go_wp2_with fail
    go_region_with (first | (go_at_call 144; refine (HMB.out _).mono ?_; rintro e w2 ⟨rfl, hb2⟩; have HB2 : Hid (Below x.heap.size x w2) := hidden (by first | exact hb2 | exact bl_go (Below.refl _ _).drew (Nat.le_refl _) hb2 | exact bl_go (bl_dr (Below.refl _ _) _) (Nat.le_refl _) hb2)))
    all_goals (try go_wp2_with fail)
    all_goals go_meet
    all_goals exact ⟨by simp, by first | exact HB2 | exact hidden HB2.out.drew | exact hidden (bl_dr HB2.out _)⟩
  obtain ⟨rfl, HB2⟩ := hcut
  obtain ⟨w2, hw2⟩ : ∃ w2, w2 = wc := ⟨_, rfl⟩
  subst hw2
  clear p0 p1 p2 p3 p4 p5 z0 z1 z2 z3 z4 HMB hx
  obtain ⟨hpg2, hc52, hk2, hv2, hb2⟩ := HU.out w2 HB2.out
  obtain ⟨z0, z1, z2, z3, z4⟩ := hc52.cells
  have HAG := hidden (against_any w2 a k n none 0 0 _ _ 0 [] hpg2.row hpg2.pre ka c.key.length kc c.key hk2)
  clear hpg2 hc52 hk2 hv2 hb2
  go_wp2_with (first | (go_at_call 281; refine HAG.out.mono ?_; rintro e w3 ⟨b1, b2, b3, b4, ro, rn, rc, b, rfl, HA3, HB3⟩; refine Hid.out ?_))
  apply hidden
  have HX3 : Hid (Below x.heap.size x w3) := hidden (bl_go HB2.out (Nat.le_refl _) HB3.out)
  clear z0 z1 z2 z3 z4 HAG
  obtain ⟨hpg3, hc53, hk3', hv3, hb3⟩ := HU.out w3 HX3.out
  obtain ⟨z0, z1, z2, z3, z4⟩ := hc53.cells
  have HLN := hidden (qlen_any w3 a k n none 0 0 none 0 0 none 0 0 0 [] [] [] hpg3)
  have HIP := hidden (HIN.out w3 hb3)
  have HBW := hidden hb3
  clear hpg3 hc53 hk3' hv3 hb3 HU HIN
  go_wp2_with (first
    | (go_at_call 160; refine same_call HLN.out ?_)
    | (go_at_call 292; refine HIP.out.mono ?_; rintro e w4 ⟨rfl, HP4, HC4⟩; refine Hid.out ?_))
  apply hidden
  go_wp2
  go_ret
  obtain ⟨vb', vs', q1, qf, q2, q3⟩ := HP4.out
  exact ⟨rfl, hidden ⟨vb', vs', q1, qf, q2.imp id (fun ⟨g, h1, h2⟩ => ⟨g, h1, Nat.le_trans HBW.out.size h2⟩), q3.imp id (fun ⟨g, h1, h2⟩ => ⟨g, h1, Nat.le_trans HBW.out.size h2⟩)⟩, hidden ((Cf.of_below HBW.out).go HC4.out)⟩
set_option maxRecDepth 100000 in
set_option maxHeartbeats 1000000 in
theorem insertQ_new (w : World) (B a : Nat) (k : Int) (n : Nat) (hPO : PO w B a k n none 0 0 (.slice none 0 0) (.slice none 0 0) 0 [] [] []) (hB : B ≤ w.heap.size) (hk3 : ¬ k = 3)
    (c : Cl) (ka va : Option Addr) (kc vc : Nat) (hk : Sl w ka c.key.length kc c.key) (hv : Sl w va c.val.length vc c.val) (hm : mayP k n c) (hn : pw n) (hfit : 12 + (qB 0 c).length ≤ n) :
    Calls Tryz.prog 273 #[.pointer (some ⟨a, 0, none⟩), .int .i64 0, .agg #[.slice ka c.key.length kc, .int .i64 c.kd, .slice va c.val.length vc, .int .i64 c.pg, .int .i64 c.ct]] w
      (QuTo w B a k n none 0 0 (.slice none 0 0) (.slice none 0 0) 0 [] (qB 0 c) [0] (.int .i64 0)) := by
  obtain ⟨x, hx⟩ : ∃ x, w.alloc (.cells #[.slice ka c.key.length kc, .int .i64 c.kd, .slice va c.val.length vc, .int .i64 c.pg, .int .i64 c.ct] 43) = x := ⟨_, rfl⟩
  have hbx : Below w.heap.size w x := by rw [← hx]; exact bl_al (Below.refl _ _) (Nat.le_refl _) _
  have hc5 : C5 x w.heap.size (.slice ka c.key.length kc) (.int .i64 c.kd) (.slice va c.val.length vc) (.int .i64 c.pg) (.int .i64 c.ct) := by rw [← hx]; exact C5.box _ _ _ _ _ _
  obtain ⟨z0, z1, z2, z3, z4⟩ := hc5.cells
  have HPT := hidden (putQ_new x B a k n (hPO.go hbx) (Nat.le_trans hB hbx.size) hk3 c ka va kc vc (hk.on (Nat.le_refl _) hbx) (hv.on (Nat.le_refl _) hbx) hm hn hfit)
  have HLN := hidden (qlen_any x a k n none 0 0 none 0 0 none 0 0 0 [] [] [] ((hPO.pgq Wf.nil (by simp) (by simp)).on hbx))
  have HBX := hidden hbx
  clear hPO hk hv hm hn hfit hbx hc5
  go_enter Tryz.func273, Tryz.ntmps273
  go_wp2_with (first | (go_at_call 160; refine same_call HLN.out ?_) | (go_at_call 282; refine HPT.out.mono ?_; rintro e w4 ⟨rfl, HP4, HC4⟩; refine Hid.out ?_))
  apply hidden
  go_wp2
  go_ret
  obtain ⟨vb', vs', q1, qf, q2, q3⟩ := HP4.out
  exact ⟨rfl, hidden ⟨vb', vs', q1, qf, q2.imp id (fun ⟨g, h1, h2⟩ => ⟨g, h1, Nat.le_trans HBX.out.size h2⟩), q3.imp id (fun ⟨g, h1, h2⟩ => ⟨g, h1, Nat.le_trans HBX.out.size h2⟩)⟩, hidden ((Cf.of_below HBX.out).go HC4.out)⟩
end Go.Proofs.YtaicpmlcklkjgaaGreatDoor
