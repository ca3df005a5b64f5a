/- The law's lent and asLent: ints that are lent. -/
import Derived.Test.YtbbljldnaiiemaaDoorVh
import Derived.Deep.OwnRows
import Derived.Laws.CopyOwn
import Derived.BigQuiet
namespace Go.Proofs.YtbbljldnaiiemaaDoor
open Go.RowKit

set_option maxRecDepth 100000 in
theorem made_row {w : World} {e n g : Nat} {z : Value} (h : w.ownsRow 0 e 1 (.slice (some ⟨g, 0, none⟩) n n) n (madeCells #[z] n).toList) : w.heap[g]? = some (.cells (List.replicate n z).toArray e (0, 0)) := by
  rcases h.2 with ⟨h, _⟩ | ⟨g, c, cur, h, _, hh, _, _, hs, ht⟩
  · cases h
  · cases h
    rw [hh]
    congr 2
    apply Array.toList_inj.1
    rw [toList_madeCells_one] at ht
    simp only [Nat.mul_one] at hs ht
    rw [List.take_of_length_le (by simp [hs])] at ht
    simpa using ht

set_option maxRecDepth 100000 in
theorem IV_length (l : List Int) : (IV l).length = l.length := by simp [IV]
set_option maxRecDepth 100000 in
theorem IV_one (l : List Int) : ∀ v ∈ IV l, v.oneCell' = true := by
  intro v hv
  unfold IV at hv
  obtain ⟨x, _, rfl⟩ := List.mem_map.1 hv
  rfl
set_option maxRecDepth 100000 in
theorem slz_src {w : World} {b off n c : Nat} {l : List Int} (h : SlZ w (some ⟨b, off, none⟩) n c l) : ∀ j v, (IV l)[j]? = some v → w.cell? ((⟨b, off, none⟩ : Addr).add j) = some v := by
  intro j v hv
  unfold IV at hv
  rw [List.getElem?_map] at hv
  have hl := h.hlen
  cases e : l[j]? with
  | none => rw [e] at hv; cases hv
  | some x =>
    rw [e] at hv
    cases hv
    have hj := (List.getElem?_eq_some_iff.1 e).1
    rcases h.hat with h0 | ⟨b', off', e', _, hc⟩
    · omega
    · cases e'
      have := hc j (by omega)
      rw [Addr.add_lit, this, List.getD, e]
      rfl
set_option maxRecDepth 100000 in
set_option maxHeartbeats 1000000 in
theorem lentZ_any (ao : Option Addr) (n cap : Nat) (l : List Int) (w : World) (hs : SlZ w ao n cap l) (h8 : n ≤ 17592186044416) :
    Calls Tryd.prog 10 #[.slice ao n cap] w fun e w' => e = .returned (.slice (some ⟨w.heap.size, 0, none⟩) n (n + 2)) ∧ Hid (Bj w' w.heap.size (l ++ [-71, -72])) ∧ Hid (Below w.heap.size w w') := by
  obtain ⟨i0, hi, hz0, hz1, hz2⟩ := info_parts info64
  have hsz : (Tryd.prog.info? 3).map (·.size) = some 1 := by rw [hi]; simp [hz1]
  have HS := hidden hs
  have HLEN := hidden hs.hlen
  clear hs
  go_enter Tryd.func10, Tryd.ntmps10
  go_wp2_with (at_make; refine wpList_make_full _ rfl _ _ 23 rfl 0 3 i0 (.int .i64 0) 1 Tryd.underlying23 hi hz0 hz1 .i64 .i64 (n + 2) (n + 2) (n + 2) rfl rfl rfl rfl (by rw [hz2]; omega) (by unfold maxLen; omega) (Nat.zero_le _) ?_)
  intro w1 hown1 hg1
  have HR1 := hidden (made_row hown1)
  have HB1 : Hid (Below w.heap.size w w1) := hidden ((Below.refl _ _).grown hg1 (Nat.le_refl _) (fun k hk => by cases hk))
  clear hown1 hg1 hi hz0 hz1 hz2
  have HP : Hid (0 < (IV l).length → some (⟨w.heap.size, 0, none⟩ : Addr) = some ⟨w.heap.size, 0, none⟩ ∧ ∃ ad, ao = some ad ∧ ∀ j v, (IV l)[j]? = some v → w1.cell? (ad.add j) = some v) := by
    refine hidden fun h => ?_
    rw [IV_length] at h
    have h1 := HS.out.on (Nat.le_refl _) HB1.out
    rcases HS.out.hat with h0 | ⟨b, off, rfl, hbb, hc⟩
    · rw [HLEN.out] at h; omega
    · exact ⟨rfl, _, rfl, slz_src h1⟩
  obtain ⟨cur, hcur⟩ : ∃ cur, List.replicate (n + 2) (Value.int .i64 0) = cur := ⟨_, rfl⟩
  rw [hcur] at HR1
  have HCL : Hid (cur.length = n + 2) := hidden (by rw [← hcur]; simp)
  have HCUR := hidden hcur
  clear hcur
  go_wp2_with (refine wpList_copy_splice rfl _ _ 23 23 rfl 3 Tryd.underlying23 hsz _ _ (n + 2) (n + 2) n cap rfl rfl w.heap.size 0 cur 3 HR1.out (IV l) (by rw [IV_length, HLEN.out]; exact (Nat.min_eq_left (by omega)).symm) HP.out (by rw [IV_length, HLEN.out, HCL.out]; omega) (IV_one l) w.heap.size w HB1.out (Nat.le_refl _) ?_; refine Hid.out ?_)
  apply hidden
  intro w2 hh hb2
  have HR2 : Hid (Bj w2 w.heap.size (l ++ [0, 0])) := hidden (by
    unfold Bj
    rw [hh.out, ← HCUR.out]
    simp only [splice, IV_length, HLEN.out, List.take_zero, List.nil_append, Nat.zero_add, List.drop_replicate, show n + 2 - n = 2 by omega]
    simp only [IV, List.map_append]
    rfl)
  have HB2 := hidden hb2
  have hlt2 : w.heap.size < w2.heap.size := lt_some HR2.out
  have hl2 : (l ++ [0, 0] : List Int).length = n + 2 := by rw [List.length_append, HLEN.out]; rfl
  have c0 := HR2.out.cell n (by omega)
  have c1 := HR2.out.cell (n + 1) (by omega)
  have f0 := HR2.out.free n
  have f1 := HR2.out.free (n + 1)
  obtain ⟨y0, hy0⟩ : ∃ y, (l ++ [0, 0] : List Int).getD n 0 = y := ⟨_, rfl⟩
  obtain ⟨y1, hy1⟩ : ∃ y, (l ++ [0, 0] : List Int).getD (n + 1) 0 = y := ⟨_, rfl⟩
  rw [hy0] at c0
  rw [hy1] at c1
  have HEND : Hid (Bj ((w2.setCell ⟨w.heap.size, n, none⟩ (.int .i64 (-71))).setCell ⟨w.heap.size, n + 1, none⟩ (.int .i64 (-72))) w.heap.size (l ++ [-71, -72])) := hidden (by
    have := (HR2.out.set (i := n) (-71)).set (i := n + 1) (-72)
    have e : ((l ++ [0, 0]).set n (-71)).set (n + 1) (-72) = l ++ [-71, -72] := by
      rw [List.set_append_right _ _ (by rw [HLEN.out]; omega), List.set_append_right _ _ (by rw [HLEN.out]; omega), HLEN.out, Nat.sub_self, show n + 1 - n = 1 by omega]
      rfl
    rw [e] at this
    exact this)
  have HBE : Hid (Below w.heap.size w ((w2.setCell ⟨w.heap.size, n, none⟩ (.int .i64 (-71))).setCell ⟨w.heap.size, n + 1, none⟩ (.int .i64 (-72)))) := hidden ((HB2.out.setCell (Nat.le_refl _) _).setCell (Nat.le_refl _) _)
  clear hh hb2 HP HCUR HCL HR1 HB1 HS HR2 HB2 hy0 hy1 hl2
  go_wp2_with fail
  go_ret
  exact ⟨rfl, HEND, HBE⟩
end Go.Proofs.YtbbljldnaiiemaaDoor

/- The law's asLent. -/

namespace Go.Proofs.YtbbljldnaiiemaaDoor
open Go.RowKit

set_option maxRecDepth 100000 in
theorem ow_step (X : List Int) (k : Nat) (c : Int) (h : k < X.length) : (List.replicate k c ++ X.drop k).set k c = List.replicate (k + 1) c ++ X.drop (k + 1) := by
  rw [List.set_append_right _ _ (by simp), List.length_replicate, Nat.sub_self, List.drop_eq_getElem_cons h, List.set_cons_zero, List.replicate_succ', List.append_assoc]
  rfl
set_option maxRecDepth 100000 in
theorem ow_len (X : List Int) (k : Nat) (c : Int) (h : k ≤ X.length) : (List.replicate k c ++ X.drop k).length = X.length := by simp; omega
set_option maxRecDepth 100000 in
theorem Bj.slz2 {w : World} {g n : Nat} {l r : List Int} (h : Bj w g (l ++ r)) (hl : l.length = n) (hb : n ≤ 140737488355328) (hw : ∀ x ∈ l, -9223372036854775808 ≤ x ∧ x ≤ 9223372036854775807) (c : Nat) (hc : n ≤ c) : SlZ w (some ⟨g, 0, none⟩) n c l := by
  refine ⟨hl, hb, hw, hc, .inr ⟨g, 0, rfl, lt_some h, fun i hi => ?_⟩⟩
  rw [Nat.zero_add, h.cell i (by rw [List.length_append]; omega)]
  simp [List.getD, List.getElem?_append_left (show i < l.length by omega)]
set_option maxRecDepth 100000 in
set_option maxHeartbeats 1000000 in
theorem asLentZ_any (g n : Nat) (bo : Option Addr) (d : Nat) (l : List Int) (w : World) (hr : Bj w g (l ++ [-71, -72])) (hb : SlZ w bo n d l) :
    Calls Tryd.prog 13 #[.slice (some ⟨g, 0, none⟩) n (n + 2), .slice bo n d] w fun e w' => e = .returned (.bool true) ∧ Hid (Cf (· = g) w w') := by
  have hlen := hb.hlen
  have hbig := hb.hbig
  have HSL : Hid (SlZ w (some ⟨g, 0, none⟩) n (n + 2) l) := hidden (hr.slz2 hlen hbig hb.wf (n + 2) (by omega))
  have HSB := hidden hb
  have HSM : Hid (Calls Tryd.prog 17 #[.slice (some ⟨g, 0, none⟩) n (n + 2), .slice bo n d] w fun e u => e = .returned (.bool true) ∧ Hid (Below w.heap.size w u)) := hidden (by
    refine (sameZ_any _ _ n n (n + 2) d l l w HSL.out HSB.out).mono ?_
    rintro e u ⟨rfl, m, rfl⟩
    exact ⟨by simp, hidden (bl_dr (Below.refl _ _) m)⟩)
  obtain ⟨X, hX⟩ : ∃ X, l ++ [-71, -72] = X := ⟨_, rfl⟩
  have HXL : Hid (X.length = n + 2) := hidden (by rw [← hX, List.length_append, hlen]; rfl)
  have e0 : X.getD n 0 = -71 := by rw [← hX]; simp [List.getD, ← hlen]
  have e1 : X.getD (n + 1) 0 = -72 := by rw [← hX]; simp [List.getD, ← hlen]
  rw [hX] at hr
  have HR := hidden hr
  have HE0 := hidden e0
  have HE1 := hidden e1
  clear hr hb hX hlen e0 e1
  go_enter Tryd.func13, Tryd.ntmps13
  go_wp2_with (go_at_call 17; refine HSM.out.mono ?_; rintro e w1 ⟨rfl, HB1⟩; refine Hid.out ?_)
  apply hidden
  have HR0 : Hid (Bj w1 g X) := hidden (HR.out.on HB1.out)
  have HC0 : Hid (Cf (· = g) w w1) := hidden (Cf.of_below HB1.out)
  have c0 := HR0.out.cell n (by rw [HXL.out]; omega)
  have c1 := HR0.out.cell (n + 1) (by rw [HXL.out]; omega)
  rw [HE0.out] at c0
  rw [HE1.out] at c1
  clear HSM HSL HSB HR HE0 HE1 HB1
  go_wp2_with fail
  clear c0 c1
  go_loopw [8] (fun i wr => ∃ k : Nat, k ≤ n + 2 ∧ i = .int .i64 (k : Int) ∧ Hid (Bj wr g (List.replicate k (-5) ++ X.drop k)) ∧ Hid (Cf (· = g) w wr)) (fun i _ => n + 2 - (RowKit.intOf i).toNat)
  case atStart => exact ⟨0, by omega, rfl, by simpa using HR0, HC0⟩
  case round =>
    obtain ⟨k, hk, rfl, HW, HB⟩ := hrel
    have hlk : (List.replicate k (-5) ++ X.drop k).length = n + 2 := by rw [ow_len _ _ _ (by rw [HXL.out]; exact hk), HXL.out]
    by_cases hlt : k < n + 2
    · have hlt' : (k : Int) < (n : Int) + 2 := by omega
      have f := HW.out.free k
      have cy := HW.out.cell k (by rw [hlk]; exact hlt)
      obtain ⟨y, hy⟩ : ∃ y, (List.replicate k (-5) ++ X.drop k).getD k 0 = y := ⟨_, rfl⟩
      rw [hy] at cy
      have HW2 : Hid (Bj (wr.setCell ⟨g, k, none⟩ (.int .i64 (-5))) g (List.replicate (k + 1) (-5) ++ X.drop (k + 1))) := hidden (by
        rw [← ow_step _ _ _ (by rw [HXL.out]; exact hlt)]
        exact HW.out.set (-5))
      have HB2 : Hid (Cf (· = g) w (wr.setCell ⟨g, k, none⟩ (.int .i64 (-5)))) := hidden (HB.out.go (Cf.setCell (F := (· = g)) wr (p := ⟨g, k, none⟩) rfl _))
      clear hy hlk
      go_wp2_with fail
      go_roundw
      case rel => exact ⟨k + 1, by omega, by go_num, HW2, HB2⟩
      case measure => simp [RowKit.intOf]; omega
    · have hge : ¬ ((k : Int) < (n : Int) + 2) := by omega
      clear hlk
      go_wp2_with fail
      go_ret
      exact ⟨rfl, HB⟩
end Go.Proofs.YtbbljldnaiiemaaDoor

/- The document's list of layer 10 in memory: its entries; find. -/

namespace Go.Proofs.YtbbljldnaiiemaaDoor
open Go.RowKit

def EV : List (Int × Int) → List Value
  | [] => []
  | e :: r => .int .i64 e.1 :: .int .i64 e.2 :: EV r
set_option maxRecDepth 100000 in
theorem EV_length : ∀ es, (EV es).length = es.length * 2
  | [] => rfl
  | _ :: r => by
    show (EV r).length + 1 + 1 = (r.length + 1) * 2
    rw [EV_length r]
    omega
set_option maxRecDepth 100000 in
theorem EV_append (a b : List (Int × Int)) : EV (a ++ b) = EV a ++ EV b := by
  induction a with
  | nil => rfl
  | cons e r ih => show _ :: _ :: EV (r ++ b) = _; rw [ih]; rfl
set_option maxRecDepth 100000 in
theorem EV_at : ∀ (es : List (Int × Int)) (i : Nat), i < es.length → (EV es)[i * 2]? = some (.int .i64 (es.getD i (0, 0)).1) ∧ (EV es)[i * 2 + 1]? = some (.int .i64 (es.getD i (0, 0)).2)
  | [], i, h => by simp at h
  | e :: r, 0, _ => ⟨rfl, rfl⟩
  | e :: r, i + 1, h => by
    have := EV_at r i (by simpa using h)
    refine ⟨?_, ?_⟩
    · rw [show (i + 1) * 2 = i * 2 + 1 + 1 by omega]; exact this.1
    · rw [show (i + 1) * 2 + 1 = i * 2 + 1 + 1 + 1 by omega]; exact this.2
set_option maxRecDepth 100000 in
theorem infoE : (Tryd.prog.info? 81).map (fun i => (i.zero, i.size, i.bytes)) = some (some (.agg #[.int .i64 0, .int .i64 0]), 2, 16) := by kernel_rfl
/-- The slice value v owns the entries es, in a block from B on. -/
def OwnE (w : World) (B : Nat) (v : Value) (es : List (Int × Int)) : Prop := w.ownsRow B 81 2 v es.length (EV es)
set_option maxRecDepth 100000 in
theorem OwnE.nil (w : World) (B : Nat) : OwnE w B (.slice none 0 0) [] := World.ownsRow_nil w B 81 2
set_option maxRecDepth 100000 in
theorem OwnE.gr {w w' : World} {B : Nat} {v : Value} {l : List (Int × Int)} {u u' : Value} (h : OwnE w B v l) (hg : Gr w u w' u') (hne : v.ownBlock = none ∨ v.ownBlock ≠ u.ownBlock) : OwnE w' B v l := World.ownsRow.kept h hg.grow hne
set_option maxRecDepth 100000 in
theorem OwnE.below {w w' : World} {B : Nat} {v : Value} {l : List (Int × Int)} (h : OwnE w B v l) (hb : Below w.heap.size w w') : OwnE w' B v l := h.gr (Gr.ofBelow (.slice none 0 0) hb) (by
  cases hv : v.ownBlock with
  | none => exact .inl rfl
  | some k => exact .inr (by simp [Value.ownBlock]))
set_option maxRecDepth 100000 in
theorem OwnE.cf {w w' : World} {B : Nat} {v : Value} {l : List (Int × Int)} {F : Nat → Prop} (h : OwnE w B v l) (hc : Cf F w w') (hf : ∀ k, v.ownBlock = some k → ¬ F k) : OwnE w' B v l := by
  unfold OwnE at *
  rcases h.2 with h2 | ⟨g, cap, cur, e, hg, hh, rest⟩
  · exact ⟨h.1, .inl h2⟩
  · refine ⟨h.1, .inr ⟨g, cap, cur, e, hg, ?_, rest⟩⟩
    rw [hc.block g (lt_some hh) (hf g (by rw [e]; rfl))]
    exact hh
set_option maxRecDepth 100000 in
theorem OwnE.lt {w : World} {B : Nat} {v : Value} {l : List (Int × Int)} (h : OwnE w B v l) {k : Nat} (hk : v.ownBlock = some k) : B ≤ k ∧ k < w.heap.size := by
  unfold OwnE at h
  exact h.lt k hk
set_option maxRecDepth 100000 in
theorem OwnE.cells {w : World} {B : Nat} {v : Value} {l : List (Int × Int)} (h : OwnE w B v l) : ∃ ao cap, v = .slice ao l.length cap ∧ (l.length = 0 ∨ ∃ g, ao = some ⟨g, 0, none⟩ ∧ B ≤ g ∧ g < w.heap.size ∧ ∀ i, i < l.length → w.cell? ⟨g, i * 2, none⟩ = some (.int .i64 (l.getD i (0, 0)).1) ∧ w.cell? ⟨g, i * 2 + 1, none⟩ = some (.int .i64 (l.getD i (0, 0)).2)) := by
  have h' := h
  unfold OwnE at h'
  rcases h'.2 with ⟨rfl, h0⟩ | ⟨g, cap, cur, rfl, hg, hh, hnc, hm, hs, ht⟩
  · exact ⟨none, 0, by rw [h0], .inl h0⟩
  · refine ⟨_, cap, rfl, .inr ⟨g, rfl, hg, lt_some hh, fun i hi => ?_⟩⟩
    have hl := EV_length l
    have e := EV_at l i hi
    have a0 := h'.cellAt (i * 2) (by omega)
    have a1 := h'.cellAt (i * 2 + 1) (by omega)
    exact ⟨a0.trans e.1, a1.trans e.2⟩
set_option maxRecDepth 100000 in
theorem app_e {ops : Array Oper} {rest : List Oper} {o : Oper} {a : Act} {Q : Exit → Act → World → Prop} (w : World) (hgd : o.guard = none) (s x : Operand)
    (ho : o.op = .call { callee := .builtin .append, args := #[s, x], argTypes := #[75, 75] }) (B : Nat) (l : List (Int × Int)) (y : Int × Int) (v : Value) (g : Nat) (hs : a.eval s = v) (hx : a.eval x = .slice (some ⟨g, 0, none⟩) 1 1)
    (hown : OwnE w B v l) (hy0 : w.cell? ⟨g, 0, none⟩ = some (.int .i64 y.1)) (hy1 : w.cell? ⟨g, 1, none⟩ = some (.int .i64 y.2)) (hb : l.length + 1 ≤ 1000000) (hbase : B ≤ w.heap.size)
    (h : ∀ v' w', OwnE w' B v' (l ++ [y]) → Gr w v w' v' → wpList Tryd.prog ops Q rest (a.put o.dst v') w') : wpList Tryd.prog ops Q (o :: rest) a w := by
  obtain ⟨i0, hi, hz0, hz1, hz2⟩ := info_parts infoE
  refine wpList_append_own_at w hgd s x 75 ho B 81 i0 _ 2 16 Tryd.underlying75 hi hz0 hz1 hz2 rfl (by decide) v l.length (EV l) hs hown ⟨g, 0, none⟩ 1 1 (EV [y]) hx rfl
    (fun j u hu => by
      have hj : j = 0 ∨ j = 1 := by
        have := (List.getElem?_eq_some_iff.1 hu).1
        rw [EV_length] at this
        simp at this
        omega
      rcases hj with rfl | rfl
      · simp [EV] at hu
        rw [← hu]
        simpa [Addr.add] using hy0
      · simp [EV] at hu
        rw [← hu]
        simpa [Addr.add] using hy1) (by simp [EV, Value.oneCell']) (by unfold maxLen; omega) (by omega) hbase ?_
  intro v' w' h1 h2 _ h4
  refine h v' w' ?_ ⟨h2, h4.imp id fun e => ⟨_, e, Nat.le_refl _⟩⟩
  unfold OwnE
  rw [EV_append, List.length_append]
  exact h1
/-- The document's list: its entries' slice, its marks', the last mark's number. -/
structure Rl (w : World) (B b : Nat) (v m : Value) (la : Int) (es : List (Int × Int)) : Prop where
  box : w.heap[b]? = some (.cells #[v, m, .int .i64 la] 78 (0, 0))
  own : OwnE w B v es
  len : es.length ≤ 65536
/-- There is an entry of this page. -/
def keyE (es : List (Int × Int)) (p : Int) : Prop := p ∈ es.map (·.1)
set_option maxRecDepth 100000 in
set_option maxHeartbeats 1000000 in
theorem rfind_any (w : World) (B b : Nat) (v m : Value) (la : Int) (es : List (Int × Int)) (p : Int) (h : Rl w B b v m la es) :
    Calls Tryd.prog 39 #[pB b, .int .i64 p] w fun e u => ∃ r : Int, e = .returned (.int .i64 r) ∧ Hid (0 ≤ r ↔ keyE es p) ∧ u = w := by
  obtain ⟨ao, cap, rfl, hc⟩ := h.own.cells
  have hbx := h.box
  have c0 : w.cell? ⟨b, 0, none⟩ = some (.slice ao es.length cap) := by rw [cell_of_row _ _ 0 _ _ _ hbx]; rfl
  have HC := hidden hc
  have hlen := h.len
  have hlI : (es.length : Int) ≤ 65536 := by omega
  clear h hc hbx
  obtain ⟨N, hN⟩ : ∃ N, es.length = N := ⟨_, rfl⟩
  have HN := hidden hN
  rw [hN] at c0 hlen hlI HC
  clear hN
  go_enter Tryd.func39, Tryd.ntmps39
  go_wp2_with fail
  go_loop [5] (fun i => ∃ k : Nat, k ≤ N ∧ i = .int .i64 (k : Int) ∧ Hid (∀ j, j < k → (es.getD j (0, 0)).1 ≠ p)) (fun i => N - (RowKit.intOf i).toNat)
  case atStart => exact ⟨0, by omega, rfl, hidden (fun j hj => by omega)⟩
  case round =>
    obtain ⟨k, hk, rfl, HJ⟩ := hrel
    by_cases hlt : k < N
    · rcases HC.out with h0 | ⟨g, rfl, _, _, hcc⟩
      · omega
      have hltI : (k : Int) < (N : Int) := by omega
      have ck := (hcc k hlt).1
      have HE : Hid (∀ z, (es.getD k (0, 0)).1 = z → z = p → keyE es p) := hidden (fun z h1 h2 => by
        rw [← h2, ← h1]
        rw [List.getD, List.getElem?_eq_getElem (by rw [HN.out]; exact hlt)]
        exact List.mem_map.2 ⟨_, List.getElem_mem _, rfl⟩)
      obtain ⟨z, hz⟩ : ∃ z, (es.getD k (0, 0)).1 = z := ⟨_, rfl⟩
      rw [hz] at ck
      have HZ := hidden hz
      clear hcc hz
      by_cases e : z = p
      · subst e
        have eb : (z == z) = true := by simp
        go_wp2_with fail
        go_ret
        exact ⟨_, rfl, hidden ⟨fun _ => HE.out _ HZ.out rfl, fun _ => by omega⟩, rfl⟩
      · have eb : (z == p) = false := by rw [beq_eq_false_iff_ne]; exact e
        go_wp2_with fail
        go_round
        case rel => exact ⟨k + 1, by omega, by go_num, hidden (fun j hj => by
          by_cases h2 : j < k
          · exact HJ.out j h2
          · obtain rfl : j = k := by omega
            rw [HZ.out]; exact e)⟩
        case measure => simp [RowKit.intOf]; omega
    · have hge : ¬ (k : Int) < (N : Int) := by omega
      have HNO : Hid (¬ keyE es p) := hidden (by
        intro h
        obtain ⟨x, hx, rfl⟩ := List.mem_map.1 h
        obtain ⟨j, hj, rfl⟩ := List.mem_iff_getElem.1 hx
        have := HJ.out j (by rw [HN.out] at hj; omega)
        rw [List.getD, List.getElem?_eq_getElem hj] at this
        exact this rfl)
      go_wp2_with fail
      go_ret
      exact ⟨_, rfl, hidden ⟨fun h => absurd h (by decide), fun h => absurd h HNO.out⟩, rfl⟩
end Go.Proofs.YtbbljldnaiiemaaDoor
