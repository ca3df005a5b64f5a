/- The marks of the book. -/
import Derived.Test.YtikpfcapnpppdaaRx
namespace Go.Proofs.Ytikpfcapnpppdaa
open Go.RowKit

/-- The mark at place i of the m-th list. -/
def mrk (m i : Nat) : Int := IntKind.u8.wrap ((m + i / 251 : Nat) : Int)

set_option maxRecDepth 100000 in
theorem marked_yes (w : World) (ao : Option Addr) (n c : Nat) (l : List Int) (m : Nat) (hs : Sl w ao n c l) (hm : m ≤ 140737488355328) (h : ∀ i, i < n → l.getD i 0 = mrk m i) : Calls Try.prog 59 #[.slice ao n c, .int .i64 (m : Int)] w fun e w' => e = .returned (.bool true) ∧ w' = w := by
  have hroom := hs.hroom
  have HAT := hidden hs.hat
  have H := hidden h
  clear hs h
  go_enter Try.func59, Try.ntmps59
  go_wp2_with fail
  go_loop [5] (fun i => ∃ k : Nat, k ≤ n ∧ i = .int .i64 k) (fun i => n - (intOf i).toNat)
  case atStart => exact ⟨0, by omega, rfl⟩
  case round =>
    obtain ⟨k, hk, rfl⟩ := hrel
    by_cases hlt : k < n
    · have hlt' : (k : Int) < (n : Int) := by omega
      rcases HAT.out with h0 | ⟨b, off, rfl, hb, hc⟩
      · omega
      · have ck := hc k hlt
        rw [H.out k hlt] at ck
        unfold mrk at ck
        obtain ⟨z, hz⟩ : ∃ z, k / 251 = z := ⟨_, rfl⟩
        rw [hz] at ck
        have hzi : (k : Int) / 251 = (z : Int) := by omega
        have hzb : (m : Int) + (z : Int) ≤ 281474976710656 := by omega
        have hzz : (0 : Int) ≤ (m : Int) + (z : Int) := by omega
        rw [show ((m + z : Nat) : Int) = (m : Int) + (z : Int) by simp] at ck
        clear hc hz
        go_wp2
        go_round
        case rel => exact ⟨k + 1, by omega, by go_num⟩
        case measure => simp [intOf]; omega
    · have hge : ¬ ((k : Int) < (n : Int)) := by omega
      go_wp2
      go_ret
      exact ⟨rfl, rfl⟩
end Go.Proofs.Ytikpfcapnpppdaa

/- The book: Take. -/

namespace Go.Proofs.Ytikpfcapnpppdaa
open Go.RowKit

set_option maxRecDepth 100000 in
/-- append of one slice onto slices of its own. -/
theorem app_slc {w : World} {ops : Array Oper} {rest : List Oper} {o : Oper} {a : Act} {Q : Exit → Act → World → Prop} (hgd : o.guard = none) (s x : Operand) (ho : o.op = .call { callee := .builtin .append, args := #[s, x], argTypes := #[30, 30] }) (B : Nat) (v : Value) (n : Nat) (xs : List Value) (hs : a.eval s = v)
    (hown : w.ownsRow B 35 1 v n xs) (g : Nat) (u : Value) (hu1 : u.oneCell' = true) (hx : a.eval x = .slice (some ⟨g, 0, none⟩) 1 1) (hcell : w.cell? ⟨g, 0, none⟩ = some u) (hb : n < 4398046511103) (hbase : B ≤ w.heap.size)
    (h : ∀ g' c' w', w'.ownsRow B 35 1 (.slice (some ⟨g', 0, none⟩) (n + 1) c') (n + 1) (xs ++ [u]) → w.grownBy w' v.ownBlock → (some g' = v.ownBlock ∨ g' = w.heap.size) → wpList Try.prog ops Q rest (a.put o.dst (.slice (some ⟨g', 0, none⟩) (n + 1) c')) w') : wpList Try.prog ops Q (o :: rest) a w := by
  refine wpList_plain hgd fun _ hK => ?_
  obtain ⟨i0, hi, hz0, hz1, hz2⟩ := info_parts infoS
  obtain ⟨v', w', hr, h2, h3, h4, h5⟩ := run_append_own_at (P := Try.prog) w B 30 o.type 35 i0 (.slice none 0 0) 1 24 Try.underlying30 hi hz0 hz1 hz2 rfl (by decide) v n xs hown ⟨g, 0, none⟩ 1 1 [u] rfl
    (fun j y hy => by
      have hj : j = 0 := by
        have := (List.getElem?_eq_some_iff.1 hy).1
        simpa using this
      subst hj
      simp at hy
      subst hy
      simpa [Addr.add] using hcell) (fun y hy => by simp at hy; subst hy; exact hu1) (by unfold maxLen; omega) (by omega) hbase
  unfold Oper.wp execOp
  simp only [ho, resolve, invoke, builtin, Sem.run_bind, Sem.run_pure, Result.andThen_ok, List.map_toArray, List.map_cons, List.map_nil, hs, hx, hr]
  rcases h2.2 with ⟨_, h0⟩ | ⟨g', c', cur, rfl, _⟩
  · omega
  · refine hK _ _ (h g' c' w' h2 h3 ?_)
    rcases h5 with h5 | h5
    · exact .inl h5
    · injection h5 with h5
      exact .inr h5

/-- A book at b of the lists xs. -/
def Bk (w : World) (B b n : Nat) (xs : List Value) (v : Value) : Prop := w.heap[b]? = some (.cells #[v] 67 (0, 0)) ∧ w.ownsRow B 35 1 v n xs ∧ v.ownBlock ≠ some b ∧ B ≤ b

set_option maxRecDepth 100000 in
theorem Take_any (w : World) (B b n : Nat) (xs : List Value) (v : Value) (ao : Option Addr) (m c : Nat) (h : Bk w B b n xs v) (hn : n < 4398046511103) : Calls Try.prog 41 #[.pointer (some ⟨b, 0, none⟩), .slice ao m c] w fun e w' => e = .returned (.tuple #[]) ∧ ∃ v', Bk w' B b (n + 1) (xs ++ [.slice ao m c]) v' ∧ Ch (fun k => k = b ∨ v.ownBlock = some k) w w' ∧ ∀ k, v'.ownBlock = some k → v.ownBlock = some k ∨ w.heap.size ≤ k := by
  obtain ⟨hb, ho, hne, hB⟩ := h
  have hbl := lt_of_some hb
  have c0 : w.cell? ⟨b, 0, none⟩ = some v := cell_of_row (cs := [v]) hb
  have hbn : ¬ b = w.heap.size := by omega
  obtain ⟨o2, ho2⟩ : ∃ o2 : Obj, Obj.cells #[.slice ao m c] 35 (0, 0) = o2 := ⟨_, rfl⟩
  have HO2 : Hid (World.ownsRow (w.alloc o2) B 35 1 v n xs) := hidden (ho.alloc _)
  have HC2 : Hid ((w.alloc o2).cell? ⟨w.heap.size, 0, none⟩ = some (.slice ao m c)) := hidden (by rw [← ho2]; simp)
  have HZ : Hid ((w.alloc o2).heap.size = w.heap.size + 1) := hidden (by simp)
  have HBB := hidden hb
  have HNE := hidden hne
  have HA2 : Hid (∀ w', World.grownBy (w.alloc o2) w' v.ownBlock → w'.heap[b]? = some (.cells #[v] 67 (0, 0))) := hidden fun w' h2 => by
    rw [h2.block b (by rw [HZ.out]; omega) (fun e => HNE.out e.symm), Below.heap_alloc _ _ _ hbl]
    exact HBB.out
  clear hb ho hne
  go_enter Try.func41, Try.ntmps41
  go_wp2_with (refine app_slc rfl _ _ rfl B v n xs rfl HO2.out w.heap.size (.slice ao m c) rfl rfl HC2.out hn (by rw [HZ.out]; omega) ?_; refine Hid.out ?_)
  apply hidden
  intro g' c' w' h1 h2 h3
  have hb' := HA2.out w' h2
  have b0 : w'.cell? ⟨b, 0, none⟩ = some v := cell_of_row (cs := [v]) hb'
  have f0 := free_of_row (cs := [v]) (i := 0) hb'
  have hg'b : g' ≠ b := by
    rintro rfl
    rcases h3 with h | h
    · exact HNE.out h.symm
    · omega
  have HF : Hid (Bk (w'.setCell ⟨b, 0, none⟩ (.slice (some ⟨g', 0, none⟩) (n + 1) c')) B b (n + 1) (xs ++ [.slice ao m c]) (.slice (some ⟨g', 0, none⟩) (n + 1) c') ∧ Ch (fun k => k = b ∨ v.ownBlock = some k) w (w'.setCell ⟨b, 0, none⟩ (.slice (some ⟨g', 0, none⟩) (n + 1) c')) ∧ ∀ k, (Value.slice (some ⟨g', 0, none⟩) (n + 1) c').ownBlock = some k → v.ownBlock = some k ∨ w.heap.size ≤ k) := hidden (by
    refine ⟨⟨heap_setCell_self (cs := [v]) hb', own_keep h1 fun g e => ?_, fun e => ?_, hB⟩, ?_, fun k e => ?_⟩
    · have : g' = g := by simpa [Value.ownBlock] using e
      subst this
      exact Below.heap_setCell _ _ _ _ hg'b
    · exact hg'b (by simpa [Value.ownBlock] using e)
    · have s1 : Ch (fun k => k = b ∨ v.ownBlock = some k) w (w.alloc o2) := Ch.alloc _ _ _
      have s2 : Ch (fun k => v.ownBlock = some k) (w.alloc o2) w' := Ch.grown h2 (fun k hk => hk)
      exact (s1.trans s2 fun _ _ h => .inr h).trans (Ch.setCell (F := fun k => k = b ∨ v.ownBlock = some k) w' (p := ⟨b, 0, none⟩) (.inl rfl) _) fun _ _ h => h
    · have : g' = k := by simpa [Value.ownBlock] using e
      subst this
      rcases h3 with h | h
      · exact .inl h.symm
      · right; omega)
  clear h1 h2 h3 hb' HA2 HO2 HC2 HZ
  go_wp2
  go_end0
  exact ⟨rfl, _, HF.out⟩
end Go.Proofs.Ytikpfcapnpppdaa

/- The pair: told. -/

namespace Go.Proofs.Ytikpfcapnpppdaa
open Go.RowKit

set_option maxRecDepth 100000 in
theorem infoT : (Try.prog.info? 9).map (fun i => (i.zero, i.size, i.bytes)) = some (some (.string ⟨#[]⟩), 1, 16) := by kernel_rfl

set_option maxRecDepth 100000 in
/-- append of one text onto texts of its own, as one step of a region that draws. -/
theorem step_app_txt {ops : Array Oper} {o : Oper} {a : Act} {w : World} {K : Act → World → Prop} {Q : Exit → Act → World → Prop} {E : Prop}
    (hgd : o.guard = none) (s x : Operand) (ho : o.op = .call { callee := .builtin .append, args := #[s, x], argTypes := #[31, 31] }) (B : Nat) (v : Value) (n : Nat) (xs : List Value) (hs : a.eval s = v)
    (hown : w.ownsRow B 9 1 v n xs) (g : Nat) (u : Value) (hu1 : u.oneCell' = true) (hx : a.eval x = .slice (some ⟨g, 0, none⟩) 1 1) (hcell : w.cell? ⟨g, 0, none⟩ = some u) (hb : n < 4398046511103) (hbase : B ≤ w.heap.size)
    (h : ∀ g' c' w', w'.ownsRow B 9 1 (.slice (some ⟨g', 0, none⟩) (n + 1) c') (n + 1) (xs ++ [u]) → w.grownBy w' v.ownBlock → (some g' = v.ownBlock ∨ g' = w.heap.size) → K (a.put o.dst (.slice (some ⟨g', 0, none⟩) (n + 1) c')) w') :
    if Region.wanted o (yielded ops a.tmps) = true then Oper.wp Try.prog o a w K Q else E := by
  have hw : Region.wanted o (yielded ops a.tmps) = true := by simp [Region.wanted, hgd]
  rw [if_pos hw]
  obtain ⟨i0, hi, hz0, hz1, hz2⟩ := info_parts infoT
  obtain ⟨v', w', hr, h2, h3, h4, h5⟩ := run_append_own_at (P := Try.prog) w B 31 o.type 9 i0 _ 1 16 Try.underlying31 hi hz0 hz1 hz2 rfl (by decide) v n xs hown ⟨g, 0, none⟩ 1 1 [u] rfl
    (fun j y hy => by
      have hj : j = 0 := by
        have := (List.getElem?_eq_some_iff.1 hy).1
        simpa using this
      subst hj
      simp at hy
      subst hy
      simpa [Addr.add] using hcell) (fun y hy => by simp at hy; subst hy; exact hu1) (by unfold maxLen; omega) (by omega) hbase
  unfold Oper.wp execOp
  simp only [ho, resolve, invoke, builtin, Sem.run_bind, Sem.run_pure, Result.andThen_ok, List.map_toArray, List.map_cons, List.map_nil, hs, hx, hr]
  rcases h2.2 with ⟨_, h0⟩ | ⟨g', c', cur, rfl, _⟩
  · omega
  · refine h g' c' w' h2 h3 ?_
    rcases h5 with h5 | h5
    · exact .inl h5
    · injection h5 with h5
      exact .inr h5

/-- A pair at x: its devices, what came and what should have. -/
structure Pc (w : World) (B x : Nat) (p r : Value) (n : Nat) (cs ts : List Value) (vC vW : Value) : Prop where
  row : w.heap[x]? = some (.cells [p, r, vC, vW].toArray 33 (0, 0))
  oC : w.ownsRow B 35 1 vC n cs
  oW : w.ownsRow B 9 1 vW n ts
  nC : vC.ownBlock ≠ some x
  nW : vW.ownBlock ≠ some x
  nn : ∀ k, vC.ownBlock = some k → vW.ownBlock ≠ some k
  hB : B ≤ x
/-- Its blocks. -/
def Pb (x : Nat) (vC vW : Value) (k : Nat) : Prop := k = x ∨ vC.ownBlock = some k ∨ vW.ownBlock = some k
set_option maxRecDepth 100000 in
theorem Sl.chg {w w' : World} {F : Nat → Prop} {ao : Option Addr} {n c : Nat} {l : List Int} (h : Sl w ao n c l) (hc : Ch F w w') (hd : ∀ g, ao = some g → ¬ F g.block) : Sl w' ao n c l := by
  refine ⟨h.hlen, h.hcap, h.hroom, h.wf, h.hnil, ?_⟩
  rcases h.hat with h0 | ⟨b, off, e, hlt, hcl⟩
  · exact .inl h0
  · exact .inr ⟨b, off, e, Nat.lt_of_lt_of_le hlt hc.size, fun i hi => (World.cell?_of_block (w := w) (a := ⟨b, off + i, none⟩) (hc.block b hlt (hd _ e))).trans (hcl i hi)⟩

set_option maxRecDepth 100000 in
/-- What came is one more: the first half of told. -/
theorem Pc.came {w w1 : World} {B x n g' c' : Nat} {p r vC vW u : Value} {cs ts : List Value} {o2 : Obj} (h : Pc w B x p r n cs ts vC vW) (h1 : w1.ownsRow B 35 1 (.slice (some ⟨g', 0, none⟩) (n + 1) c') (n + 1) (cs ++ [u])) (h2 : (w.alloc o2).grownBy w1 vC.ownBlock) (h3 : some g' = vC.ownBlock ∨ g' = w.heap.size + 1) :
    let v' := Value.slice (some ⟨g', 0, none⟩) (n + 1) c'
    let w2 := w1.setCell ⟨x, 2, none⟩ v'
    w2.heap[x]? = some (.cells [p, r, v', vW].toArray 33 (0, 0)) ∧ w2.ownsRow B 35 1 v' (n + 1) (cs ++ [u]) ∧ w2.ownsRow B 9 1 vW n ts ∧ g' ≠ x ∧ vW.ownBlock ≠ some g' ∧ Ch (Pb x vC vW) w w2 ∧ (vC.ownBlock = some g' ∨ w.heap.size ≤ g') := by
  intro v' w2
  have hxl := lt_of_some h.row
  have hz : (w.alloc o2).heap.size = w.heap.size + 1 := by simp
  have lC : ∀ k, vC.ownBlock = some k → k < w.heap.size := fun k e => (h.oC.lt k e).2
  have lW : ∀ k, vW.ownBlock = some k → k < w.heap.size := fun k e => (h.oW.lt k e).2
  have hx1 : w1.heap[x]? = some (.cells [p, r, vC, vW].toArray 33 (0, 0)) := by
    rw [h2.block x (by omega) (fun e => h.nC e.symm), Below.heap_alloc _ _ _ hxl]; exact h.row
  have gx : g' ≠ x := by
    rintro rfl
    rcases h3 with e | e
    · exact h.nC e.symm
    · omega
  have gW : vW.ownBlock ≠ some g' := by
    intro e
    rcases h3 with e' | e'
    · exact h.nn g' e'.symm e
    · have := lW g' e; omega
  have s1 : Ch (Pb x vC vW) w (w.alloc o2) := Ch.alloc _ _ _
  have s2 : Ch (Pb x vC vW) (w.alloc o2) w1 := Ch.grown h2 (fun k hk => .inr (.inl hk))
  have s3 : Ch (Pb x vC vW) w1 w2 := Ch.setCell (F := Pb x vC vW) w1 (p := ⟨x, 2, none⟩) (.inl rfl) _
  refine ⟨heap_setCell_self (cs := [p, r, vC, vW]) hx1, own_keep h1 fun k e => ?_, own_keep h.oW fun k e => ?_, gx, gW, (s1.trans s2 fun _ _ h => h).trans s3 fun _ _ h => h, ?_⟩
  · obtain rfl : g' = k := by
      have e' : some g' = some k := e
      injection e'
    exact Below.heap_setCell _ _ _ _ gx
  · have kx : k ≠ x := fun e' => h.nW (e' ▸ e)
    rw [Below.heap_setCell _ _ _ _ kx, h2.block k (by have := lW k e; omega) (fun e' => h.nn k e'.symm e), Below.heap_alloc _ _ _ (lW k e)]
  · rcases h3 with e | e
    · exact .inl e.symm
    · right; omega

set_option maxRecDepth 100000 in
/-- What should have come is one more: the second half. -/
theorem Pc.want {w w4 : World} {B x n g g' c' : Nat} {cc : Nat} {p r vW u : Value} {cs ts : List Value} {o2 : Obj} (hx : w.heap[x]? = some (.cells [p, r, .slice (some ⟨g, 0, none⟩) (n + 1) cc, vW].toArray 33 (0, 0))) (oC : w.ownsRow B 35 1 (.slice (some ⟨g, 0, none⟩) (n + 1) cc) (n + 1) cs) (oW : w.ownsRow B 9 1 vW n ts) (gx : g ≠ x) (gW : vW.ownBlock ≠ some g) (nW : vW.ownBlock ≠ some x) (hB : B ≤ x)
    (h1 : w4.ownsRow B 9 1 (.slice (some ⟨g', 0, none⟩) (n + 1) c') (n + 1) (ts ++ [u])) (h2 : (w.alloc o2).grownBy w4 vW.ownBlock) (h3 : some g' = vW.ownBlock ∨ g' = w.heap.size + 1) :
    Pc (w4.setCell ⟨x, 3, none⟩ (.slice (some ⟨g', 0, none⟩) (n + 1) c')) B x p r (n + 1) cs (ts ++ [u]) (.slice (some ⟨g, 0, none⟩) (n + 1) cc) (.slice (some ⟨g', 0, none⟩) (n + 1) c') ∧ Ch (fun k => k = x ∨ vW.ownBlock = some k) w (w4.setCell ⟨x, 3, none⟩ (.slice (some ⟨g', 0, none⟩) (n + 1) c')) ∧ (vW.ownBlock = some g' ∨ w.heap.size ≤ g') := by
  have hxl := lt_of_some hx
  have hz : (w.alloc o2).heap.size = w.heap.size + 1 := by simp
  have hgl : g < w.heap.size := (oC.lt g rfl).2
  have lW : ∀ k, vW.ownBlock = some k → k < w.heap.size := fun k e => (oW.lt k e).2
  have hx1 : w4.heap[x]? = some (.cells [p, r, .slice (some ⟨g, 0, none⟩) (n + 1) cc, vW].toArray 33 (0, 0)) := by
    rw [h2.block x (by omega) (fun e => nW e.symm), Below.heap_alloc _ _ _ hxl]; exact hx
  have gx' : g' ≠ x := by
    rintro rfl
    rcases h3 with e | e
    · exact nW e.symm
    · omega
  have gg : g ≠ g' := by
    rintro rfl
    rcases h3 with e | e
    · exact gW e.symm
    · omega
  have s1 : Ch (fun k => k = x ∨ vW.ownBlock = some k) w (w.alloc o2) := Ch.alloc _ _ _
  have s2 : Ch (fun k => k = x ∨ vW.ownBlock = some k) (w.alloc o2) w4 := Ch.grown h2 (fun k hk => .inr hk)
  have s3 := Ch.setCell (F := fun k => k = x ∨ vW.ownBlock = some k) w4 (p := ⟨x, 3, none⟩) (.inl rfl) (.slice (some ⟨g', 0, none⟩) (n + 1) c')
  have own1 : ∀ (a b : Nat) (m c : Nat), (Value.slice (some ⟨a, 0, none⟩) m c).ownBlock = some b → a = b := fun a b m c e => by
    have e' : some a = some b := e
    injection e'
  refine ⟨⟨heap_setCell_self (cs := [p, r, .slice (some ⟨g, 0, none⟩) (n + 1) cc, vW]) hx1, own_keep oC fun k e => ?_, own_keep h1 fun k e => ?_, fun e => gx (own1 _ _ _ _ e), fun e => gx' (own1 _ _ _ _ e), fun k e e2 => gg ((own1 _ _ _ _ e).trans (own1 _ _ _ _ e2).symm), hB⟩, (s1.trans s2 fun _ _ h => h).trans s3 fun _ _ h => h, ?_⟩
  · obtain rfl := own1 _ _ _ _ e
    rw [Below.heap_setCell _ _ _ _ gx, h2.block g (by omega) (fun e' => gW e'.symm), Below.heap_alloc _ _ _ hgl]
  · obtain rfl := own1 _ _ _ _ e
    exact Below.heap_setCell _ _ _ _ gx'
  · rcases h3 with e | e
    · exact .inl e.symm
    · right; omega
end Go.Proofs.Ytikpfcapnpppdaa

/- The pair: told, walked. -/

namespace Go.Proofs.Ytikpfcapnpppdaa
open Go.RowKit

set_option maxRecDepth 100000 in
set_option maxHeartbeats 2000000 in
theorem told_yes (w : World) (B x n : Nat) (p r vC vW : Value) (cs ts : List Value) (ao bo : Option Addr) (m c c2 : Nat) (l : List Int) (h : Pc w B x p r n cs ts vC vW) (ha : Sl w ao m c l) (hb : Sl w bo m c2 l) (hda : ∀ g, ao = some g → ¬ Pb x vC vW g.block) (hdb : ∀ g, bo = some g → ¬ Pb x vC vW g.block) (hn : n < 4398046511103) :
    Calls Try.prog 26 #[.pointer (some ⟨x, 0, none⟩), .slice ao m c, .slice bo m c2] w fun e w' => e = .returned (.bool true) ∧ ∃ vC' vW', Pc w' B x p r (n + 1) (cs ++ [.slice ao m c]) (ts ++ [.string (strOfNums l)]) vC' vW' ∧ Ch (Pb x vC vW) w w' ∧ ∀ k, Pb x vC' vW' k → Pb x vC vW k ∨ w.heap.size ≤ k := by
  have hxl := lt_of_some h.row
  have c2' : w.cell? ⟨x, 2, none⟩ = some vC := cell_of_row h.row
  have hxn : ¬ x = w.heap.size := by omega
  obtain ⟨o2, ho2⟩ : ∃ o2 : Obj, Obj.cells #[.slice ao m c] 35 (0, 0) = o2 := ⟨_, rfl⟩
  have HO2 : Hid (World.ownsRow (w.alloc o2) B 35 1 vC n cs) := hidden (h.oC.alloc _)
  have HC2 : Hid ((w.alloc o2).cell? ⟨w.heap.size, 0, none⟩ = some (.slice ao m c)) := hidden (by rw [← ho2]; simp)
  have HZ : Hid ((w.alloc o2).heap.size = w.heap.size + 1) := hidden (by simp)
  have hB := h.hB
  have H := hidden h
  have HX : Hid (∀ w', World.grownBy (w.alloc o2) w' vC.ownBlock → w'.heap[x]? = some (.cells [p, r, vC, vW].toArray 33 (0, 0))) := hidden fun w' h2 => by
    rw [h2.block x (by rw [HZ.out]; omega) (fun e => H.out.nC e.symm), Below.heap_alloc _ _ _ hxl]
    exact H.out.row
  have HSA := hidden ha
  have HSB := hidden hb
  have HDA := hidden hda
  have HDB := hidden hdb
  clear h ha hb hda hdb
  go_enter Try.func26, Try.ntmps26
  go_wp2_with (refine app_slc rfl _ _ rfl B vC n cs rfl HO2.out w.heap.size (.slice ao m c) rfl rfl HC2.out hn (by rw [HZ.out]; omega) ?_; refine Hid.out ?_)
  apply hidden
  intro g' c' w1 h1 h2 h3
  have hx1 := HX.out w1 h2
  have b2 : w1.cell? ⟨x, 2, none⟩ = some vC := cell_of_row hx1
  have f2 := free_of_row (i := 2) hx1
  have h3' : some g' = vC.ownBlock ∨ g' = w.heap.size + 1 := by
    rcases h3 with e | e
    · exact .inl e
    · exact .inr e
  have HP := hidden (Pc.came H.out h1 h2 h3')
  clear h1 h2 h3 h3' hx1 HX HO2 HC2 HZ c2'
  go_wp2_with fail
  obtain ⟨q1, q2, q3, q4, q5, q6, q7⟩ := HP.out
  clear HP b2 f2
  generalize w1.setCell ⟨x, 2, none⟩ (.slice (some ⟨g', 0, none⟩) (n + 1) c') = w2 at *
  have hxl2 := lt_of_some q1
  have d3 : w2.cell? ⟨x, 3, none⟩ = some vW := cell_of_row q1
  have hxn2 : ¬ x = w2.heap.size := by omega
  have HSB2 := hidden (HSB.out.chg q6 HDB.out)
  have kb : (convert 35 9 (.slice bo m c2)).run Try.prog w2.drew = .ok (.string (strOfNums l)) w2.drew := conv_sl (HSB.out.chg (q6.trans (Ch.dr (Pb x vC vW) _) fun _ _ h => h) HDB.out)
  obtain ⟨S, hS⟩ : ∃ S, strOfNums l = S := ⟨_, rfl⟩
  rw [hS] at kb
  obtain ⟨o3, ho3⟩ : ∃ o3 : Obj, Obj.cells #[.string S] 9 (0, 0) = o3 := ⟨_, rfl⟩
  have HO3 : Hid (World.ownsRow (w2.alloc o3).drew B 9 1 vW n ts) := hidden (q3.alloc _)
  have HC3 : Hid ((w2.alloc o3).drew.cell? ⟨w2.heap.size, 0, none⟩ = some (.string S)) := hidden (by rw [← ho3]; simp)
  have HZ3 : Hid ((w2.alloc o3).drew.heap.size = w2.heap.size + 1) := hidden (by simp)
  have HX3 : Hid (∀ w', World.grownBy (w2.alloc o3).drew w' vW.ownBlock → w'.cell? ⟨x, 3, none⟩ = some vW ∧ w'.frozen? ⟨x, 3, none⟩ = false) := hidden fun w' h2 => by
    have e : w'.heap[x]? = some (.cells [p, r, .slice (some ⟨g', 0, none⟩) (n + 1) c', vW].toArray 33 (0, 0)) := by
      rw [h2.block x (by rw [HZ3.out]; omega) (fun e => H.out.nW e.symm)]
      show (w2.alloc o3).heap[x]? = _
      rw [Below.heap_alloc _ _ _ hxl2]
      exact q1
    exact ⟨cell_of_row e, free_of_row e⟩
  have HW := hidden (fun w4 g4 c4 => Pc.want (w := w2) (w4 := w4) (g' := g4) (c' := c4) (u := .string S) (o2 := o3) q1 q2 q3 q4 q5 H.out.nW hB)
  have HQ6 := hidden q6
  have HQ7 := hidden q7
  have HS := hidden hS
  clear q1 q2 q3 q4 q5 q6 q7 hS
  go_wp2_with fail
  go_region_law (refine step_app_txt rfl (.tmp 21) (.tmp 24) rfl B vW n ts rfl HO3.out w2.heap.size (.string S) rfl rfl HC3.out hn (by rw [HZ3.out]; omega) ?_; intro g4 c4 w4 h1 h2 h3; obtain ⟨e1, e2⟩ := HX3.out w4 h2; replace h1 := hidden h1; replace h2 := hidden h2; replace h3 := hidden h3)
  all_goals
    have HF := hidden (HW.out w4 g4 c4 h1.out (undrew h2.out) (h3.out.imp (fun e => e) fun e => e.trans HZ3.out))
    clear h1 h2 h3 HW HX3 HO3 HC3 HZ3 kb d3 e1 e2
    generalize w4.setCell ⟨x, 3, none⟩ (.slice (some ⟨g4, 0, none⟩) (n + 1) c4) = w5 at *
    have hC : Ch (Pb x vC vW) w w5 := HQ6.out.trans HF.out.2.1 fun k _ e => e.elim (fun e => .inl e) fun e => .inr (.inr e)
    have k1 : (convert 35 9 (.slice ao m c)).run Try.prog w5 = .ok (.string S) w5 := by rw [← HS.out]; exact conv_sl (HSA.out.chg hC HDA.out)
    have k2 : (convert 35 9 (.slice bo m c2)).run Try.prog w5 = .ok (.string S) w5 := by rw [← HS.out]; exact conv_sl (HSB.out.chg hC HDB.out)
    have eS : (S.toList == S.toList) = true := by simp
    have HCC := hidden hC
    clear hC
    go_wp2
    go_ret
    rw [HS.out]
    refine ⟨rfl, _, _, HF.out.1, HCC.out, fun k hk => ?_⟩
    have hs2 : w.heap.size ≤ w2.heap.size := HQ6.out.size
    rcases hk with e | e | e
    · exact .inl (.inl e)
    · have e' : some g' = some k := e
      injection e' with e'
      subst e'
      exact HQ7.out.elim (fun h => .inl (.inr (.inl h))) .inr
    · have e' : some g4 = some k := e
      injection e' with e'
      subst e'
      rcases HF.out.2.2 with h | h
      · exact .inl (.inr (.inr h))
      · exact .inr (Nat.le_trans hs2 h)
end Go.Proofs.Ytikpfcapnpppdaa

/- The pair as a whole: its two devices, which hold the same, and what came out of the one. -/

namespace Go.Proofs.Ytikpfcapnpppdaa
open Go.RowKit

/-- What came: nothing, or a block of its own that is all it has. -/
def cv (x : Option Nat × List Int) : Value := match x.1 with
  | none => .slice none 0 0
  | some g => .slice (some ⟨g, 0, none⟩) x.2.length x.2.length
def ct (x : Option Nat × List Int) : Value := .string (strOfNums x.2)
structure Cm (w : World) (M : Nat → Prop) (its : List (Option Nat × List Int)) : Prop where
  ok : ∀ x ∈ its, (x.1 = none ∧ x.2 = []) ∨ ∃ g, x.1 = some g ∧ M g ∧ w.heap[g]? = some (.cells (By x.2).toArray 5 (0, 0)) ∧ Wf x.2 ∧ x.2.length ≤ 67108864
  nd : (its.filterMap (·.1)).Nodup
set_option maxRecDepth 100000 in
theorem Cm.ch {w w' : World} {M Q : Nat → Prop} {its : List (Option Nat × List Int)} (h : Cm w M its) (hc : Ch Q w w') (hd : ∀ k, M k → ¬ Q k) : Cm w' M its := by
  refine ⟨fun x hx => ?_, h.nd⟩
  rcases h.ok x hx with h0 | ⟨g, e, m, hr, h1, h2⟩
  · exact .inl h0
  · exact .inr ⟨g, e, m, (hc.block g (lt_of_some hr) (hd g m)).trans hr, h1, h2⟩
set_option maxRecDepth 100000 in
theorem Cm.more {w : World} {M N : Nat → Prop} {its : List (Option Nat × List Int)} (h : Cm w M its) (hN : ∀ k, M k → N k) {g : Nat} {l : List Int} (hg : ¬ M g) (hn : N g) (hr : w.heap[g]? = some (.cells (By l).toArray 5 (0, 0))) (hw : Wf l) (hl : l.length ≤ 67108864) : Cm w N (its ++ [(some g, l)]) := by
  refine ⟨fun x hx => ?_, ?_⟩
  · rcases List.mem_append.1 hx with h1 | h1
    · rcases h.ok x h1 with h0 | ⟨g', e, m, r⟩
      · exact .inl h0
      · exact .inr ⟨g', e, hN g' m, r⟩
    · obtain rfl : x = (some g, l) := by simpa using h1
      exact .inr ⟨g, rfl, hn, hr, hw, hl⟩
  · rw [List.filterMap_append, List.nodup_append]
    refine ⟨h.nd, by simp, fun y hy z hz => ?_⟩
    obtain rfl : z = g := by simpa using hz
    obtain ⟨x, hx, e⟩ := List.mem_filterMap.1 hy
    rintro rfl
    rcases h.ok x hx with ⟨h0, _⟩ | ⟨g', e', m, _⟩
    · rw [h0] at e; cases e
    · rw [e'] at e
      injection e with e
      exact hg (e ▸ m)
set_option maxRecDepth 100000 in
theorem Cm.none {w : World} {M : Nat → Prop} {its : List (Option Nat × List Int)} (h : Cm w M its) : Cm w M (its ++ [(none, [])]) := by
  refine ⟨fun x hx => ?_, by rw [List.filterMap_append]; simpa using h.nd⟩
  rcases List.mem_append.1 hx with h1 | h1
  · exact h.ok x h1
  · obtain rfl : x = (Option.none, []) := by simpa using h1
    exact .inl ⟨rfl, rfl⟩

set_option maxRecDepth 100000 in
theorem Pc.ch {w w' : World} {B x n : Nat} {p r vC vW : Value} {cs ts : List Value} {Q : Nat → Prop} (h : Pc w B x p r n cs ts vC vW) (hc : Ch Q w w') (hd : ∀ k, Pb x vC vW k → ¬ Q k) : Pc w' B x p r n cs ts vC vW :=
  ⟨(hc.block x (lt_of_some h.row) (hd x (.inl rfl))).trans h.row, own_keep h.oC fun g e => hc.block g (h.oC.lt g e).2 (hd g (.inr (.inl e))), own_keep h.oW fun g e => hc.block g (h.oW.lt g e).2 (hd g (.inr (.inr e))), h.nC, h.nW, h.nn, h.hB⟩

/-- THE PAIR AT x, all its blocks of P; behind t steps. -/
structure Ps (w : World) (B : Nat) (P : Nat → Prop) (x t : Nat) (its : List (Option Nat × List Int)) (d : D) (r : R) (pa ra : Nat) (F G M : Nat → Prop) (vC vW : Value) : Prop where
  pc : Pc w B x (.pointer (some ⟨pa, 0, none⟩)) (.pointer (some ⟨ra, 0, none⟩)) its.length (its.map cv) (its.map ct) vC vW
  dv : Dv w F pa d
  rv : Rv w G ra r
  tw : Tw d r
  cm : Cm w M its
  hF : ∀ k, F k → P k ∧ k < w.heap.size
  hG : ∀ k, G k → P k ∧ k < w.heap.size ∧ ¬ F k
  hM : ∀ k, M k → P k ∧ k < w.heap.size ∧ ¬ F k ∧ ¬ G k
  hP : ∀ k, Pb x vC vW k → P k ∧ k < w.heap.size ∧ ¬ F k ∧ ¬ G k ∧ ¬ M k
  n1 : its.length ≤ 2 * t
  n2 : d.loose.length ≤ t
  n3 : 0 ≤ d.cr ∧ d.cr ≤ t
  n4 : 0 ≤ d.cw ∧ d.cw ≤ t
  n5 : 0 ≤ d.cs ∧ d.cs ≤ t
  n6 : d.armed = true → 0 ≤ d.left ∧ d.left ≤ 9223372036854775807
def Pp (w : World) (B : Nat) (P : Nat → Prop) (x t : Nat) : Prop := ∃ its d r pa ra F G M vC vW, Ps w B P x t its d r pa ra F G M vC vW
set_option maxRecDepth 100000 in
theorem Ps.ch {w w' : World} {B x t pa ra : Nat} {P Q F G M : Nat → Prop} {its : List (Option Nat × List Int)} {d : D} {r : R} {vC vW : Value} (h : Ps w B P x t its d r pa ra F G M vC vW) (hc : Ch Q w w') (hd : ∀ k, P k → ¬ Q k) : Ps w' B P x t its d r pa ra F G M vC vW :=
  ⟨h.pc.ch hc fun k hk => hd k (h.hP k hk).1, h.dv.ch hc fun k _ hk => hd k (h.hF k hk).1, h.rv.ch hc fun k _ hk => hd k (h.hG k hk).1, h.tw, h.cm.ch hc fun k hk => hd k (h.hM k hk).1,
   fun k hk => ⟨(h.hF k hk).1, Nat.lt_of_lt_of_le (h.hF k hk).2 hc.size⟩, fun k hk => ⟨(h.hG k hk).1, Nat.lt_of_lt_of_le (h.hG k hk).2.1 hc.size, (h.hG k hk).2.2⟩, fun k hk => ⟨(h.hM k hk).1, Nat.lt_of_lt_of_le (h.hM k hk).2.1 hc.size, (h.hM k hk).2.2⟩, fun k hk => ⟨(h.hP k hk).1, Nat.lt_of_lt_of_le (h.hP k hk).2.1 hc.size, (h.hP k hk).2.2⟩, h.n1, h.n2, h.n3, h.n4, h.n5, h.n6⟩
set_option maxRecDepth 100000 in
theorem Pp.ch {w w' : World} {B x t : Nat} {P Q : Nat → Prop} (h : Pp w B P x t) (hc : Ch Q w w') (hd : ∀ k, P k → ¬ Q k) : Pp w' B P x t := by
  obtain ⟨its, d, r, pa, ra, F, G, M, vC, vW, hs⟩ := h
  exact ⟨its, d, r, pa, ra, F, G, M, vC, vW, hs.ch hc hd⟩
end Go.Proofs.Ytikpfcapnpppdaa

/- An act of both devices of a pair. -/

namespace Go.Proofs.Ytikpfcapnpppdaa
open Go.RowKit

/-- P, and what is new between two worlds. -/
def Pg (P : Nat → Prop) (w w' : World) (k : Nat) : Prop := P k ∨ (w.heap.size ≤ k ∧ k < w'.heap.size)
set_option maxRecDepth 100000 in
/-- First the one device acts, then the other: the pair stands again. -/
theorem Ps.both {w u u' : World} {B x t t' pa ra : Nat} {P F G M F1 G1 : Nat → Prop} {its : List (Option Nat × List Int)} {d d' : D} {r r' : R} {vC vW : Value} (h : Ps w B P x t its d r pa ra F G M vC vW)
    (hD : Dv u F1 pa d') (hc : Ch F w u) (hF1 : ∀ k, F1 k → F k ∨ (w.heap.size ≤ k ∧ k < u.heap.size)) (hR : Rv u' G1 ra r') (hc' : Ch G u u') (hG1 : ∀ k, G1 k → G k ∨ (u.heap.size ≤ k ∧ k < u'.heap.size)) (htw : Tw d' r')
    (n1 : its.length ≤ 2 * t') (n2 : d'.loose.length ≤ t') (n3 : 0 ≤ d'.cr ∧ d'.cr ≤ t') (n4 : 0 ≤ d'.cw ∧ d'.cw ≤ t') (n5 : 0 ≤ d'.cs ∧ d'.cs ≤ t') (n6 : d'.armed = true → 0 ≤ d'.left ∧ d'.left ≤ 9223372036854775807) :
    Ps u' B (Pg P w u') x t' its d' r' pa ra F1 G1 M vC vW ∧ Ch P w u' := by
  have s1 := hc.size
  have s2 := hc'.size
  have nF : ∀ k, k < w.heap.size → ¬ F k → ¬ F1 k := fun k hk hn hf => by
    rcases hF1 k hf with e | e
    · exact hn e
    · omega
  have nG : ∀ k, k < w.heap.size → ¬ G k → ¬ G1 k := fun k hk hn hf => by
    rcases hG1 k hf with e | e
    · exact hn e
    · omega
  refine ⟨⟨(h.pc.ch hc fun k hk => (h.hP k hk).2.2.1).ch hc' fun k hk => (h.hP k hk).2.2.2.1, hD.ch hc' fun k _ hk hg => ?_, hR, htw, (h.cm.ch hc fun k hk => (h.hM k hk).2.2.1).ch hc' fun k hk => (h.hM k hk).2.2.2, fun k hk => ?_, fun k hk => ?_, fun k hk => ?_, fun k hk => ?_, n1, n2, n3, n4, n5, n6⟩, ?_⟩
  · obtain ⟨_, g2, g3⟩ := h.hG k hg
    rcases hF1 k hk with e | e
    · exact g3 e
    · omega
  · rcases hF1 k hk with e | e
    · exact ⟨.inl (h.hF k e).1, by have := (h.hF k e).2; omega⟩
    · exact ⟨.inr (by omega), by omega⟩
  · rcases hG1 k hk with e | e
    · obtain ⟨g1, g2, g3⟩ := h.hG k e
      exact ⟨.inl g1, by omega, nF k g2 g3⟩
    · refine ⟨.inr (by omega), by omega, fun hf => ?_⟩
      rcases hF1 k hf with e' | e'
      · have := (h.hF k e').2; omega
      · omega
  · obtain ⟨m1, m2, m3, m4⟩ := h.hM k hk
    exact ⟨.inl m1, by omega, nF k m2 m3, nG k m2 m4⟩
  · obtain ⟨m1, m2, m3, m4, m5⟩ := h.hP k hk
    exact ⟨.inl m1, by omega, nF k m2 m3, nG k m2 m4, m5⟩
  · have c1 : Ch P w u := (Ch.refl P w).trans hc fun k _ e => (h.hF k e).1
    exact c1.trans hc' fun k _ e => (h.hG k e).1
set_option maxRecDepth 100000 in
theorem Pg.mono {P : Nat → Prop} {w u v : World} (h : u.heap.size ≤ v.heap.size) {k : Nat} (hk : Pg P w u k) : Pg P w v k := hk.imp (fun h => h) fun e => ⟨e.1, by omega⟩
set_option maxRecDepth 100000 in
/-- More blocks, more steps. -/
theorem Ps.weak {w : World} {B x t t' pa ra : Nat} {P P' F G M : Nat → Prop} {its : List (Option Nat × List Int)} {d : D} {r : R} {vC vW : Value} (h : Ps w B P x t its d r pa ra F G M vC vW) (hp : ∀ k, P k → P' k) (ht : t ≤ t') : Ps w B P' x t' its d r pa ra F G M vC vW :=
  ⟨h.pc, h.dv, h.rv, h.tw, h.cm, fun k hk => ⟨hp k (h.hF k hk).1, (h.hF k hk).2⟩, fun k hk => ⟨hp k (h.hG k hk).1, (h.hG k hk).2⟩, fun k hk => ⟨hp k (h.hM k hk).1, (h.hM k hk).2⟩, fun k hk => ⟨hp k (h.hP k hk).1, (h.hP k hk).2⟩, by have := h.n1; omega, by have := h.n2; omega, ⟨h.n3.1, by have := h.n3.2; omega⟩, ⟨h.n4.1, by have := h.n4.2; omega⟩, ⟨h.n5.1, by have := h.n5.2; omega⟩, h.n6⟩
set_option maxRecDepth 100000 in
/-- A list more came. -/
theorem Ps.told {w u : World} {B x t pa ra : Nat} {P F G M : Nat → Prop} {its : List (Option Nat × List Int)} {d : D} {r : R} {vC vW vC' vW' : Value} (h : Ps w B P x t its d r pa ra F G M vC vW) (y : Option Nat × List Int)
    (hp : Pc u B x (.pointer (some ⟨pa, 0, none⟩)) (.pointer (some ⟨ra, 0, none⟩)) (its.length + 1) (its.map cv ++ [cv y]) (its.map ct ++ [ct y]) vC' vW') (hc : Ch (Pb x vC vW) w u) (hb : ∀ k, Pb x vC' vW' k → Pb x vC vW k ∨ (w.heap.size ≤ k ∧ k < u.heap.size)) (N : Nat → Prop) (hN : ∀ k, N k → M k ∨ y.1 = some k) (hy : ∀ k, y.1 = some k → P k ∧ k < w.heap.size ∧ ¬ F k ∧ ¬ G k ∧ ¬ Pb x vC vW k) (hm : Cm u N (its ++ [y])) (n1 : its.length + 1 ≤ 2 * t) :
    Ps u B (Pg P w u) x t (its ++ [y]) d r pa ra F G N vC' vW' ∧ Ch P w u := by
  have s1 := hc.size
  refine ⟨⟨by simpa using hp, h.dv.ch hc fun k _ hk e => (h.hP k e).2.2.1 hk, h.rv.ch hc fun k _ hk e => (h.hP k e).2.2.2.1 hk, h.tw, hm, fun k hk => ⟨.inl (h.hF k hk).1, by have := (h.hF k hk).2; omega⟩, fun k hk => ⟨.inl (h.hG k hk).1, by have := (h.hG k hk).2.1; omega, (h.hG k hk).2.2⟩, fun k hk => ?_, fun k hk => ?_, by simpa using n1, h.n2, h.n3, h.n4, h.n5, h.n6⟩, (Ch.refl P w).trans hc fun k _ e => (h.hP k e).1⟩
  · rcases hN k hk with e | e
    · obtain ⟨m1, m2, m3, m4⟩ := h.hM k e
      exact ⟨.inl m1, by omega, m3, m4⟩
    · obtain ⟨m1, m2, m3, m4, _⟩ := hy k e
      exact ⟨.inl m1, by omega, m3, m4⟩
  · rcases hb k hk with e | e
    · obtain ⟨m1, m2, m3, m4, m5⟩ := h.hP k e
      refine ⟨.inl m1, by omega, m3, m4, fun hn => ?_⟩
      rcases hN k hn with e' | e'
      · exact m5 e'
      · exact (hy k e').2.2.2.2 e
    · refine ⟨.inr e, e.2, fun hf => ?_, fun hf => ?_, fun hn => ?_⟩
      · have := (h.hF k hf).2; omega
      · have := (h.hG k hf).2.1; omega
      · rcases hN k hn with e' | e'
        · have := (h.hM k e').2.1; omega
        · have := (hy k e').2.1; omega
end Go.Proofs.Ytikpfcapnpppdaa

/- The pair's play, its small steps. -/

namespace Go.Proofs.Ytikpfcapnpppdaa
open Go.RowKit

set_option maxRecDepth 100000 in
theorem infoO : (Try.prog.info? 40).map (fun i => (i.zero, i.size, i.bytes)) = some (some (.agg #[.int .i64 0, .int .i64 0, .int .i64 0, .int .u8 0, .slice none 0 0, .slice none 0 0, .int .i64 0, .int .i64 0]), 8, 96) := by kernel_rfl

/-- A step of a script as a value. -/
def opV (kind on n by_ : Int) (da : Option Addr) (dn dc : Nat) (ka : Option Addr) (kn kc : Nat) (tn ta : Int) : Value := .agg #[.int .i64 kind, .int .i64 on, .int .i64 n, .int .u8 by_, .slice da dn dc, .slice ka kn kc, .int .i64 tn, .int .i64 ta]

set_option maxRecDepth 100000 in
theorem Ps.box {w : World} {B x t pa ra : Nat} {P F G M : Nat → Prop} {its : List (Option Nat × List Int)} {d : D} {r : R} {vC vW : Value} (h : Ps w B P x t its d r pa ra F G M vC vW) (o : Obj) : Ps (w.alloc o) B P x t its d r pa ra F G M vC vW := h.ch (Ch.alloc (fun _ => False) w o) (fun _ _ e => e)

set_option maxRecDepth 100000 in
set_option maxHeartbeats 2000000 in
theorem play_start (w : World) (B x t pa ra : Nat) (P F G M : Nat → Prop) (its : List (Option Nat × List Int)) (d : D) (r : R) (vC vW : Value) (h : Ps w B P x t its d r pa ra F G M vC vW) (on n by_ : Int) (da ka : Option Addr) (dn dc kn kc : Nat) (tn ta : Int) :
    Calls Try.prog 8 #[.pointer (some ⟨x, 0, none⟩), opV 6 on n by_ da dn dc ka kn kc tn ta] w fun e w' => e = .returned (.bool true) ∧ Ps w' B (Pg P w w') x t its { d with down := false } { r with down := false } pa ra F G M vC vW ∧ Ch P w w' := by
  have hxl := lt_of_some h.pc.row
  have hxn : ¬ x = w.heap.size := by omega
  unfold opV
  have k0 : w.cell? ⟨x, 0, none⟩ = some (.pointer (some ⟨pa, 0, none⟩)) := cell_of_row h.pc.row
  have HS : Hid (∀ o, Calls Try.prog 22 #[.pointer (some ⟨pa, 0, none⟩)] (w.alloc o) fun e u => e = .returned (.tuple #[]) ∧ ∃ w1, Ps w1 B P x t its d r pa ra F G M vC vW ∧ w.heap.size ≤ w1.heap.size ∧ Ch P w w1 ∧ Dv u F pa { d with down := false } ∧ Ch F w1 u) := hidden fun o => (start_any (w.alloc o) F pa d (h.box o).dv).mono (by
    rintro e u ⟨rfl, h1, h2, _⟩
    exact ⟨rfl, w.alloc o, h.box o, by simp, Ch.alloc P w o, h1, h2⟩)
  have H := hidden h
  clear h
  go_enter Try.func8, Try.ntmps8
  go_wp2_with (go_at_call 22; refine (HS.out _).mono ?_; rintro e u ⟨rfl, w1, hP, hz, hW, hD, hC⟩; have HD := hidden hD; have HC := hidden hC; have HP := hidden hP; have HW := hidden hW; clear hD hC hP hW; refine Hid.out ?_)
  apply hidden
  clear HS H
  have hxF : ¬ F x := (HP.out.hP x (.inl rfl)).2.2.1
  have k1 : u.cell? ⟨x, 1, none⟩ = some (.pointer (some ⟨ra, 0, none⟩)) := (World.cell?_of_block (a := ⟨x, 1, none⟩) (HC.out.block x (lt_of_some HP.out.pc.row) hxF)).trans (cell_of_row HP.out.pc.row)
  have hS2 := rStart_any u G ra r (HP.out.rv.ch HC.out fun k _ hg hf => (HP.out.hG k hg).2.2 hf)
  clear k0 hxF
  go_wp2_with (go_at_call 32; refine hS2.mono ?_; rintro e u2 ⟨rfl, hD, hC, hz⟩; have HD2 := hidden hD; have HC2 := hidden hC; clear hD hC hz; refine Hid.out ?_)
  apply hidden
  clear hS2 k1
  have hQ := HP.out.both (t' := t) HD.out HC.out (fun k hk => .inl hk) HD2.out HC2.out (fun k hk => .inl hk) HP.out.tw.up HP.out.n1 HP.out.n2 HP.out.n3 HP.out.n4 HP.out.n5 HP.out.n6
  have HQ := hidden hQ
  clear hQ
  go_wp2
  go_ret
  refine ⟨rfl, HQ.out.1.weak (fun k hk => ?_) (Nat.le_refl _), HW.out.trans HQ.out.2 fun _ _ h => h⟩
  rcases hk with e | e
  · exact .inl e
  · exact .inr ⟨Nat.le_trans hz e.1, e.2⟩
end Go.Proofs.Ytikpfcapnpppdaa
