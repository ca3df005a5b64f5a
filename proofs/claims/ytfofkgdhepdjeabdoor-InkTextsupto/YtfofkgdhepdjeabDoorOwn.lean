/- Own writes its bytes over and grows them: nothing else that was there is touched. -/
import Derived.Test.YtfofkgdhepdjeabDoorLive
namespace Go.Proofs.YtfofkgdhepdjeabDoor
open Go.RowKit

theorem grown_trans {a b c : World} {row : Option Nat} (h : a.grownBy b row) (k : b.grownBy c row) : a.grownBy c row :=
  ⟨k.os.trans h.os, k.tape.trans h.tape, k.output.trans h.output, Nat.le_trans h.size k.size, fun i hi hne => (k.block i (Nat.lt_of_lt_of_le hi h.size) hne).trans (h.block i hi hne)⟩
theorem grown_below {a b : World} {row : Option Nat} (h : a.grownBy b row) {B : Nat} (hB : B ≤ a.heap.size) (hr : ∀ k, row = some k → B ≤ k) : Below B a b := (Below.refl B a).grown h hB hr
theorem Sl.grown {w w' : World} {ao : Option Addr} {n cap : Nat} {l : List Int} {row : Option Nat} (h : Sl w ao n cap l) (hg : w.grownBy w' row) (hne : ∀ a, ao = some a → some a.block ≠ row) : Sl w' ao n cap l := by
  refine ⟨h.hlen, h.hcap, h.hroom, h.wf, h.hnil, ?_⟩
  rcases h.hat with h0 | ⟨b, off, e, hlt, hc⟩
  · exact .inl h0
  · exact .inr ⟨b, off, e, Nat.lt_of_lt_of_le hlt hg.size, fun i hi => hg.cell (hc i hi) (hne ⟨b, off, none⟩ e)⟩

theorem app_grown {ops : Array Oper} {rest : List Oper} {o : Oper} {a : Act} {Q : Exit → Act → World → Prop} (w : World) (hgd : o.guard = none) (s x : Operand)
    (ho : o.op = .call { callee := .builtin .append, args := #[s, x], argTypes := #[23, 23] }) (B : Nat) (l : List Int) (v : Value) (hs : a.eval s = v)
    (hown : OwnB w B v l) (ad : Addr) (m c : Nat) (news : List Int) (hx : a.eval x = .slice (some ad) m c) (hl : news.length = m)
    (hnews : ∀ j, j < m → w.cell? (ad.add j) = some (.int .u8 (news.getD j 0))) (hb : l.length + m ≤ 140737488355328) (hbase : B ≤ w.heap.size)
    (h : ∀ v' w', w.grownBy w' v.ownBlock → wpList Tryd.prog ops Q rest (a.put o.dst v') w') : wpList Tryd.prog ops Q (o :: rest) a w := by
  obtain ⟨i0, hi, hz0, hz1, hz2⟩ := info_parts info5
  refine wpList_append_own w hgd s x 23 ho B 5 i0 (.int .u8 0) 1 1 Tryd.underlying23 hi hz0 hz1 hz2 rfl (by decide) v l.length (By l) hs hown ad m c (By news) hx (by simp [By, hl])
    (fun j u hu => by obtain ⟨h1, h2⟩ := getElem?_By news j u hu; rw [h2]; exact hnews j (by omega)) (By_one news) (by unfold maxLen; omega) (by omega) hbase ?_
  intro v' w' _ h2 _
  exact h v' w' h2

theorem five_cells (w : World) : ∀ j, j < 5 → (w.alloc (.cells #[.int .u8 92, .int .u8 93, .int .u8 94, .int .u8 95, .int .u8 96] 5)).cell? ((⟨w.heap.size, 0, none⟩ : Addr).add j) = some (.int .u8 ([92, 93, 94, 95, 96].getD j 0)) := by
  intro j hj
  rw [Addr.add_lit, Nat.zero_add, lit_cell _ _ _ _ _ _ rfl]
  have h : j = 0 ∨ j = 1 ∨ j = 2 ∨ j = 3 ∨ j = 4 := by omega
  rcases h with rfl | rfl | rfl | rfl | rfl <;> rfl

set_option maxHeartbeats 1000000 in
theorem own_call (v : Value) (B : Nat) (l : List Int) (w : World) (ho : OwnB w B v l) (hB : B ≤ w.heap.size) (hl : l.length + 5 ≤ 140737488355328) :
    Calls Tryd.prog 20 #[v] w fun e w' => e = .returned (.tuple #[]) ∧ w.grownBy w' v.ownBlock := by
  have HO := hidden ho
  rcases ho.2 with ⟨rfl, hn⟩ | ⟨g, cap, cur, rfl, hg, _, hnc, _, _, _⟩
  · have hl0 : l = [] := List.eq_nil_of_length_eq_zero hn
    subst hl0
    clear ho
    go_enter Tryd.func20, Tryd.ntmps20
    go_wp2_with fail
    refine wp_loop_rounds 1 ?_
    rw [rounds_succ]
    go_wp2_with (at_builtin; refine app_grown _ rfl _ _ rfl B [] _ rfl (HO.out.alloc _) _ 5 5 [92, 93, 94, 95, 96] rfl rfl (five_cells _) (by simp) (by simp; omega) ?_)
    intro v' w' hg
    have HG := hidden (grown_trans (World.grownBy_alloc w (.cells #[.int .u8 92, .int .u8 93, .int .u8 94, .int .u8 95, .int .u8 96] 5) none) hg)
    clear hg
    go_wp2
    go_end0
    exact ⟨rfl, HG.out⟩
  · clear ho
    generalize hn : l.length = n at *
    go_enter Tryd.func20, Tryd.ntmps20
    go_wp2_with fail
    go_loopw [2] (fun i wr => ∃ (k : Nat) (l' : List Int), k ≤ n ∧ i = .int .i64 k ∧ l'.length = n ∧ OwnB wr B (.slice (some ⟨g, 0, none⟩) n cap) l' ∧ w.grownBy wr (some g)) (fun i _ => n - (intOf i).toNat)
    case atStart => exact ⟨0, l, by omega, rfl, hn, HO.out, World.grownBy.refl _ _⟩
    case round =>
      obtain ⟨k, l', hk, rfl, hl', hown, hgr⟩ := hrel
      have hsz := hgr.size
      by_cases hlt : k < n
      · have hce := own_cell hown hl' hlt
        have hfr := own_free hown hl' k
        have ho2 := own_set (x := 91) hown hl' hlt
        have hst : wr.grownBy (wr.setCell ⟨g, k, none⟩ (.int .u8 91)) (some g) := by
          have h' : wr.ownsRow B 5 1 (.slice (some ⟨g, 0, none⟩) n cap) n (By l') := by have := hown; unfold OwnB at this; rw [hl'] at this; exact this
          exact (World.ownsRow.stored h' k (.int .u8 91)).2
        have hg2 := grown_trans hgr hst
        clear hst hgr hown
        go_wp2
        go_roundw
        case rel => exact ⟨k + 1, l'.set k 91, by omega, by go_num, by simp [hl'], ho2, hg2⟩
        case measure => simp [intOf]; omega
      · have HG0 := hidden hgr
        clear hgr
        go_wp2_with (at_builtin; refine app_grown _ rfl _ _ rfl B l' _ rfl (hown.alloc _) _ 5 5 [92, 93, 94, 95, 96] rfl rfl (five_cells _) (by omega) (by simp; omega) ?_)
        intro v' w' hg
        have HG := hidden (grown_trans (grown_trans HG0.out (World.grownBy_alloc wr (.cells #[.int .u8 92, .int .u8 93, .int .u8 94, .int .u8 95, .int .u8 96] 5) (some g))) hg)
        clear hg
        go_wp2
        go_end0
        exact ⟨rfl, HG.out⟩
end Go.Proofs.YtfofkgdhepdjeabDoor
