/- The cache: Flush of one dirty page. -/
import Derived.Test.YtmelhpghpcpoiabCi
namespace Go.Proofs.Ytmelhpghpcpoiab
open Go.RowKit Go.Maps Go.Sort Go.Shelf

set_option maxRecDepth 100000 in
theorem keys_one (n : Int) (d : DataW Unit) : intKeys ((DataW.map []).put (.int .i64 n) d) = [n] := rfl
/-- What Flush leaves of one dirty page. -/
def FlushIs (w0 w : World) (X : Nat → Prop) (a : Nat) (d : D) (c : Nat) (fr h mi ev : Int) (m n L g : Nat) (pins : Int) (l : List Int) (e : Ending) (u : World) : Prop :=
  ∃ X', e = .returned (.int .i64 0) ∧ (∀ k, X k → X' k) ∧ St w0 u X' a (d.wrote n l) ∧ One u c a fr h mi ev m n L g d.page false pins l ∧ ∀ k, X k → k ≠ L → u.heap[k]? = w.heap[k]?
set_option maxRecDepth 100000 in
set_option maxHeartbeats 1000000 in
theorem Flush_one (w0 w : World) (X : Nat → Prop) (a : Nat) (d : D) (hS : St w0 w X a d) (c : Nat) (fr h mi ev : Int) (m n L g : Nat) (pins : Int) (l : List Int) (hO : One w c a fr h mi ev m n L g d.page true pins l)
    (he : refu d n = 0) (hn : n < d.pages) (xc : X c) (xL : X L) (xg : X g) (xm : X m) (bL : w0.heap.size ≤ L) (h1 : 0 ≤ d.cw) (h2 : d.cw < 4611686018427387904) (hfew : d.loose.length < 4398046511103) (har : d.armed = false) :
    Calls Try.prog 12 #[pt c] w fun e u => FlushIs w0 w X a d c fr h mi ev m n L g pins l e u := by
  have c2 : w.cell? ⟨c, 2, none⟩ = some (.map (some m)) := hO.hc.cell 2
  have hK := Keys_any w m
  have hT := Sorted_any w m 1 _ hO.hm (by show 1 ≤ maxLen; unfold maxLen; omega) (by show 1 * 8 ≤ 140737488355328; omega)
  have HS := hidden hS
  have HO := hidden hO
  clear hS hO
  go_enter Try.func12, Try.ntmps12
  go_wp2_with (first
    | (go_at_call 25; refine hK.mono ?_; rintro e u ⟨rfl, rfl⟩)
    | (go_at_call 24; refine hT.mono ?_; rintro e u ⟨v, ss, rfl, hp, hr, _, hb⟩; refine Hid.out ?_))
  apply hidden
  obtain rfl : ss = [(n : Int)] := List.perm_singleton.1 hp
  obtain ⟨q, cap, rfl, hq⟩ : ∃ q cap, v = .slice (some ⟨q, 0, none⟩) 1 cap ∧ u.cell? ⟨q, 0, none⟩ = some (.int .i64 (n : Int)) := by
    have hr' : u.ownsRow w.heap.size 3 1 v 1 [.int .i64 (n : Int)] := by
      rw [List.mergeSort_singleton] at hr
      exact hr
    rcases hr'.2 with ⟨_, h0⟩ | ⟨q, cap, cur, rfl, _⟩
    · omega
    · exact ⟨q, cap, rfl, World.ownsRow.cellAt hr' 0 (by omega)⟩
  have s1 := HS.out.page hb
  have o1 := HO.out.stay (u := u) (by
    rintro k (rfl | rfl | rfl | rfl)
    · exact hb.block _ HO.out.hc.lt
    · exact hb.block _ HO.out.hl.lt
    · exact hb.block _ HO.out.hg.lt
    · exact hb.block _ (World.ownsMap.lt HO.out.hm))
  have hC := clean_yes w0 u (Xn X w u) a d s1 c fr h mi ev m n L g pins l o1 he hn (.inl xc) (.inl xL) (.inl xg) (.inl xm) bL h1 h2 hfew har
  have hlk := look_some o1.hm o1.wn o1.at
  have y2 : u.cell? ⟨c, 2, none⟩ = some (.map (some m)) := o1.hc.cell 2
  have HX := hidden (fun k (hk : X k) => hb.block k (HS.out.xl k hk))
  have HC := hidden hC
  clear hC s1 o1 hr hb hp hT hK c2
  go_wp2_with fail
  go_loopw [13] (fun i wr => (i = .int .i64 0 ∧ wr = u) ∨ (i = .int .i64 1 ∧ Hid (FlushIs w0 w X a d c fr h mi ev m n L g pins l (.returned (.int .i64 0)) wr))) (fun i _ => 1 - (intOf i).toNat)
  case atStart => exact .inl ⟨rfl, rfl⟩
  case round =>
    rcases hrel with ⟨rfl, rfl⟩ | ⟨rfl, HF⟩
    · go_wp2_with (go_at_call 26; refine HC.out.mono ?_; rintro e v ⟨rfl, s2, o2, k2⟩; have HF := hidden (show FlushIs w0 w X a d c fr h mi ev m n L g pins l (.returned (.int .i64 0)) v from ⟨_, rfl, fun k hk => .inl hk, s2, o2, fun k hk hne => (k2 k (.inl hk) hne).trans (HX.out k hk)⟩); clear s2 o2 k2)
      go_roundw
      case rel => exact .inr ⟨by go_num, HF⟩
      case measure => simp [intOf]
    · go_wp2
      go_ret
      exact HF.out
end Go.Proofs.Ytmelhpghpcpoiab
