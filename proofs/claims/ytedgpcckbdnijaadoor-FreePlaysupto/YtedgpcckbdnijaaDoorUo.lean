/- find, forget: marks looked through. -/
import Derived.Test.YtedgpcckbdnijaaDoorUn
namespace Go.Proofs.YtedgpcckbdnijaaDoor
open Go.RowKit Go.Maps

def mqV (q : Mq) : Value := .agg #[.int .i64 q.n, .map (some q.b)]
/-- Where the first stands that is asked for: -1: nowhere. -/
def fdI (f : Mq → Bool) (M : List Mq) : Int := match M.findIdx? f with | some i => (i : Int) | none => -1
set_option maxRecDepth 100000 in
theorem fdI_some {f : Mq → Bool} {M : List Mq} {k : Nat} {q : Mq} (hq : M[k]? = some q) (hf : f q = true) (hb : ∀ (j : Nat) (x : Mq), j < k → M[j]? = some x → f x = false) : fdI f M = k := by
  unfold fdI
  have : M.findIdx? f = some k := by
    rw [List.findIdx?_eq_some_iff_getElem]
    have hk := (List.getElem?_eq_some_iff.1 hq)
    refine ⟨hk.1, by rw [hk.2]; exact hf, fun j hj => ?_⟩
    have hk1 := hk.1
    rw [hb j _ hj (List.getElem?_eq_getElem (by omega))]
    decide
  rw [this]
set_option maxRecDepth 100000 in
theorem fdI_none {f : Mq → Bool} {M : List Mq} (hb : ∀ (j : Nat) (x : Mq), M[j]? = some x → f x = false) : fdI f M = -1 := by
  unfold fdI
  have : M.findIdx? f = none := by
    rw [List.findIdx?_eq_none_iff]
    intro x hx
    obtain ⟨j, hj, rfl⟩ := List.getElem_of_mem hx
    exact hb j _ (List.getElem?_eq_getElem hj)
  rw [this]
def KindM (M : List Mq) (g : Nat) (lb : Array Value) (f : Mq → Bool) (w : World) : Prop := ∀ (q : Mq), q ∈ M → ∀ (u : World), Below w.heap.size w u → Calls Tryd.prog g (#[mqV q] ++ lb) u fun e u' => e = .returned (.bool (f q)) ∧ Hid (Below u.heap.size u u')
set_option maxRecDepth 100000 in
set_option maxHeartbeats 2000000 in
theorem index_any {w : World} {mv : Value} {M : List Mq} (h : OwnM w mv M) (g : Nat) (lb : Array Value) (f : Mq → Bool) (hf : KindM M g lb f w) (eg : ∀ args w, (callFunc g args).run Tryd.prog w = .ok (.enter g args) w) :
    Calls Tryd.prog 60 #[mv, .func (.func g) #[] lb] w fun e u => e = .returned (.int .i64 (fdI f M)) ∧ Hid (Below w.heap.size w u) := by
  obtain ⟨ao, cap, rfl, hsh⟩ := h.shape
  have hlt := fun k => @OwnM.lt _ _ _ h k
  have HSH := hidden hsh
  have HF := hidden hf
  obtain ⟨n, hn⟩ : ∃ n, M.length = n := ⟨_, rfl⟩
  have hnb : (n : Int) ≤ 9223372036854775807 := by
    rcases hsh with h0 | ⟨g', _, h1, h2, _⟩
    · omega
    · unfold maxLen at h2; omega
  have HN := hidden hn
  obtain ⟨E, hE⟩ : ∃ E, fdI f M = E := ⟨_, rfl⟩
  have HE := hidden hE
  have HLT : Hid (∀ p, ao = some p → p.block < w.heap.size) := hidden (fun p hp => hlt p.block (by rw [hp]; rfl))
  rw [hn, hE]
  clear h hf hsh hlt hn hE
  go_enter Tryd.func60, Tryd.ntmps60
  go_wp2_with fail
  go_loopw [5, 8] (fun _ i wr => ∃ k : Nat, k ≤ n ∧ i = .int .i64 (k : Int) ∧ Hid (Below w.heap.size w wr) ∧ Hid (∀ (j : Nat) (x : Mq), j < k → M[j]? = some x → f x = false)) (fun _ i _ => n - (RowKit.intOf i).toNat)
  case atStart => exact ⟨0, by omega, rfl, hidden (Below.refl _ _), hidden (fun j x hj => by omega)⟩
  case round =>
    obtain ⟨k, hk, rfl, HB, HA⟩ := hrel
    by_cases hlt : k < n
    · have hltI : (k : Int) < (n : Int) := by omega
      obtain ⟨q, hq⟩ : ∃ q, M[k]? = some q := ⟨_, List.getElem?_eq_getElem (by rw [HN.out]; exact hlt)⟩
      obtain ⟨g', rfl, c1, c2⟩ : ∃ g', ao = some ⟨g', 0, none⟩ ∧ wr.cell? ⟨g', k * 2, none⟩ = some (.int .i64 q.n) ∧ wr.cell? ⟨g', k * 2 + 1, none⟩ = some (.map (some q.b)) := by
        rcases HSH.out with h0 | ⟨g', e, _, _, hc⟩
        · rw [HN.out] at h0; omega
        · have hgl := HLT.out _ e
          obtain ⟨c1, c2⟩ := hc k q hq
          exact ⟨g', e, (HB.out.cell (p := ⟨g', k * 2, none⟩) hgl).trans c1, (HB.out.cell (p := ⟨g', k * 2 + 1, none⟩) hgl).trans c2⟩
      have HQ := hidden hq
      have HFQ := hidden (HF.out q (List.mem_of_getElem? hq) wr HB.out)
      unfold mqV at HFQ
      clear hq
      cases hfq : f q with
      | true =>
        rw [hfq] at HFQ
        have HEk : Hid (E = k) := hidden (by rw [← HE.out]; exact fdI_some HQ.out hfq HA.out)
        go_wp2_with (go_at_fn g; refine HFQ.out.mono ?_; rintro e w2 ⟨rfl, HB2⟩)
        go_ret
        exact ⟨by rw [HEk.out]; rfl, hidden (HB.out.trans (HB2.out.mono HB.out.size))⟩
      | false =>
        rw [hfq] at HFQ
        go_wp2_with (go_at_fn g; refine HFQ.out.mono ?_; rintro e w2 ⟨rfl, HB2⟩)
        go_roundw
        case rel => exact ⟨k + 1, by omega, by go_num, hidden (HB.out.trans (HB2.out.mono HB.out.size)), hidden (fun j x hj hx => by
          by_cases e : j = k
          · subst e
            rw [HQ.out] at hx
            cases hx
            exact hfq
          · exact HA.out j x (by omega) hx)⟩
        case measure => simp [RowKit.intOf]; omega
    · obtain rfl : k = n := by omega
      have HEk : Hid (E = -1) := hidden (by rw [← HE.out]; exact fdI_none (fun j x hx => HA.out j x (by have := (List.getElem?_eq_some_iff.1 hx).1; rw [HN.out] at this; exact this) hx))
      go_wp2_with fail
      go_ret
      exact ⟨by rw [HEk.out]; rfl, HB⟩
set_option maxRecDepth 100000 in
theorem is_any (q : Mq) (z : Int) (c : Nat) (u : World) (hc : u.cell? ⟨c, 0, none⟩ = some (.int .i64 z)) (hl : c < u.heap.size) : Calls Tryd.prog 61 #[mqV q, .pointer (some ⟨c, 0, none⟩)] u fun e u' => e = .returned (.bool (q.n == z)) ∧ Hid (Below u.heap.size u u') := by
  unfold mqV
  have hc2 : (u.alloc (.cells #[.int .i64 q.n, .map (some q.b)] 74)).cell? ⟨c, 0, none⟩ = some (.int .i64 z) := ((Below.refl u.heap.size u).alloc (Nat.le_refl _) _).cell (p := ⟨c, 0, none⟩) hl |>.trans hc
  have hq : (u.alloc (.cells #[.int .i64 q.n, .map (some q.b)] 74)).cell? ⟨u.heap.size, 0, none⟩ = some (.int .i64 q.n) := by
    have := al_row u (.cells #[.int .i64 q.n, .map (some q.b)] 74)
    unfold World.cell?
    rw [this]
    rfl
  have HB : Hid (Below u.heap.size u (u.alloc (.cells #[.int .i64 q.n, .map (some q.b)] 74))) := hidden ((Below.refl u.heap.size u).alloc (Nat.le_refl _) _)
  go_enter Tryd.func61, Tryd.ntmps61
  go_wp2
  go_ret
  exact ⟨rfl, HB⟩
set_option maxRecDepth 100000 in
theorem find_any {w : World} {b m : Nat} {mv : Value} {last : Int} {K : Int → Option Int} {M : List Mq} (h : Fl w b m mv last K M) (z : Int) :
    Calls Tryd.prog 39 #[pB b, .int .i64 z] w fun e u => e = .returned (.tuple #[.int .i64 (fdI (fun q => q.n == z) M), .bool (decide (0 ≤ fdI (fun q => q.n == z) M))]) ∧ Hid (Below w.heap.size w u) := by
  obtain ⟨x, hx⟩ : ∃ x, w.alloc (.cells #[.int .i64 z] 3) = x := ⟨_, rfl⟩
  have hbx : Below w.heap.size w x := by rw [← hx]; exact bl_al (Below.refl _ _) (Nat.le_refl _) _
  have hcx : x.cell? ⟨w.heap.size, 0, none⟩ = some (.int .i64 z) := by rw [← hx]; simp
  have hxs : x.heap.size = w.heap.size + 1 := by rw [← hx]; simp
  have hL := h.on hbx
  have cm := hL.fs.cm
  have HI := hidden (index_any hL.row 61 #[.pointer (some ⟨w.heap.size, 0, none⟩)] (fun q => q.n == z) (fun q _ u hu => is_any q z _ u ((hu.cell (p := ⟨w.heap.size, 0, none⟩) (by rw [hxs]; exact Nat.lt_succ_self _)).trans hcx) (by have := hu.size; omega)) (enters_of Tryd.func61 (by kernel_rfl) rfl))
  have HBX := hidden hbx
  obtain ⟨ao, cap, rfl, _⟩ := hL.row.shape
  clear h hL hbx hcx hxs
  generalize fdI (fun q => q.n == z) M = E at *
  go_enter Tryd.func39, Tryd.ntmps39
  go_wp2_with (go_at_call 60; refine HI.out.mono ?_; rintro e w2 ⟨rfl, HB2⟩)
  go_returns
  exact ⟨rfl, hidden (HBX.out.trans (HB2.out.mono HBX.out.size))⟩
end Go.Proofs.YtedgpcckbdnijaaDoor
