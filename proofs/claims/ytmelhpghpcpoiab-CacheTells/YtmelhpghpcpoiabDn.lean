/- The cache whole: State. -/
import Derived.Test.YtmelhpghpcpoiabDf
import Derived.Test.YtmelhpghpcpoiabCg
namespace Go.Proofs.Ytmelhpghpcpoiab
open Go.RowKit Go.Maps

/-- How many pages are dirty; how many are pinned. -/
def dc (fs : List Fr) : Nat := (fs.filter fun f => f.dt).length
def pc (fs : List Fr) : Nat := (fs.filter fun f => decide (f.pins ≠ 0)).length
set_option maxRecDepth 100000 in
theorem dc_snoc (A : List Fr) (f : Fr) : dc (A ++ [f]) = dc A + (if f.dt = true then 1 else 0) := by
  unfold dc
  rw [List.filter_append, List.length_append]
  cases h : f.dt <;> simp [h]
set_option maxRecDepth 100000 in
theorem pc_snoc (A : List Fr) (f : Fr) : pc (A ++ [f]) = pc A + (if f.pins = 0 then 0 else 1) := by
  unfold pc
  rw [List.filter_append, List.length_append]
  by_cases h : f.pins = 0 <;> simp [h]
set_option maxRecDepth 100000 in
theorem dc_le (A : List Fr) : dc A ≤ A.length := List.length_filter_le ..
set_option maxRecDepth 100000 in
theorem pc_le (A : List Fr) : pc A ≤ A.length := List.length_filter_le ..
set_option maxRecDepth 100000 in
set_option maxHeartbeats 4000000 in
theorem State_cw (w : World) (c a : Nat) (fr h mi ev : Int) (m p : Nat) (fs : List Fr) (r : Cw w c a fr h mi ev m p fs) (hb : ∀ f ∈ fs, (f.pins : Int) < 4611686018427387904) (hfl : fs.length < 65536) :
    Calls Try.prog 14 #[pt c] w fun e u => e = .returned (stV fr fs.length (dc fs) (pc fs) h mi ev) ∧ Below w.heap.size w u := by
  have hc := r.row.hc
  obtain ⟨D, hm, hD⟩ := r.mp
  have c1 : w.cell? ⟨c, 1, none⟩ = some (.int .i64 fr) := hc.cell 1
  have c2 : w.cell? ⟨c, 2, none⟩ = some (.map (some m)) := hc.cell 2
  have c3 : w.cell? ⟨c, 3, none⟩ = some (op (hd fs none)) := hc.cell 3
  have c5 : w.cell? ⟨c, 5, none⟩ = some (.int .i64 h) := hc.cell 5
  have c6 : w.cell? ⟨c, 6, none⟩ = some (.int .i64 mi) := hc.cell 6
  have c7 : w.cell? ⟨c, 7, none⟩ = some (.int .i64 ev) := hc.cell 7
  have hclt := hc.lt
  have hcne : ¬ c = w.heap.size := by omega
  have hcne1 : ¬ c = w.heap.size + 1 := by omega
  have hmlt := World.ownsMap.lt hm
  obtain ⟨NN, hNN⟩ : ∃ NN : Int, NN = (fs.length : Int) := ⟨_, rfl⟩
  have LEN : Hid (∀ u : World, u.heap[m]? = w.heap[m]? → ∀ ty, (Builtin.len_ #[51] ty #[.map (some m)]).run Try.prog u = .ok (.int .i64 NN) u) := by
    refine hidden fun u hu ty => ?_
    have := len_is (w := u) (MapIs.stay hm hu) ty
    rw [hD.sz] at this
    rw [hNN]
    exact this
  have HR := hidden r
  clear hc hm hD r
  have hm1 : ∀ o, (w.alloc o).drew.heap[m]? = w.heap[m]? := fun o => Below.heap_alloc w o m hmlt
  have hm2 : ∀ o o', ((w.alloc o).drew.alloc o').heap[m]? = w.heap[m]? := fun o o' => (Below.heap_alloc (w.alloc o).drew o' m (Nat.lt_of_lt_of_le hmlt (by show w.heap.size ≤ (w.alloc o).heap.size; simp))).trans (hm1 o)
  have hl1 := hidden (fun o => LEN.out _ (hm1 o))
  have hl2 := hidden (fun o o' => LEN.out _ (hm2 o o'))
  have HNN := hidden hNN
  generalize hv0 : op (hd fs none) = v0 at *
  clear hm1 hm2 LEN hNN
  go_enter Try.func14, Try.ntmps14
  go_wp2_with fail
  go_region_held3 (fun u => u.cell? ⟨c, 1, none⟩ = some (.int .i64 fr) ∧ u.cell? ⟨c, 2, none⟩ = some (.map (some m)) ∧ u.cell? ⟨c, 5, none⟩ = some (.int .i64 h) ∧ u.cell? ⟨c, 6, none⟩ = some (.int .i64 mi) ∧ u.cell? ⟨c, 7, none⟩ = some (.int .i64 ev) ∧ ∀ ty, (Builtin.len_ #[51] ty #[.map (some m)]).run Try.prog u = .ok (.int .i64 NN) u)
    (first | (refine ⟨?_, ?_, ?_, ?_, ?_, ?_⟩; all_goals first | (exact hl1.out _) | (exact hl2.out _ _) | go_keep)) (fail)
  all_goals
    clear hl1 hl2
    go_wp2_with fail
    go_loopw [4] (fun i wr => ∃ A R, fs = A ++ R ∧ i = op (hd R none) ∧ ∃ x3 x4 : Int, x3 = (dc A : Int) ∧ x4 = (pc A : Int) ∧ wr = ((w.alloc (.cells #[.int .i64 0, .int .i64 0, .int .i64 0, .int .i64 0, .int .i64 0, .int .i64 0, .int .i64 0] 43)).alloc (.cells #[.int .i64 fr, .int .i64 NN, .int .i64 x3, .int .i64 x4, .int .i64 h, .int .i64 mi, .int .i64 ev] 43)).drew) (fun i _ => msV fs i)
    case atStart => exact ⟨[], fs, rfl, hv0.symm, 0, 0, rfl, rfl, rfl⟩
    case round =>
      obtain ⟨A, R, e, hi, x3, x4, e3, e4, rfl⟩ := hrel
      cases R with
      | nil =>
        rw [List.append_nil] at e
        subst e
        replace hi := hi.trans (show op (hd [] none) = .pointer none from rfl)
        subst hi
        go_wp2
        exact bodyPost_ret (v := stV fr fs.length (dc fs) (pc fs) h mi ev) (by rw [← e3, ← e4, ← HNN.out]; simp [results, Try.results14, go_sem, stV]) rfl ⟨rfl, (((Below.refl _ _).alloc (Nat.le_refl _) _).alloc (by simp) _).drew⟩
      | cons f R =>
        have hf : Hs w f.b (lc p f (lst none A) (hd R none)) tL := row_at (e ▸ HR.out.row.hr)
        replace hi := hi.trans (show op (hd (f :: R) none) = pt f.b from rfl)
        subst hi
        have l2 : w.cell? ⟨f.b, 2, none⟩ = some (.bool f.dt) := hf.cell 2
        have l3 : w.cell? ⟨f.b, 3, none⟩ = some (.int .i64 (f.pins : Int)) := hf.cell 3
        have l5 : w.cell? ⟨f.b, 5, none⟩ = some (op (hd R none)) := hf.cell 5
        have hllt := hf.lt
        have hlne : ¬ f.b = w.heap.size := by omega
        have hlne1 : ¬ f.b = w.heap.size + 1 := by omega
        have hpf := hb f (by rw [e]; simp)
        have em : (A ++ [f]) ++ R = A ++ f :: R := by simp
        have nd := HR.out.row.nd
        have hm1 := msV_op A (f :: R) (e ▸ nd)
        have hm2 := msV_op (A ++ [f]) R (by rw [em]; exact e ▸ nd)
        rw [em, ← e] at hm2
        rw [← e] at hm1
        have hms : Hid (msV fs (op (hd R none)) < msV fs (pt f.b)) := hidden (by
          have h1 : msV fs (pt f.b) = (f :: R).length := hm1
          rw [hm2, h1]
          simp)
        have hdl := dc_le A
        have hpl := pc_le A
        have hAl : A.length ≤ fs.length := by rw [e]; simp
        have ds := hidden (dc_snoc A f)
        have ps := hidden (pc_snoc A f)
        have x3l : 0 ≤ x3 ∧ x3 < 65536 := by omega
        have x4l : 0 ≤ x4 ∧ x4 < 65536 := by omega
        have E3 := hidden e3
        have E4 := hidden e4
        have EE := hidden (e.trans em.symm)
        obtain ⟨P, hP⟩ : ∃ P : Int, P = (f.pins : Int) := ⟨_, rfl⟩
        rw [← hP] at l3
        have HP := hidden hP
        have pb : 0 ≤ P ∧ P < 4611686018427387904 := by omega
        clear hf hm1 hm2 nd e em e3 e4 hdl hpl hAl hpf hP
        generalize hdt : f.dt = dt at *
        by_cases h0 : P = 0
        · have h0' : ¬ 0 < P := by omega
          cases dt with
          | false =>
            go_wp2
            go_roundw
            case rel => exact ⟨A ++ [f], R, EE.out, (by first | rfl | trivial), x3, x4, by rw [ds.out]; have := E3.out; simp; omega, by rw [ps.out, if_pos (by have := HP.out; omega)]; have := E4.out; omega, rfl⟩
            case measure => exact hms.out
          | true =>
            go_wp2
            go_roundw
            case rel => exact ⟨A ++ [f], R, EE.out, (by first | rfl | trivial), x3 + 1, x4, by rw [ds.out]; have := E3.out; simp; omega, by rw [ps.out, if_pos (by have := HP.out; omega)]; have := E4.out; omega, rfl⟩
            case measure => exact hms.out
        · have h0' : 0 < P := by omega
          cases dt with
          | false =>
            go_wp2
            go_roundw
            case rel => exact ⟨A ++ [f], R, EE.out, (by first | rfl | trivial), x3, x4 + 1, by rw [ds.out]; have := E3.out; simp; omega, by rw [ps.out, if_neg (by have := HP.out; omega)]; have := E4.out; omega, rfl⟩
            case measure => exact hms.out
          | true =>
            go_wp2
            go_roundw
            case rel => exact ⟨A ++ [f], R, EE.out, (by first | rfl | trivial), x3 + 1, x4 + 1, by rw [ds.out]; have := E3.out; simp; omega, by rw [ps.out, if_neg (by have := HP.out; omega)]; have := E4.out; omega, rfl⟩
            case measure => exact hms.out
end Go.Proofs.Ytmelhpghpcpoiab
