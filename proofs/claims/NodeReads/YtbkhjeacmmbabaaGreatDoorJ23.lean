import Derived.Test.YtbkhjeacmmbabaaGreatDoorJ22
namespace Go.Proofs.YtbkhjeacmmbabaaGreatDoor
set_option maxRecDepth 100000
set_option maxHeartbeats 4000000
open Go.RowKit
namespace RN
theorem rep_in {w : World} {B n m i j g c : Nat} {xs ys : List Value} (hrow : RowE w g 3 c) (hcm : c ≤ maxLen) (hgB : B ≤ g) (hxl : xs.length = n) (hyl : ys.length = m) (hij : i ≤ j) (hjn : j ≤ n) (hc : i + m + (n - j) ≤ c)
  (h1 : ∀ k, k < i → w.cell? ⟨g, k, none⟩ = xs[k]?) (h2 : ∀ k, k < m → w.cell? ⟨g, i + k, none⟩ = ys[k]?) (h3 : ∀ k, k < n - j → w.cell? ⟨g, i + m + k, none⟩ = xs[j + k]?) : w.ownsRow B 3 1 (.slice (some ⟨g, 0, none⟩) (i + m + (n - j)) c) (i + m + (n - j)) (xs.take i ++ ys ++ xs.drop j) :=
 hrow.own hcm hgB hc (zdr hxl hyl hij hjn) (moved hxl hyl hij hjn h1 h2 h3)
theorem cell_old {w : World} {g n : Nat} {xs : List Value} (hxl : xs.length = n) (hxc : ∀ i v, xs[i]? = some v → w.cell? ⟨g, i, none⟩ = some v) {t : Nat} (ht : t < n) : w.cell? ⟨g, t, none⟩ = xs[t]? := by
 have e1 : xs[t]? = some (xs[t]'(by omega)) := zI _
 rw [e1]
 exact hxc t _ e1
theorem rep_grow (w : World) (B C n m i j g c b vc : Nat) (xs ys : List Value) (hs : w.ownsRow B 3 1 (.slice (some ⟨g, 0, none⟩) n c) n xs) (hv : w.ownsRow C 3 1 (.slice (some ⟨b, 0, none⟩) m vc) m ys) (hx1 : ∀ u ∈ xs, u.oneCell' = true) (hy1 : ∀ u ∈ ys, u.oneCell' = true) (hij : i < j) (hj : j < n) (hb : n + m ≤ 1000000) (hB : B ≤ w.heap.size) (hm : 0 < m) (hg : c < i + m + (n - j)) :
  Calls Tryz.prog 115 #[.slice (some ⟨g, 0, none⟩) n c, .int .i64 (i : Int), .int .i64 (j : Int), .slice (some ⟨b, 0, none⟩) m vc] w (To w B (.slice (some ⟨g, 0, none⟩) n c) (i + m + (n - j)) (xs.take i ++ ys ++ xs.drop j)) := by
 obtain ⟨hrow, hgB, hnc, hcm, hxl, hxc⟩ := zat hs
 obtain ⟨_, _, hmv, _, hyl, hyc⟩ := zat hv
 have hijI : ¬ (i : Int) = (j : Int) := by omega
 have hjnI : ¬ (j : Int) = (n : Int) := by omega
 have hci : ¬ c = i := by omega
 have hcj : ¬ c = j := by omega
 obtain ⟨r, hr0⟩ : ∃ r : Nat, n - j = r := ⟨_, rfl⟩
 have hrI : (r : Int) ≤ 1000000 := by omega
 obtain ⟨k, hk⟩ : ∃ k : Nat, m + r = k := ⟨_, rfl⟩
 have hkI : (i : Int) + (m : Int) + (r : Int) - (i : Int) = (k : Int) := by omega
 have hgI : (c : Int) < (i : Int) + (m : Int) + (r : Int) := by omega
 rw [hr0] at hg ⊢
 have hsd : w.drew.ownsRow B 3 1 (.slice (some ⟨g, 0, none⟩) n c) n xs := hs
 obtain ⟨c2, w1, hr, hrow1, hkc, hcm1, hcell1, hbd⟩ := app_zeros w.drew 116 B n i k g c xs hsd (by omega) (by omega) (by omega)
 have hdz : w.drew.heap.size = w.heap.size := rfl
 rw [hdz] at hr hrow1 hcell1 hbd
 have hb1 : Below w.heap.size w w1 := Br.drew.trans hbd
 obtain ⟨G, hG⟩ : ∃ G, w.heap.size = G := ⟨_, rfl⟩
 have hgG : g ≠ G := by have := hrow.lt; omega
 have hrow1' : RowE w1 G 3 c2 := by rw [← hG]; exact hrow1
 have hv1 : w1.ownsRow C 3 1 (.slice (some ⟨b, 0, none⟩) m vc) m ys := World.ownsRow.kept (row := none) hv ⟨hb1.os, hb1.tape, hb1.output, hb1.size, fun z hz _ => hb1.block z hz⟩ (.inr (by simp [Value.ownBlock]))
 have hcp1 := copy_of w1 3 G c2 i k (c2 - i) (.slice (some ⟨b, 0, none⟩) m vc) m C ys hrow1' hv1 (by omega) (by omega) hy1
 obtain ⟨w2, hw2⟩ : ∃ w2, w1.setCells G i ys = w2 := ⟨_, rfl⟩
 rw [hw2] at hcp1
 have hrow2 : RowE w2.drew G 3 c2 := by rw [← hw2]; exact RowE.sets _ _ _ hrow1'
 have hdl : (xs.drop j).length = r := by simp; omega
 have hold : w2.heap[g]? = w.heap[g]? := by
  rw [← hw2, World.heap_setCells_other _ _ _ _ (zO hrow.lt hb1.size) hgG]
  exact hb1.block g hrow.lt
 have hcpD : (Builtin.copy_ #[116, 116] 3 #[.slice (some ⟨G, i + m, none⟩) r (c2 - (i + m)), .slice (some ⟨g, j, none⟩) r (c - j)]).run Tryz.prog w2.drew = .ok (goInt (xs.drop j).length) (w2.drew.setCells G (i + m) (xs.drop j)) :=
  run_copy_cells w2.drew _ _ 3 3 G (i + m) r (c2 - (i + m)) ⟨g, j, none⟩ r (c - j) (xs.drop j) Tryz.underlying116 hsz (by rw [hdl]; simp)
   (fun t v ht => by
    rw [Addr.add_lit]
    have : w2.drew.cell? ⟨g, j + t, none⟩ = w.cell? ⟨g, j + t, none⟩ := World.cell?_of_block (a := ⟨g, j + t, none⟩) hold
    rw [this]
    exact hxc (j + t) v (by rwa [List.getElem?_drop] at ht))
   (fun t ht => hrow2.there (by omega)) (fun t _ => hrow2.free _) (fun v hv => hx1 v (List.mem_of_mem_drop hv))
 obtain ⟨w3, hw3⟩ : ∃ w3, w2.drew.setCells G (i + m) (xs.drop j) = w3 := ⟨_, rfl⟩
 rw [hw3] at hcpD
 have HE : Hid (w3.ownsRow B 3 1 (.slice (some ⟨G, 0, none⟩) (i + m + r) c2) (i + m + r) (xs.take i ++ ys ++ xs.drop j) ∧ Below w.heap.size w w3) := zaa (by
  rw [← hw3, ← hr0]
  refine ⟨rep_in (RowE.sets _ _ _ hrow2) hcm1 (by omega) hxl hyl (by omega) (by omega) (by omega) (fun t ht => ?_) (fun t ht => ?_) (fun t ht => ?_), ?_⟩
  ·rw [hrow2.cell _ _ (by omega), if_neg (by omega)]
   show w2.cell? _ = _
   rw [← hw2, hrow1'.cell _ _ (by omega), if_neg (by omega)]
   have e1 : xs[t]? = some (xs[t]'(by omega)) := zI _
   rw [e1]
   have := hcell1 t _ (by rw [List.getElem?_take_of_lt ht, e1])
   rw [hG] at this
   exact this
  ·rw [hrow2.cell _ _ (by omega), if_neg (by omega)]
   show w2.cell? _ = _
   rw [← hw2, hrow1'.cell _ _ (by omega), if_pos (by omega), Nat.add_sub_cancel_left]
  ·rw [hrow2.cell _ _ (by omega), if_pos (by omega), Nat.add_sub_cancel_left, List.getElem?_drop]
  ·have h1 := zaz G (xs.drop j) (i + m) w2.drew
   have h2 := zaz G ys i w1
   rw [hw2] at h2
   refine ⟨h1.os.trans (h2.os.trans hb1.os), h1.tape.trans (h2.tape.trans hb1.tape), h1.output.trans (h2.output.trans hb1.output), zN hb1.size (zN h2.size h1.size), fun z hz => ?_⟩
   have hzG : some z ≠ some G := by intro e; injection e with e; omega
   exact (h1.block z (zO hz (zN hb1.size h2.size)) hzG).trans ((h2.block z (zO hz hb1.size) hzG).trans (hb1.block z hz)))
 have hki : (i : Int) ≤ (k : Int) + (i : Int) := by omega
 have hc2i : ¬ c2 = i := by omega
 have hc2m : ¬ c2 = i + m := by omega
 have hEQ : i + k = i + m + r := by omega
 rw [hG] at hr
 rw [hEQ] at hr
 have e1 : i + m + r - i = k := by omega
 have e2 : i + m + r - (i + m) = r := by omega
 have hwi : IntKind.i64.wrap ((i : Int) + (m : Int)) = (i : Int) + (m : Int) := by rw [IntKind.wrap_i64]; omega
 have hwt : IntKind.i64.wrap ((i : Int) + (m : Int) + (r : Int)) = (i : Int) + (m : Int) + (r : Int) := by rw [IntKind.wrap_i64]; omega
 have hbb1 : (0 : Int) ≤ (i : Int) + (m : Int) := by omega
 have htn : ((i : Int) + (m : Int)).toNat = i + m := by omega
 have hb3 : (i : Int) + (m : Int) ≤ (i : Int) + (m : Int) + (r : Int) := by omega
 have hb4 : (j : Int) ≤ (n : Int) := by omega
 have hb5 : (i : Int) ≤ (n : Int) := by omega
 have hb6 : (i : Int) ≤ (j : Int) := by omega
 have hb7 : i ≤ n := by omega
 have hb8 : j ≤ n := by omega
 have hb9 : (i : Int) ≤ (c : Int) := by omega
 have hb10 : i ≤ c := by omega
 have hb11 : j ≤ c := by omega
 have hb12 : (j : Int) ≤ (c : Int) := by omega
 clear hs hsd hdz hbd hv hx1 hy1 hrow hxc hyc hrow1 hrow1' hv1 hold hrow2 hcell1 hb1 hw2 hw3 hxl hyl hdl hk
 go_enter Tryz.func115, Tryz.ntmps115
 go_wp2_with fail
 go_region
 go_wp2_with (at_builtin; refine zcd rfl _ _ _ _ rfl _ _ rfl rfl hr ?_; refine Hid.out ?_)
 apply zaa
 clear hr
 go_wp2_with fail
 go_region
 go_wp2
 go_ret
 refine ⟨some ⟨G, 0, none⟩, c2, rfl, zaa HE.out.1, zaa ⟨?_, .inr ⟨G, rfl, by omega⟩⟩⟩
 have hbe := HE.out.2
 exact ⟨hbe.os, hbe.tape, hbe.output, hbe.size, fun z hz _ => hbe.block z hz⟩
theorem rep_exp (w : World) (B C n m i j g c b vc : Nat) (xs ys : List Value) (hs : w.ownsRow B 3 1 (.slice (some ⟨g, 0, none⟩) n c) n xs) (hv : w.ownsRow C 3 1 (.slice (some ⟨b, 0, none⟩) m vc) m ys) (hx1 : ∀ u ∈ xs, u.oneCell' = true) (hy1 : ∀ u ∈ ys, u.oneCell' = true) (hne : b ≠ g) (hij : i < j) (hj : j < n) (hb : n + m ≤ 1000000) (hm : j < i + m) (hg : i + m + (n - j) ≤ c) :
  Calls Tryz.prog 115 #[.slice (some ⟨g, 0, none⟩) n c, .int .i64 (i : Int), .int .i64 (j : Int), .slice (some ⟨b, 0, none⟩) m vc] w (To w B (.slice (some ⟨g, 0, none⟩) n c) (i + m + (n - j)) (xs.take i ++ ys ++ xs.drop j)) := by
 obtain ⟨hrow, hgB, hnc, hcm, hxl, hxc⟩ := zat hs
 obtain ⟨hrowv, _, hmv, _, hyl, hyc⟩ := zat hv
 have hijI : ¬ (i : Int) = (j : Int) := by omega
 have hjnI : ¬ (j : Int) = (n : Int) := by omega
 have hci : ¬ c = i := by omega
 have hcj : ¬ c = j := by omega
 have hcim : ¬ c = i + m := by omega
 obtain ⟨r, hr0⟩ : ∃ r : Nat, n - j = r := ⟨_, rfl⟩
 have hrI : (r : Int) ≤ 1000000 := by omega
 rw [hr0] at hg ⊢
 have hgI : ¬ (c : Int) < (i : Int) + (m : Int) + (r : Int) := by omega
 have hgI2 : (i : Int) + (m : Int) + (r : Int) ≤ (c : Int) := by omega
 have hjm : ¬ (i : Int) + (m : Int) ≤ (j : Int) := by omega
 have hdl : (xs.drop j).length = r := by simp; omega
 obtain ⟨w0, hw0⟩ : ∃ w0, w.drew = w0 := ⟨_, rfl⟩
 have hrowd : RowE w0 g 3 c := by rw [← hw0]; exact hrow
 have hrowvd : RowE w0 b 3 vc := by rw [← hw0]; exact hrowv
 have hcd : ∀ x, w0.cell? x = w.cell? x := fun x => by rw [← hw0]; rfl
 have hg0 : w.grownBy w0 (some g) := by rw [← hw0]; exact zcl (zcx w _)
 have hov : ∀ lb cb, (callFunc 153 #[.slice (some ⟨g, i + m, none⟩) lb cb, .slice (some ⟨b, 0, none⟩) m vc]).run Tryz.prog w0 = .ok (.value (.bool false)) w0 := fun lb cb => over_no w0 g b lb cb m vc (i + m) 0 c vc (Ne.symm hne) hrowd hrowvd (by omega)
 have hrowd2 : RowE w0.drew g 3 c := hrowd
 have hcpD : (Builtin.copy_ #[116, 116] 3 #[.slice (some ⟨g, i + m, none⟩) r (c - (i + m)), .slice (some ⟨g, j, none⟩) r (c - j)]).run Tryz.prog w0.drew = .ok (goInt (xs.drop j).length) (w0.drew.setCells g (i + m) (xs.drop j)) :=
  copy_in w0.drew 3 g c (i + m) r (c - (i + m)) j r (c - j) (xs.drop j) hrowd2 (by rw [hdl]; simp) (by omega) (fun k v hk => (hcd _).trans (hxc (j + k) v (by rwa [List.getElem?_drop] at hk))) (fun v hv => hx1 v (List.mem_of_mem_drop hv))
 obtain ⟨w1, hw1⟩ : ∃ w1, w0.drew.setCells g (i + m) (xs.drop j) = w1 := ⟨_, rfl⟩
 rw [hw1] at hcpD
 have hg1 : w.grownBy w1 (some g) := by rw [← hw1]; exact zbr (zcl hg0) (zaz g _ _ _)
 have hrow1 : RowE w1 g 3 c := by rw [← hw1]; exact RowE.sets _ _ _ hrowd2
 have hv1 : w1.ownsRow C 3 1 (.slice (some ⟨b, 0, none⟩) m vc) m ys := World.ownsRow.kept hv hg1 (.inr (by simp [Value.ownBlock]; exact hne))
 obtain ⟨k, hk⟩ : ∃ k : Nat, m + r = k := ⟨_, rfl⟩
 have hcp2 := copy_of w1 3 g c i k (c - i) (.slice (some ⟨b, 0, none⟩) m vc) m C ys hrow1 hv1 (by omega) (by omega) hy1
 obtain ⟨w2, hw2⟩ : ∃ w2, w1.setCells g i ys = w2 := ⟨_, rfl⟩
 rw [hw2] at hcp2
 have HE : Hid (w2.ownsRow B 3 1 (.slice (some ⟨g, 0, none⟩) (i + m + r) c) (i + m + r) (xs.take i ++ ys ++ xs.drop j) ∧ w.grownBy w2 (some g)) := zaa (by
  rw [← hw2, ← hr0]
  refine ⟨rep_in (RowE.sets _ _ _ hrow1) hcm hgB hxl hyl (by omega) (by omega) (by omega) (fun t ht => ?_) (fun t ht => ?_) (fun t ht => ?_), zbr hg1 (zaz g _ _ _)⟩
  ·rw [hrow1.cell _ _ (by omega), if_neg (by omega), ← hw1, hrowd2.cell _ _ (by omega), if_neg (by omega)]
   exact (hcd _).trans (cell_old hxl hxc (by omega))
  ·rw [hrow1.cell _ _ (by omega), if_pos (by omega), Nat.add_sub_cancel_left]
  ·rw [hrow1.cell _ _ (by omega), if_neg (by omega), ← hw1, hrowd2.cell _ _ (by omega), if_pos (by omega), Nat.add_sub_cancel_left, List.getElem?_drop])
 have hwi : IntKind.i64.wrap ((i : Int) + (m : Int)) = (i : Int) + (m : Int) := by rw [IntKind.wrap_i64]; omega
 have hwt : IntKind.i64.wrap ((i : Int) + (m : Int) + (r : Int)) = (i : Int) + (m : Int) + (r : Int) := by rw [IntKind.wrap_i64]; omega
 have hb1 : (0 : Int) ≤ (i : Int) + (m : Int) := by omega
 have htn : ((i : Int) + (m : Int)).toNat = i + m := by omega
 have htn2 : ((i : Int) + (m : Int) + (r : Int)).toNat = i + m + r := by omega
 have hb2 : (0 : Int) ≤ (i : Int) + (m : Int) + (r : Int) := by omega
 have hb3 : (i : Int) + (m : Int) ≤ (i : Int) + (m : Int) + (r : Int) := by omega
 have hb4 : (j : Int) ≤ (n : Int) := by omega
 have hb5 : (i : Int) ≤ (n : Int) := by omega
 have hb6 : (i : Int) ≤ (j : Int) := by omega
 have hb7 : i ≤ n := by omega
 have hb8 : j ≤ n := by omega
 have hb9 : (i : Int) ≤ (c : Int) := by omega
 have hb10 : i ≤ c := by omega
 have hb11 : j ≤ c := by omega
 have hb12 : (j : Int) ≤ (c : Int) := by omega
 have hb13 : (i : Int) ≤ (i : Int) + (m : Int) + (r : Int) := by omega
 have e1 : i + m + r - i = k := by omega
 have e2 : i + m + r - (i + m) = r := by omega
 clear hs hv hx1 hy1 hrow hrowd hrowv hrowvd hrowd2 hxc hyc hrow1 hv1 hw1 hw2 hxl hyl hdl hg1 hg0 hcd hk
 go_enter Tryz.func115, Tryz.ntmps115
 go_wp2_with fail
 go_region
 rw [hw0]
 clear hw0
 go_wp2_with (simp only [hov])
 go_region
 go_wp2
 go_ret
 exact ⟨some ⟨g, 0, none⟩, c, rfl, zaa HE.out.1, zaa (gr_in HE.out.2)⟩
theorem shape {w : World} {B n : Nat} {v : Value} {xs : List Value} (h : w.ownsRow B 3 1 v n xs) : ∃ ao c, v = .slice ao n c := by
 rcases h.2 with ⟨rfl, h0⟩ | ⟨g, cap, cur, rfl, _⟩
 ·exact ⟨none, 0, by rw [h0]⟩
 ·exact ⟨_, _, rfl⟩
theorem rep_easy (w : World) (B C n m i j g c : Nat) (vo : Option Addr) (vc : Nat) (xs ys : List Value) (hs : w.ownsRow B 3 1 (.slice (some ⟨g, 0, none⟩) n c) n xs) (hv : w.ownsRow C 3 1 (.slice vo m vc) m ys) (hx1 : ∀ u ∈ xs, u.oneCell' = true) (hy1 : ∀ u ∈ ys, u.oneCell' = true) (hne : (Value.slice vo m vc).ownBlock = none ∨ (Value.slice vo m vc).ownBlock ≠ some g) (hij : i < j) (hj : j < n) (hb : n + m ≤ 1000000) (hm : i + m ≤ j) :
  Calls Tryz.prog 115 #[.slice (some ⟨g, 0, none⟩) n c, .int .i64 (i : Int), .int .i64 (j : Int), .slice vo m vc] w (To w B (.slice (some ⟨g, 0, none⟩) n c) (i + m + (n - j)) (xs.take i ++ ys ++ xs.drop j)) := by
 obtain ⟨hrow, hgB, hnc, hcm, hxl, hxc⟩ := zat hs
 have hyl : ys.length = m := by have := hv.1; omega
 have hijI : ¬ (i : Int) = (j : Int) := by omega
 have hjnI : ¬ (j : Int) = (n : Int) := by omega
 have hci : ¬ c = i := by omega
 have hcj : ¬ c = j := by omega
 have hcim : ¬ c = i + m := by omega
 obtain ⟨r, hr0⟩ : ∃ r : Nat, n - j = r := ⟨_, rfl⟩
 have hrI : (r : Int) ≤ 1000000 := by omega
 rw [hr0]
 have hgI : ¬ (c : Int) < (i : Int) + (m : Int) + (r : Int) := by omega
 have hgI2 : (i : Int) + (m : Int) + (r : Int) ≤ (c : Int) := by omega
 have hjm : (i : Int) + (m : Int) ≤ (j : Int) := by omega
 have hdl : (xs.drop j).length = r := by simp; omega
 obtain ⟨k, hk⟩ : ∃ k : Nat, m + r = k := ⟨_, rfl⟩
 obtain ⟨w0, hw0⟩ : ∃ w0, w.drew = w0 := ⟨_, rfl⟩
 have hrowd : RowE w0 g 3 c := by rw [← hw0]; exact hrow
 have hcd : ∀ x, w0.cell? x = w.cell? x := fun x => by rw [← hw0]; rfl
 have hg0 : w.grownBy w0 (some g) := by rw [← hw0]; exact zcl (zcx w _)
 have hv0 : w0.ownsRow C 3 1 (.slice vo m vc) m ys := World.ownsRow.kept hv hg0 hne
 have hcp1 : ∀ dc, (Builtin.copy_ #[116, 116] 3 #[.slice (some ⟨g, i, none⟩) k dc, .slice vo m vc]).run Tryz.prog w0 = .ok (goInt (m : Int)) (w0.setCells g i ys) := fun dc => copy_of w0 3 g c i k dc (.slice vo m vc) m C ys hrowd hv0 (by omega) (by omega) hy1
 obtain ⟨w1, hw1⟩ : ∃ w1, w0.setCells g i ys = w1 := ⟨_, rfl⟩
 rw [hw1] at hcp1
 have hrow1 : RowE w1 g 3 c := by rw [← hw1]; exact RowE.sets _ _ _ hrowd
 have hrow1d : RowE w1.drew g 3 c := hrow1
 have hg1 : w.grownBy w1 (some g) := by rw [← hw1]; exact zbr hg0 (zaz g _ _ _)
 have hcpD : ∀ dc sc, (Builtin.copy_ #[116, 116] 3 #[.slice (some ⟨g, i + m, none⟩) r dc, .slice (some ⟨g, j, none⟩) r sc]).run Tryz.prog w1.drew = .ok (goInt (xs.drop j).length) (w1.drew.setCells g (i + m) (xs.drop j)) := fun dc sc =>
  copy_in w1.drew 3 g c (i + m) r dc j r sc (xs.drop j) hrow1d (by rw [hdl]; simp) (by omega) (fun t v ht => by
   show w1.cell? _ = _
   rw [← hw1, hrowd.cell _ _ (by omega), if_neg (by omega)]
   exact (hcd _).trans (hxc (j + t) v (by rwa [List.getElem?_drop] at ht))) (fun v hv => hx1 v (List.mem_of_mem_drop hv))
 obtain ⟨w2, hw2⟩ : ∃ w2, w1.drew.setCells g (i + m) (xs.drop j) = w2 := ⟨_, rfl⟩
 rw [hw2] at hcpD
 have hrow2 : RowE w2 g 3 c := by rw [← hw2]; exact RowE.sets _ _ _ hrow1d
 have hg2 : w.grownBy w2 (some g) := by rw [← hw2]; exact zbr (zcl hg1) (zaz g _ _ _)
 have hcells : ∀ t, t < i + m + r → w2.cell? ⟨g, t, none⟩ = if t < i then xs[t]? else if t < i + m then ys[t - i]? else xs[j + (t - i - m)]? := fun t ht => by
  rw [← hw2, hrow1d.cell _ _ (by omega)]
  by_cases h1 : t < i
  ·rw [if_neg (by omega), if_pos h1]
   show w1.cell? _ = _
   rw [← hw1, hrowd.cell _ _ (by omega), if_neg (by omega)]
   exact (hcd _).trans (cell_old hxl hxc (by omega))
  ·rw [if_neg h1]
   by_cases h2 : t < i + m
   ·rw [if_neg (by omega), if_pos h2]
    show w1.cell? _ = _
    rw [← hw1, hrowd.cell _ _ (by omega), if_pos (by omega)]
   ·rw [if_pos (by omega), if_neg h2, List.getElem?_drop, show t - (i + m) = t - i - m by omega]
 have hown : ∀ (w3 : World), RowE w3 g 3 c → (∀ t, t < i + m + r → w3.cell? ⟨g, t, none⟩ = w2.cell? ⟨g, t, none⟩) → w3.ownsRow B 3 1 (.slice (some ⟨g, 0, none⟩) (i + m + r) c) (i + m + r) (xs.take i ++ ys ++ xs.drop j) := fun w3 h3 hc3 => by
  rw [← hr0]
  refine rep_in h3 hcm hgB hxl hyl (by omega) (by omega) (by omega) (fun t ht => ?_) (fun t ht => ?_) (fun t ht => ?_)
  ·rw [hc3 t (by omega), hcells t (by omega), if_pos ht]
  ·rw [hc3 (i + t) (by omega), hcells (i + t) (by omega), if_neg (by omega), if_pos (by omega), Nat.add_sub_cancel_left]
  ·rw [hc3 (i + m + t) (by omega), hcells (i + m + t) (by omega), if_neg (by omega), if_neg (by omega), show i + m + t - i - m = t by omega]
 have hwi : IntKind.i64.wrap ((i : Int) + (m : Int)) = (i : Int) + (m : Int) := by rw [IntKind.wrap_i64]; omega
 have hwt : IntKind.i64.wrap ((i : Int) + (m : Int) + (r : Int)) = (i : Int) + (m : Int) + (r : Int) := by rw [IntKind.wrap_i64]; omega
 have hb1 : (0 : Int) ≤ (i : Int) + (m : Int) := by omega
 have htn : ((i : Int) + (m : Int)).toNat = i + m := by omega
 have htn2 : ((i : Int) + (m : Int) + (r : Int)).toNat = i + m + r := by omega
 have hb2 : (0 : Int) ≤ (i : Int) + (m : Int) + (r : Int) := by omega
 have hb3 : (i : Int) + (m : Int) ≤ (i : Int) + (m : Int) + (r : Int) := by omega
 have hb4 : (j : Int) ≤ (n : Int) := by omega
 have hb5 : (i : Int) ≤ (n : Int) := by omega
 have hb6 : (i : Int) ≤ (j : Int) := by omega
 have hb7 : i ≤ n := by omega
 have hb8 : j ≤ n := by omega
 have hb9 : (i : Int) ≤ (c : Int) := by omega
 have hb10 : i ≤ c := by omega
 have hb11 : j ≤ c := by omega
 have hb12 : (j : Int) ≤ (c : Int) := by omega
 have hb13 : (i : Int) ≤ (i : Int) + (m : Int) + (r : Int) := by omega
 have hb14 : (i : Int) + (m : Int) + (r : Int) ≤ (n : Int) := by omega
 have e1 : i + m + r - i = k := by omega
 have e2 : i + m + r - (i + m) = r := by omega
 by_cases htot : i + m + r = n
 ·have HE := zaa (hown w2 hrow2 (fun _ _ => rfl))
  have HG := zaa hg2
  have hcl : ∀ ty a cc, (Builtin.clear_ #[116] ty #[.slice a 0 cc]).run Tryz.prog w2 = .ok (.tuple #[]) w2 := fun ty a cc => clear_none w2 116 3 ty Tryz.underlying116 a cc
  have e3 : n - (i + m + r) = 0 := by omega
  have HTOT := zaa htot
  clear hs hv hx1 hy1 hrow hrowd hxc hrow1 hrow1d hw1 hw2 hxl hyl hdl hg1 hg0 hg2 hcd hk hv0 hrow2 hcells hown htot
  by_cases hct : c = i + m + r
  ·subst hct
   go_enter Tryz.func115, Tryz.ntmps115
   go_wp2_with fail
   go_region
   rw [hw0]
   clear hw0
   go_wp2_with fail
   go_region
   go_wp2_with (at_builtin; refine zcy rfl _ _ rfl _ rfl (hcl _ _ _) ?_)
   go_ret
   exact ⟨some ⟨g, 0, none⟩, _, rfl, zaa HE.out, zaa (gr_in HG.out)⟩
  ·go_enter Tryz.func115, Tryz.ntmps115
   go_wp2_with fail
   go_region
   rw [hw0]
   clear hw0
   go_wp2_with fail
   go_region
   go_wp2_with (at_builtin; refine zcy rfl _ _ rfl _ rfl (hcl _ _ _) ?_)
   go_ret
   exact ⟨some ⟨g, 0, none⟩, c, rfl, zaa HE.out, zaa (gr_in HG.out)⟩
 ·have hct : ¬ c = i + m + r := by omega
  have hcl : ∀ ty cc, (Builtin.clear_ #[116] ty #[.slice (some ⟨g, i + m + r, none⟩) (n - (i + m + r)) cc]).run Tryz.prog w2 = .ok (.tuple #[]) (w2.setCells g (i + m + r) (List.replicate (n - (i + m + r)) (.int .i64 0))) := fun ty cc =>
   Lib.run_clear_slice w2 116 3 ty (.int .i64 0) Tryz.underlying116 zero_run rfl rfl g (i + m + r) (n - (i + m + r)) cc (by omega) (fun t ht => hrow2.there (by omega)) (fun t _ => hrow2.free _)
  obtain ⟨w3, hw3⟩ : ∃ w3, w2.setCells g (i + m + r) (List.replicate (n - (i + m + r)) (.int .i64 0)) = w3 := ⟨_, rfl⟩
  rw [hw3] at hcl
  have HE := zaa (hown w3 (by rw [← hw3]; exact RowE.sets _ _ _ hrow2) (fun t ht => by rw [← hw3, hrow2.cell _ _ (by simp; omega), if_neg (by omega)]))
  have HG : Hid (w.grownBy w3 (some g)) := zaa (by rw [← hw3]; exact zbr hg2 (zaz g _ _ _))
  clear hs hv hx1 hy1 hrow hrowd hxc hrow1 hrow1d hw1 hw2 hw3 hxl hyl hdl hg1 hg0 hg2 hcd hk hv0 hrow2 hcells hown htot
  go_enter Tryz.func115, Tryz.ntmps115
  go_wp2_with fail
  go_region
  rw [hw0]
  clear hw0
  go_wp2_with fail
  go_region
  go_wp2_with (at_builtin; refine zcy rfl _ _ rfl _ rfl (hcl _ _) ?_)
  go_ret
  exact ⟨some ⟨g, 0, none⟩, c, rfl, zaa HE.out, zaa (gr_in HG.out)⟩
theorem rep_end (w : World) (B C n m i g c : Nat) (vo : Option Addr) (vc : Nat) (xs ys : List Value) (hs : w.ownsRow B 3 1 (.slice (some ⟨g, 0, none⟩) n c) n xs) (hv : w.ownsRow C 3 1 (.slice vo m vc) m ys) (hy1 : ∀ u ∈ ys, u.oneCell' = true) (hi : i < n) (hb : n + m ≤ 1000000) (hB : B ≤ w.heap.size) :
  Calls Tryz.prog 115 #[.slice (some ⟨g, 0, none⟩) n c, .int .i64 (i : Int), .int .i64 (n : Int), .slice vo m vc] w (To w B (.slice (some ⟨g, 0, none⟩) n c) (i + m) (xs.take i ++ ys)) := by
 obtain ⟨hrow, hgB, hnc, hcm, hxl, hxc⟩ := zat hs
 have hinI : ¬ (i : Int) = (n : Int) := by omega
 have hci : ¬ c = i := by omega
 have hb5 : (i : Int) ≤ (n : Int) := by omega
 have hb7 : i ≤ n := by omega
 have hb9 : (i : Int) ≤ (c : Int) := by omega
 have hb10 : i ≤ c := by omega
 have HO := zaa (own_take hs (show i ≤ n by omega))
 by_cases hlt : i + m < n
 ·obtain ⟨w1, hr, ho1, hg1⟩ := app_room w 116 B C i m g c (xs.take i) ys (.slice vo m vc) HO.out hv hy1 (by omega) (by omega) hB
  obtain ⟨hrow1, _, _, _, hl1, hc1⟩ := zat ho1
  have hcl : ∀ ty cc, (Builtin.clear_ #[116] ty #[.slice (some ⟨g, i + m, none⟩) (n - (i + m)) cc]).run Tryz.prog w1 = .ok (.tuple #[]) (w1.setCells g (i + m) (List.replicate (n - (i + m)) (.int .i64 0))) := fun ty cc =>
   Lib.run_clear_slice w1 116 3 ty (.int .i64 0) Tryz.underlying116 zero_run rfl rfl g (i + m) (n - (i + m)) cc (by omega) (fun t ht => hrow1.there (by omega)) (fun t _ => hrow1.free _)
  obtain ⟨w3, hw3⟩ : ∃ w3, w1.setCells g (i + m) (List.replicate (n - (i + m)) (.int .i64 0)) = w3 := ⟨_, rfl⟩
  rw [hw3] at hcl
  have HE : Hid (w3.ownsRow B 3 1 (.slice (some ⟨g, 0, none⟩) (i + m) c) (i + m) (xs.take i ++ ys)) := zaa (by
   rw [← hw3]
   refine RowE.own (RowE.sets _ _ _ hrow1) hcm hgB (by omega) hl1 (fun t v ht => ?_)
   have hlt2 := (zH.1 ht).1
   rw [hrow1.cell _ _ (by simp; omega), if_neg (by omega)]
   exact hc1 t v ht)
  have HG : Hid (w.grownBy w3 (some g)) := zaa (by rw [← hw3]; exact zbr hg1 (zaz g _ _ _))
  have hltI : (i : Int) + (m : Int) < (n : Int) := by omega
  have hcim : ¬ c = i + m := by omega
  clear hs hv hy1 hrow hxc hxl hw3 ho1 hg1 hrow1 hc1 hl1 HO
  go_enter Tryz.func115, Tryz.ntmps115
  go_wp2_with (at_builtin; first | (refine zcd rfl _ _ _ _ rfl _ _ rfl rfl hr ?_) | (refine zcy rfl _ _ rfl _ rfl (hcl _ _) ?_))
  go_ret
  exact ⟨some ⟨g, 0, none⟩, c, rfl, HE, zaa (gr_in HG.out)⟩
 ·have hltI : ¬ (i : Int) + (m : Int) < (n : Int) := by omega
  have HV := zaa hv
  have HY := zaa hy1
  have hmI : (m : Int) ≤ 1000000 := by omega
  clear hs hv hy1 hrow hxc hxl
  go_enter Tryz.func115, Tryz.ntmps115
  go_wp2_with (at_builtin; refine app_own _ rfl _ _ rfl B C i m (xs.take i) ys _ _ rfl rfl HO.out HV.out HY.out (by omega) hB ?_; refine Hid.out ?_)
  apply zaa
  intro ao c2 w1 h1 h2
  have H1 := zaa h1
  have H2 : Hid (Gr w (.slice (some ⟨g, 0, none⟩) n c) w1 (.slice ao (i + m) c2)) := zaa ⟨h2.grow, h2.own⟩
  clear h1 h2
  go_wp2
  go_ret
  exact ⟨ao, c2, rfl, H1, H2⟩
theorem rep_any (w : World) (B C n m i j : Nat) (v vv : Value) (xs ys : List Value) (hs : w.ownsRow B 3 1 v n xs) (hv : w.ownsRow C 3 1 vv m ys) (hx1 : ∀ u ∈ xs, u.oneCell' = true) (hy1 : ∀ u ∈ ys, u.oneCell' = true) (hne : vv.ownBlock = none ∨ vv.ownBlock ≠ v.ownBlock) (hij : i ≤ j) (hj : j ≤ n) (hb : n + m ≤ 1000000) (hB : B ≤ w.heap.size) (hm : i < j ∨ 0 < m) :
  Calls Tryz.prog 115 #[v, .int .i64 (i : Int), .int .i64 (j : Int), vv] w (To w B v (i + m + (n - j)) (xs.take i ++ ys ++ xs.drop j)) := by
 have hxl := hs.1
 by_cases h : i = j
 ·subst h
  have HI := zaa (ins_any w B C n m i v vv xs ys hs hv hx1 hy1 hne hj hb hB (by omega))
  rw [show i + m + (n - i) = n + m by omega]
  obtain ⟨ao, c, rfl⟩ := shape hs
  obtain ⟨bo, d, rfl⟩ := shape hv
  have hcc : n ≤ c := by
   rcases hs.2 with ⟨e, h0⟩ | ⟨g, cap, cur, e, _, _, h3, _⟩
   ·omega
   ·injection e with _ _ e3
    omega
  have hb5 : (i : Int) ≤ (n : Int) := by omega
  have hb9 : (i : Int) ≤ (c : Int) := by omega
  have hb10 : i ≤ c := by omega
  clear hs hv hx1 hy1 hne hxl
  by_cases hci : c = i
  ·subst hci
   go_enter Tryz.func115, Tryz.ntmps115
   go_wp2_with (go_at_call 152; refine HI.out.mono ?_; rintro e w1 ⟨a1, c1, rfl, H1, H2⟩)
   go_ret
   exact ⟨a1, c1, rfl, H1, H2⟩
  ·go_enter Tryz.func115, Tryz.ntmps115
   go_wp2_with (go_at_call 152; refine HI.out.mono ?_; rintro e w1 ⟨a1, c1, rfl, H1, H2⟩)
   go_ret
   exact ⟨a1, c1, rfl, H1, H2⟩
 ·rcases hs.2 with ⟨_, h0⟩ | ⟨g, c, cur, rfl, _⟩
  ·omega
  obtain ⟨vo, vc, rfl⟩ := shape hv
  by_cases hjn : j = n
  ·subst hjn
   have := rep_end w B C j m i g c vo vc xs ys hs hv hy1 (by omega) hb hB
   rwa [List.drop_eq_nil_of_le (by omega), List.append_nil, Nat.sub_self, Nat.add_zero]
  ·by_cases hem : i + m ≤ j
   ·exact rep_easy w B C n m i j g c vo vc xs ys hs hv hx1 hy1 hne (by omega) (by omega) hb hem
   ·rcases hv.2 with ⟨_, h0⟩ | ⟨b, vcap, vcur, e, _⟩
    ·omega
    injection e with e1 _ e3
    subst e1
    subst e3
    by_cases hg : i + m + (n - j) ≤ c
    ·refine rep_exp w B C n m i j g c b vc xs ys hs hv hx1 hy1 ?_ (by omega) (by omega) hb (by omega) hg
     rcases hne with e | e
     ·cases e
     ·exact fun e2 => e (by rw [e2]; rfl)
    ·exact rep_grow w B C n m i j g c b vc xs ys hs hv hx1 hy1 (by omega) (by omega) hb hB (by omega) (by omega)
end RN
end Go.Proofs.YtbkhjeacmmbabaaGreatDoor
