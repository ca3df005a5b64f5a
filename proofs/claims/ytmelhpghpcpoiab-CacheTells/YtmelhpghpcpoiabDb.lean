/- The row by use: a link taken out, a link put at the young end, as lists. -/
import Derived.Test.YtmelhpghpcpoiabDa
namespace Go.Proofs.Ytmelhpghpcpoiab
open Go.RowKit Go.Maps

/-- The cache's struct at c, and its row. -/
structure Rw (w : World) (c a : Nat) (fr h mi ev : Int) (m p : Nat) (fs : List Fr) : Prop where
  hc : Hs w c (cC a fr m (op (hd fs none)) (op (lst none fs)) h mi ev) tC
  hr : sg w p none fs none
  nd : (fs.map Fr.b).Nodup
  nc : ∀ f ∈ fs, f.b ≠ c
set_option maxRecDepth 100000 in
theorem lst_snoc (o : Option Nat) (A : List Fr) (x : Fr) : lst o (A ++ [x]) = some x.b := by rw [lst_app]; rfl
set_option maxRecDepth 100000 in
theorem lst_cons (o o' : Option Nat) (x : Fr) (B : List Fr) : lst o (x :: B) = lst o' (x :: B) := rfl
set_option maxRecDepth 100000 in
theorem snoc_cases (A : List Fr) : A = [] ∨ ∃ A' x, A = A' ++ [x] := by
  rcases A.eq_nil_or_concat with h | ⟨A', x, h⟩
  · exact .inl h
  · exact .inr ⟨A', x, by simpa using h⟩
/-- The blocks that a row has. -/
def Own (c : Nat) (fs : List Fr) (k : Nat) : Prop := k = c ∨ ∃ f ∈ fs, k = f.b

set_option maxRecDepth 100000 in
theorem hd_mem {B : List Fr} {y : Nat} (h : hd B none = some y) : ∃ f ∈ B, f.b = y := by
  cases B with
  | nil => cases h
  | cons x r => exact ⟨x, List.mem_cons_self .., by simpa [hd] using h⟩
set_option maxRecDepth 100000 in
theorem lst_mem {A : List Fr} {y : Nat} (h : lst none A = some y) : ∃ f ∈ A, f.b = y := by
  rcases snoc_cases A with rfl | ⟨A', x, rfl⟩
  · cases h
  · rw [lst_snoc] at h
    exact ⟨x, by simp, by simpa using h⟩
set_option maxRecDepth 100000 in
/-- Ahead of the link that goes. -/
theorem rem_one {w : World} {c a : Nat} {fr h mi ev : Int} {m p : Nat} {A B : List Fr} {f : Fr} (r : Rw w c a fr h mi ev m p (A ++ f :: B)) :
    ∃ w1, w1 = (match lst none A with | none => w.setCell ⟨c, 3, none⟩ (op (hd B none)) | some x => w.setCell ⟨x, 5, none⟩ (op (hd B none))) ∧ sg w1 p none A (hd B none) ∧ sg w1 p (some f.b) B none ∧ Hs w1 f.b (lc p f (lst none A) (hd B none)) tL ∧
      Hs w1 c (cC a fr m (op (hd (A ++ B) none)) (op (lst none (A ++ f :: B))) h mi ev) tC ∧ Ch (Own c (A ++ f :: B)) w w1 ∧ w1.heap.size = w.heap.size := by
  obtain ⟨hc, hr, nd, nc⟩ := r
  rw [sg_app] at hr
  obtain ⟨hA, hf, hB⟩ := hr
  rw [List.map_append, List.map_cons, List.nodup_append] at nd
  obtain ⟨nA, nB, nAB⟩ := nd
  rw [List.nodup_cons] at nB
  have dB : ∀ x ∈ B, x.b ≠ f.b := fun x hx e => nB.1 (e ▸ List.mem_map_of_mem hx)
  have dAf : ∀ x ∈ A, x.b ≠ f.b := fun x hx => nAB _ (List.mem_map_of_mem hx) _ (List.mem_cons_self ..)
  have dAB : ∀ x ∈ A, ∀ y ∈ B, x.b ≠ y.b := fun x hx y hy => nAB _ (List.mem_map_of_mem hx) _ (List.mem_cons_of_mem _ (List.mem_map_of_mem hy))
  rcases snoc_cases A with rfl | ⟨A', x, rfl⟩
  · refine ⟨_, rfl, trivial, sg_stay hB fun x hx => heap_ne (nc x (by simp [hx])) _, ?_, ?_, (Ch.refl _ w).set (.inl rfl) _, size_setCell ..⟩
    · exact Hs.other hf (nc f (by simp)) _
    · exact Hs.self hc _
  · have xA : x ∈ A' ++ [x] := by simp
    have e : lst none (A' ++ [x]) = some x.b := lst_snoc _ _ _
    refine ⟨_, rfl, ?_, ?_, ?_, ?_, ?_, ?_⟩
    · rw [e]
      refine sg_setY hA (fun y hy e => ?_) _
      rw [List.map_append, List.nodup_append] at nA
      exact nA.2.2 _ (List.mem_map_of_mem hy) _ (by simp) e
    · rw [e]; exact sg_stay hB fun y hy => heap_ne (fun e => dAB x xA y hy e.symm) _
    · rw [e] at hf ⊢; exact Hs.other hf (fun e => dAf x xA e.symm) _
    · rw [e]
      have h1 : hd ((A' ++ [x]) ++ f :: B) none = hd ((A' ++ [x]) ++ B) none := by cases A' <;> rfl
      rw [h1] at hc
      exact Hs.other hc (fun e => nc x (by simp) e.symm) _
    · rw [e]; exact (Ch.refl _ w).set (.inr ⟨x, by simp, rfl⟩) _
    · rw [e]; exact size_setCell ..
set_option maxRecDepth 100000 in
theorem rem_rw {w : World} {c a : Nat} {fr h mi ev : Int} {m p : Nat} {A B : List Fr} {f : Fr} (r : Rw w c a fr h mi ev m p (A ++ f :: B)) (q : Nat) :
    Rw ((remW w c f.b (lst none A) (hd B none)).drewN q) c a fr h mi ev m p (A ++ B) ∧ Hs ((remW w c f.b (lst none A) (hd B none)).drewN q) f.b (lc p f none none) tL ∧ Ch (Own c (A ++ f :: B)) w ((remW w c f.b (lst none A) (hd B none)).drewN q) ∧ ((remW w c f.b (lst none A) (hd B none)).drewN q).heap.size = w.heap.size := by
  obtain ⟨w1, e1, hA, hB, hf, hc, k1, z1⟩ := rem_one r
  obtain ⟨_, _, nd, nc⟩ := r
  have nd' := nd
  rw [List.map_append, List.map_cons, List.nodup_append] at nd
  obtain ⟨nA, nB, nAB⟩ := nd
  rw [List.nodup_cons] at nB
  have dB : ∀ x ∈ B, x.b ≠ f.b := fun x hx e => nB.1 (e ▸ List.mem_map_of_mem hx)
  have dAf : ∀ x ∈ A, x.b ≠ f.b := fun x hx => nAB _ (List.mem_map_of_mem hx) _ (List.mem_cons_self ..)
  have dAB : ∀ x ∈ A, ∀ y ∈ B, x.b ≠ y.b := fun x hx y hy => nAB _ (List.mem_map_of_mem hx) _ (List.mem_cons_of_mem _ (List.mem_map_of_mem hy))
  obtain ⟨w2, e2, hA2, hB2, hf2, hc2, k2, z2⟩ : ∃ w2, w2 = (match hd B none with | none => w1.setCell ⟨c, 4, none⟩ (op (lst none A)) | some x => w1.setCell ⟨x, 4, none⟩ (op (lst none A))) ∧ sg w2 p none A (hd B none) ∧ sg w2 p (lst none A) B none ∧ Hs w2 f.b (lc p f (lst none A) (hd B none)) tL ∧
      Hs w2 c (cC a fr m (op (hd (A ++ B) none)) (op (lst none (A ++ B))) h mi ev) tC ∧ Ch (Own c (A ++ f :: B)) w w2 ∧ w2.heap.size = w.heap.size := by
    cases B with
    | nil =>
      refine ⟨_, rfl, sg_stay hA fun x hx => heap_ne (nc x (by simp [hx])) _, trivial, Hs.other hf (nc f (by simp)) _, ?_, k1.set (.inl rfl) _, (size_setCell ..).trans z1⟩
      have := Hs.self (i := 4) hc (op (lst none A))
      rw [List.append_nil]
      rw [List.append_nil] at this
      exact this
    | cons y B' =>
      have yB : y ∈ y :: B' := List.mem_cons_self ..
      refine ⟨_, rfl, sg_stay hA fun x hx => heap_ne (dAB x hx y yB) _, sg_setO hB (fun x hx e => ?_) _, Hs.other hf (fun e => dB y yB e.symm) _, ?_, k1.set (.inr ⟨y, by simp, rfl⟩) _, (size_setCell ..).trans z1⟩
      · have n2 := nB.2
        rw [List.map_cons, List.nodup_cons] at n2
        exact n2.1 (e ▸ List.mem_map_of_mem hx)
      · have h1 : lst none (A ++ f :: y :: B') = lst none (A ++ y :: B') := by rw [lst_app, lst_app]; rfl
        rw [h1] at hc
        exact Hs.other hc (fun e => nc y (by simp) e.symm) _
  have e3 : remW w c f.b (lst none A) (hd B none) = (w2.setCell ⟨f.b, 4, none⟩ (.pointer none)).setCell ⟨f.b, 5, none⟩ (.pointer none) := by
    unfold remW
    rw [e2, e1]
    rfl
  rw [e3]
  have kk : Ch (Own c (A ++ f :: B)) w ((w2.setCell ⟨f.b, 4, none⟩ (.pointer none)).setCell ⟨f.b, 5, none⟩ (.pointer none)) := (k2.set (.inr ⟨f, by simp, rfl⟩) _).set (.inr ⟨f, by simp, rfl⟩) _
  refine ⟨⟨?_, ?_, ?_, fun x hx => nc x ?_⟩, ?_, kk.trans (Ch.drew _ _ q) fun _ _ h => h, ?_⟩
  · exact Hs.other (Hs.other hc2 (fun e => nc f (by simp) e.symm) _) (fun e => nc f (by simp) e.symm) _
  · rw [sg_app]
    exact ⟨sg_stay hA2 fun x hx => (heap_ne (dAf x hx) _).trans (heap_ne (dAf x hx) _), sg_stay hB2 fun x hx => (heap_ne (dB x hx) _).trans (heap_ne (dB x hx) _)⟩
  · rw [List.map_append, List.nodup_append]
    exact ⟨nA, nB.2, fun x hx y hy => nAB x hx y (List.mem_cons_of_mem _ hy)⟩
  · rcases List.mem_append.1 hx with h | h <;> simp [h]
  · exact Hs.self (Hs.self hf2 _) _
  · exact ((size_setCell ..).trans ((size_setCell ..).trans z2))
set_option maxRecDepth 100000 in
theorem add_rw {w : World} {c a : Nat} {fr h mi ev : Int} {m p : Nat} {fs : List Fr} {f : Fr} (r : Rw w c a fr h mi ev m p fs) (o : Option Nat) (hf : Hs w f.b (lc p f o none) tL) (hn : ∀ x ∈ fs, x.b ≠ f.b) (hfc : f.b ≠ c) :
    Rw (addW w c f.b (lst none fs)) c a fr h mi ev m p (fs ++ [f]) ∧ Ch (Own c (fs ++ [f])) w (addW w c f.b (lst none fs)) ∧ (addW w c f.b (lst none fs)).heap.size = w.heap.size := by
  obtain ⟨hc, hr, nd, nc⟩ := r
  have hnd : ((fs ++ [f]).map Fr.b).Nodup := by
    rw [List.map_append, List.nodup_append]
    refine ⟨nd, by simp, fun x hx y hy => ?_⟩
    obtain ⟨x', h1, rfl⟩ := List.mem_map.1 hx
    obtain rfl : y = f.b := by simpa using hy
    exact hn x' h1
  have hnc : ∀ x ∈ fs ++ [f], x.b ≠ c := fun x hx => by
    rcases List.mem_append.1 hx with h | h
    · exact nc x h
    · obtain rfl : x = f := by simpa using h
      exact hfc
  have hcf : c ≠ f.b := fun e => hfc e.symm
  rcases snoc_cases fs with rfl | ⟨A, x, rfl⟩
  · refine ⟨⟨?_, ⟨?_, trivial⟩, hnd, hnc⟩, ?_, ?_⟩
    · exact Hs.self (Hs.self (Hs.other hc hcf _) _) _
    · exact Hs.other (Hs.other (Hs.self hf _) hfc _) hfc _
    · exact (((Ch.refl _ w).set (.inr ⟨f, by simp, rfl⟩) _).set (.inl rfl) _).set (.inl rfl) _
    · simp [addW, lst, World.setCell]
  · have e : lst none (A ++ [x]) = some x.b := lst_snoc _ _ _
    have hxf : x.b ≠ f.b := hn x (by simp)
    have hxc : x.b ≠ c := nc x (by simp)
    rw [e]
    have eW : addW w c f.b (some x.b) = ((w.setCell ⟨f.b, 4, none⟩ (pt x.b)).setCell ⟨x.b, 5, none⟩ (pt f.b)).setCell ⟨c, 4, none⟩ (pt f.b) := rfl
    rw [eW]
    refine ⟨⟨?_, ?_, hnd, hnc⟩, ?_, ?_⟩
    · have h1 : hd (A ++ [x]) none = hd (A ++ [x] ++ [f]) none := by cases A <;> rfl
      rw [h1] at hc
      have := Hs.self (i := 4) (Hs.other (k := x.b) (i := 5) (Hs.other (k := f.b) (i := 4) hc hcf (pt x.b)) (fun e => hxc e.symm) (pt f.b)) (pt f.b)
      rw [lst_snoc]
      exact this
    · rw [sg_app, e]
      refine ⟨?_, ?_, trivial⟩
      · have h1 : sg (w.setCell ⟨f.b, 4, none⟩ (pt x.b)) p none (A ++ [x]) none := sg_stay hr fun y hy => heap_ne (hn y hy) _
        have h2 := sg_setY h1 (fun y hy e => by
          rw [List.map_append, List.nodup_append] at nd
          exact nd.2.2 _ (List.mem_map_of_mem hy) _ (by simp) e) (some f.b)
        exact sg_stay h2 fun y hy => heap_ne (nc y hy) _
      · exact Hs.other (Hs.other (Hs.self hf _) (fun e => hxf e.symm) _) hfc _
    · exact (((Ch.refl _ w).set (.inr ⟨f, by simp, rfl⟩) _).set (.inr ⟨x, by simp, rfl⟩) _).set (.inl rfl) _
    · simp [World.setCell]
end Go.Proofs.Ytmelhpghpcpoiab
