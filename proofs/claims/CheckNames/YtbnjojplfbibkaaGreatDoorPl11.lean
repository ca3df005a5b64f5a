/- Plain mathematics: what a splice leaves of each page; the states of the chapter's first examples. -/
import Derived.Test.YtbnjojplfbibkaaGreatDoorPl10
namespace Go.Proofs.YtbnjojplfbibkaaGreatDoor
open Go.RowKit

set_option maxRecDepth 100000 in
theorem splice_get {α : Type} (l cs : List α) (off i : Nat) (h : off + cs.length ≤ l.length) : (splice l off cs)[i]? = if i < off then l[i]? else if i < off + cs.length then cs[i - off]? else l[i]? := by
  unfold splice
  by_cases h1 : i < off
  · rw [if_pos h1, List.getElem?_append_left (by simp; omega), List.getElem?_take, if_pos h1]
  · rw [if_neg h1, List.getElem?_append_right (by simp; omega), List.length_take, Nat.min_eq_left (by omega)]
    by_cases h2 : i < off + cs.length
    · rw [if_pos h2, List.getElem?_append_left (by omega)]
    · rw [if_neg h2, List.getElem?_append_right (by omega), List.getElem?_drop]
      congr 1
      omega
/-- Page n of bytes. -/
def pgOf {α : Type} (page : Nat) (l : List α) (n : Nat) : List α := (l.drop (n * page)).take page
set_option maxRecDepth 100000 in
theorem pgOf_get {α : Type} (page : Nat) (l : List α) (n i : Nat) : (pgOf page l n)[i]? = if i < page then l[n * page + i]? else none := by
  unfold pgOf
  rw [List.getElem?_take]
  split
  · rw [List.getElem?_drop]
  · rfl
set_option maxRecDepth 100000 in
theorem mul_far {a b p : Nat} (h : a < b) : a * p + p ≤ b * p := by
  rw [← Nat.succ_mul]; exact Nat.mul_le_mul_right _ h
set_option maxRecDepth 100000 in
theorem pgOf_other {α : Type} {page pages : Nat} {l cs : List α} {n m : Nat} (hl : l.length = page * pages) (hn : n < pages) (hc : cs.length ≤ page) (hne : n ≠ m) : pgOf page (splice l (n * page) cs) m = pgOf page l m := by
  have hx := mul_far (p := page) hn
  have e : page * pages = pages * page := Nat.mul_comm _ _
  apply List.ext_getElem?
  intro i
  rw [pgOf_get, pgOf_get]
  split
  · rename_i hi
    rw [splice_get _ _ _ _ (by omega)]
    rcases Nat.lt_or_gt_of_ne hne with h | h
    · have := mul_far (p := page) h
      rw [if_neg (by omega), if_neg (by omega)]
    · have := mul_far (p := page) h
      rw [if_pos (by omega)]
  · rfl
set_option maxRecDepth 100000 in
theorem pgOf_same {α : Type} {page pages : Nat} {l cs : List α} {n : Nat} (hl : l.length = page * pages) (hn : n < pages) (hc : cs.length ≤ page) : pgOf page (splice l (n * page) cs) n = cs ++ (pgOf page l n).drop cs.length := by
  have hx := mul_far (p := page) hn
  have e : page * pages = pages * page := Nat.mul_comm _ _
  apply List.ext_getElem?
  intro i
  rw [pgOf_get]
  by_cases h1 : i < cs.length
  · rw [if_pos (by omega), splice_get _ _ _ _ (by omega), if_neg (by omega), if_pos (by omega), List.getElem?_append_left h1]
    congr 1
    omega
  · rw [List.getElem?_append_right (by omega), List.getElem?_drop, pgOf_get, show cs.length + (i - cs.length) = i by omega]
    split
    · rw [splice_get _ _ _ _ (by omega), if_neg (by omega), if_neg (by omega)]
    · rfl
set_option maxRecDepth 100000 in
theorem pgOf_replicate {α : Type} (page N n : Nat) (x : α) (h : n * page + page ≤ N) : pgOf page (List.replicate N x) n = List.replicate page x := by
  unfold pgOf
  rw [List.drop_replicate, List.take_replicate]
  congr 1
  omega

-- the states
def dA : D := d0 512 4
def dB (l7 : List Int) : D := dA.wrote 2 l7
def dC (l7 : List Int) : D := { dB l7 with cr := 1 }
def dE (l7 : List Int) : D := (dC l7).synced
def dF (l7 l2 : List Int) : D := (dE l7).wrote 3 l2
def dG (l7 l2 : List Int) : D := (dF l7 l2).fallen [] 0 2
def dH (l7 l2 : List Int) : D := { dG l7 l2 with down := false }

set_option maxRecDepth 100000 in
theorem dB_read (l7 : List Int) : rd (dB l7) 2 = l7 := by
  rfl
set_option maxRecDepth 100000 in
theorem dE_safe (l7 : List Int) (h : l7.length = 512) : (dE l7).safe = splice (List.replicate 2048 0) (2 * 512) l7 := by
  show lay 512 [(2, l7)] (fun _ => 512) (List.replicate (512 * 4) 0) 1 = _
  show splice (List.replicate (512 * 4) 0) (2 * 512) (l7.take 512) = _
  rw [List.take_of_length_le (by omega)]
set_option maxRecDepth 100000 in
theorem dH_safe (l7 l2 : List Int) : (dH l7 l2).safe = splice (dE l7).safe (3 * 512) (l2.take 2) := by
  show lay 512 [(3, l2)] _ (dE l7).safe 1 = _
  show splice (dE l7).safe (3 * 512) (l2.take _) = _
  congr 2
set_option maxRecDepth 100000 in
theorem dH_read (l7 l2 : List Int) (h7 : l7.length = 512) (h2 : l2.length = 512) : rd (dH l7 l2) 3 = l2.take 2 ++ List.replicate 510 0 := by
  have e : rd (dH l7 l2) 3 = pgOf 512 (dH l7 l2).safe 3 := by
    have : (dH l7 l2).last.getD 3 0 = 0 := rfl
    have hp : (dH l7 l2).page = 512 := rfl
    unfold rd
    rw [this, hp, if_neg (by omega)]
    rfl
  have hl : (l2.take 2).length = 2 := by rw [List.length_take]; omega
  have hs : (dE l7).safe.length = 512 * 4 := by rw [dE_safe l7 h7, length_splice _ _ _ (by rw [List.length_replicate]; omega), List.length_replicate]
  rw [e, dH_safe, pgOf_same hs (by omega) (by omega), dE_safe l7 h7, pgOf_other (pages := 4) (by rw [List.length_replicate]) (by omega) (by omega) (by omega), pgOf_replicate _ _ _ _ (by omega), hl, List.drop_replicate]
end Go.Proofs.YtbnjojplfbibkaaGreatDoor
