/- tuple.readText, in general, what utf8.Valid answers being given. -/
import Derived.Test.YtpiijmionafmcaaGreatDoorTuR
import Derived.Test.YtpiijmionafmcaaGreatDoorReadOrdered
import Derived.Test.YtpiijmionafmcaaGreatDoorSmC
namespace Go.Proofs.YtpiijmionafmcaaGreatDoor
open Go.RowKit

set_option maxRecDepth 100000 in
theorem rO_p : ∀ (l : List Int) (i : Int) (acc : List Int), Wf l → Wf acc → Wf (rO l i acc).1 ∧ (rO l i acc).1.length ≤ acc.length + l.length
  | [], _, acc, _, _ => by simp [rO]; exact Wf.nil
  | [c], i, acc, hl, ha => by
    by_cases h : c = 0
    · subst h
      rw [rO_cut]
      exact ⟨Wf.nil, by simp⟩
    · rw [rO_plain _ _ _ _ h, rO]
      exact ⟨Wf.nil, by simp⟩
  | c :: d :: r, i, acc, hl, ha => by
    by_cases h : c = 0
    · subst h
      rw [rO_two]
      split
      · have := rO_p r (i + 2) (acc ++ [0]) (fun x hx => hl x (by simp [hx])) (ha.append (Wf.cons (by omega) Wf.nil))
        refine ⟨this.1, ?_⟩
        have h2 := this.2
        simp only [List.length_append, List.length_cons, List.length_nil] at h2 ⊢
        omega
      · split
        · exact ⟨ha, by simp⟩
        · exact ⟨Wf.nil, by simp⟩
    · rw [rO_plain _ _ _ _ h]
      have := rO_p (d :: r) (i + 1) (acc ++ [c]) (fun x hx => hl x (by simp at hx ⊢; exact .inr hx)) (ha.append (Wf.cons (hl c (by simp)) Wf.nil))
      refine ⟨this.1, ?_⟩
      have h2 := this.2
      simp only [List.length_append, List.length_cons, List.length_nil] at h2 ⊢
      omega
/-- utf8.Valid tells of bytes what V tells of the text that they are. -/
def ValidB (T : World → Prop) (V : ByteArray → Bool) : Prop := ∀ (w : World) (ao : Option Addr) (n cap : Nat) (l : List Int), T w → Sl w ao n cap l →
  Calls Tryz.prog 66 #[.slice ao n cap] w fun e w' => e = .returned (.bool (V (strOfNums l))) ∧ Below w.heap.size w w'
/-- What the bytes from a place on say of a text of a kind: it, the place behind it, the error. -/
def rdT (V : ByteArray → Bool) (kind : Int) (r : List Int) (p : Int) : ByteArray × Int × Int :=
  if (rO r p []).2.2 ≠ 0 ∨ (kind = 6 ∧ V (strOfNums (rO r p []).1) = false) then (⟨#[]⟩, 0, 21) else (strOfNums (rO r p []).1, (rO r p []).2.1, 0)
set_option maxRecDepth 100000 in
theorem readText_any {T : World → Prop} {V : ByteArray → Bool} (hV : ValidB T V) (hT : ∀ {w w' : World}, T w → Below w.heap.size w w' → T w') (ao : Option Addr) (n cap : Nat) (l : List Int) (p : Nat) (kind : Int) (w : World) (ht : T w) (hs : Sl w ao n cap l) (hp : p ≤ n) :
    Calls Tryz.prog 41 #[.slice ao n cap, .int .i64 (p : Int), .int .i64 kind] w fun e w' => e = .returned (.tuple #[.string (rdT V kind (l.drop p) p).1, .int .i64 (rdT V kind (l.drop p) p).2.1, .int .i64 (rdT V kind (l.drop p) p).2.2]) ∧ Below w.heap.size w w' := by
  have HR := hidden (readOrdered_in ao n cap l p w hs (by omega) (by omega))
  rw [Int.toNat_natCast] at HR
  have hpr := rO_p (l.drop p) p [] (fun x hx => hs.wf x (List.mem_of_mem_drop hx)) Wf.nil
  have hlen := hs.hlen
  have hroom := hs.hroom
  have hdl : (l.drop p).length = n - p := by simp; omega
  unfold rdT
  obtain ⟨t, ht1⟩ : ∃ t, (rO (l.drop p) p []).1 = t := ⟨_, rfl⟩
  obtain ⟨q, hq1⟩ : ∃ q, (rO (l.drop p) p []).2.1 = q := ⟨_, rfl⟩
  obtain ⟨e, he1⟩ : ∃ e, (rO (l.drop p) p []).2.2 = e := ⟨_, rfl⟩
  rw [ht1, hq1, he1] at HR
  rw [ht1] at hpr
  rw [ht1, hq1, he1]
  clear ht1 hq1 he1 hs
  by_cases he : e = 0
  · subst he
    by_cases hk : kind = 6
    · subst hk
      cases hv : V (strOfNums t)
      · rw [if_pos (.inr ⟨rfl, rfl⟩)]
        go_enter Tryz.func41, Tryz.ntmps41
        go_wp2_with (first | (go_at_call 65; refine HR.out.mono ?_; rintro e1 w1 ⟨v1, rfl, ho1, hb1⟩; obtain ⟨a1, c1, rfl, hsl, _⟩ := ho1.sl hpr.1 (by simp at hpr; omega); have HV := hidden (hV w1 _ _ _ _ (hT ht hb1) hsl); rw [hv] at HV; have HB1 := hidden hb1; clear ho1 hb1 hsl) | (go_at_call 66; refine HV.out.mono ?_; rintro e2 w2 ⟨rfl, hb2⟩; have HB2 := hidden hb2; clear hb2))
        go_ret3
        exact ⟨rfl, HB1.out.trans (HB2.out.mono HB1.out.size)⟩
      · rw [if_neg (by rintro (h | h); exact h rfl; simp at h)]
        go_enter Tryz.func41, Tryz.ntmps41
        go_wp2_with (first | (go_at_call 65; refine HR.out.mono ?_; rintro e1 w1 ⟨v1, rfl, ho1, hb1⟩; obtain ⟨a1, c1, rfl, hsl, _⟩ := ho1.sl hpr.1 (by simp at hpr; omega); have HV := hidden (hV w1 _ _ _ _ (hT ht hb1) hsl); rw [hv] at HV; have HS := hidden hsl; have HB1 := hidden hb1; clear ho1 hb1 hsl) | (go_at_call 66; refine HV.out.mono ?_; rintro e2 w2 ⟨rfl, hb2⟩; have HB2 := hidden hb2; have kc := conv_st (HS.out.on (Nat.le_refl _) hb2); clear hb2))
        go_ret3
        exact ⟨rfl, HB1.out.trans (HB2.out.mono HB1.out.size)⟩
    · rw [if_neg (by rintro (h | h); exact h rfl; exact hk h.1)]
      have hk' : decide (kind = 6) = false := by simp [hk]
      have hk2 : (kind == 6) = false := by simp [hk]
      go_enter Tryz.func41, Tryz.ntmps41
      go_wp2_with (first | (go_at_call 65; refine HR.out.mono ?_; rintro e1 w1 ⟨v1, rfl, ho1, hb1⟩; obtain ⟨a1, c1, rfl, hsl, _⟩ := ho1.sl hpr.1 (by simp at hpr; omega); have kc := conv_st hsl; have HB1 := hidden hb1; clear ho1 hb1 hsl))
      go_ret3
      exact ⟨rfl, HB1.out⟩
  · rw [if_pos (.inl he)]
    have he' : decide (e = 0) = false := by simp [he]
    have he2 : (e == 0) = false := by simp [he]
    go_enter Tryz.func41, Tryz.ntmps41
    go_wp2_with (first | (go_at_call 65; refine HR.out.mono ?_; rintro e1 w1 ⟨v1, rfl, ho1, hb1⟩; obtain ⟨a1, c1, rfl, hsl, _⟩ := ho1.sl hpr.1 (by simp at hpr; omega); have HB1 := hidden hb1; clear ho1 hb1 hsl))
    go_ret3
    exact ⟨rfl, HB1.out⟩
end Go.Proofs.YtpiijmionafmcaaGreatDoor
