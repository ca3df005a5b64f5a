/- tuple.readItems and Decode, in general, what utf8.Valid answers being given. -/
import Derived.Test.YtpiijmionafmcaaGreatDoorTuW
import Derived.Test.YtpiijmionafmcaaGreatDoorAwk2
namespace Go.Proofs.YtpiijmionafmcaaGreatDoor
open Go.RowKit

set_option maxRecDepth 100000 in
/-- A row of owned items and one more, behind an append. -/
theorem ow_push {w w2 : World} {B C : Nat} {v v2 sv : Value} {acc sub : Its} {ys : List Value} {F1 G : List Nat} {k n : Int} {t : ByteArray} (h1 : acc.Ow w B ys F1) (hF : (v.ownBlock.toList ++ F1).Nodup) (hFl : ∀ g ∈ v.ownBlock.toList ++ F1, g < C) (hs : OwI w C sv sub G) (hBC : B ≤ C)
    (hr : w2.ownsRow B 36 4 v2 (acc.len + 1) (ys ++ [.int .i64 k, .int .i64 n, .string t, sv])) (hg : Gr w v w2 v2) : ∃ F, OwI w2 B v2 (acc.snoc k n t sub) F := by
  have hl1 := h1.lt acc ys F1
  have hl2 := hs.lt
  have k1 : acc.Ow w2 B ys F1 := h1.keep acc ys F1 fun g hgm => hg.grow.block g (hl1 g hgm).2 fun e => by
    rw [← e] at hF
    simp only [Option.toList_some, List.singleton_append, List.nodup_cons] at hF
    exact hF.1 hgm
  have k2 : OwI w2 C sv sub G := hs.keep fun g hgm => hg.grow.block g (hl2 g hgm).2 fun e => by
    have := hFl g (by rw [← e]; simp)
    have := (hl2 g hgm).1
    omega
  obtain ⟨zs, G1, z1, z2, rfl, z4⟩ := k2.lift hBC
  refine ⟨_, _, _, by rw [Its.snoc_len]; exact hr, Its.Ow.snoc z1 z2 acc ys F1 k1, rfl, ?_⟩
  have d1 : F1.Nodup := (List.nodup_append.1 hF).2.1
  have d2 : (F1 ++ (sv.ownBlock.toList ++ G1)).Nodup := by
    refine List.nodup_append.2 ⟨d1, z4, fun a ha b hb e => ?_⟩
    subst e
    have := hFl a (by simp [ha])
    have := (hl2 a hb).1
    omega
  refine List.nodup_append.2 ⟨?_, d2, fun a ha b hb e => ?_⟩
  · cases v2.ownBlock <;> simp
  · subst e
    rw [Option.mem_toList] at ha
    simp only [List.mem_append] at hb
    have hb' : a ∈ F1 ∨ a ∈ sv.ownBlock.toList ++ G1 := by rw [List.mem_append]; exact hb
    rcases hg.own with e | ⟨g, e, hge⟩
    · rw [e] at ha
      rcases hb' with hb' | hb'
      · exact (List.nodup_append.1 hF).2.2 a (by rw [Option.mem_toList]; exact ha) a hb' rfl
      · have := hFl a (by rw [List.mem_append, Option.mem_toList]; exact .inl ha)
        have := (hl2 a hb').1
        omega
    · rw [e] at ha
      injection ha with ha
      subst ha
      rcases hb' with hb' | hb'
      · have := (hl1 g hb').2
        omega
      · have := (hl2 g hb').2
        omega
/-- What stands ahead, and what is read behind it. -/
def fin (acc : Its) (r : Its × Int × Int) : Its × Int × Int := if r.2.2 ≠ 0 then (.nil, 0, r.2.2) else (acc.app r.1, r.2.1, 0)
set_option maxRecDepth 100000 in
theorem rdL_err (V : ByteArray → Bool) (l : List Int) : ∀ (N p : Nat) (d : Int) (j : Nat), (rdL V l N p d j).2.2 ≠ 0 → rdL V l N p d j = (.nil, 0, (rdL V l N p d j).2.2)
  | 0, _, _, _, h => absurd rfl h
  | N + 1, p, d, j, h => by
    rw [rdL] at h ⊢
    split
    · split
      · rfl
      · rename_i h1 h2
        rw [if_pos h1, if_neg h2] at h
        exact absurd rfl h
    · split
      · rename_i h1 h2
        rw [if_neg h1, if_pos h2] at h
        exact absurd rfl h
      · split
        · rfl
        · split
          · rfl
          · split
            · rfl
            · split
              · rfl
              · rename_i h1 h2 h3 h4 h5 h6
                rw [if_neg h1, if_neg h2, if_neg h3, if_neg h4, if_neg h5, if_neg h6] at h
                exact absurd rfl h
set_option maxRecDepth 100000 in
theorem fin_nil (V : ByteArray → Bool) (l : List Int) (N p : Nat) (d : Int) (j : Nat) : fin .nil (rdL V l N p d j) = rdL V l N p d j := by
  unfold fin
  split
  · rename_i h
    exact (rdL_err V l N p d j h).symm
  · rename_i h
    have h0 : (rdL V l N p d j).2.2 = 0 := Decidable.not_not.1 h
    rw [Its.app]
    rw [← h0]
set_option maxRecDepth 100000 in
theorem fin_step (acc : Its) (k n : Int) (t : ByteArray) (sub : Its) (r : Its × Int × Int) : fin acc (if r.2.2 ≠ 0 then (.nil, 0, r.2.2) else (.cons k n t sub r.1, r.2.1, 0)) = fin (acc.snoc k n t sub) r := by
  unfold fin
  by_cases h : r.2.2 ≠ 0
  · rw [if_pos h, if_pos h]
    simp only
    rw [if_pos h]
  · rw [if_neg h, if_neg h]
    simp only
    rw [if_neg (by simp), Its.snoc_app]
set_option maxRecDepth 100000 in
theorem ow_step {wr w1 W3 w4 : World} {B : Nat} {v v4 sv : Value} {acc sub : Its} {ys : List Value} {F F1 G : List Nat} {k n : Int} {t : ByteArray} (hOW : acc.Ow wr B ys F1) (hFE : F = v.ownBlock.toList ++ F1) (hND : F.Nodup) (hLT : ∀ g ∈ F, B ≤ g ∧ g < wr.heap.size)
    (hb1 : Below wr.heap.size wr w1) (hO1 : OwI w1 wr.heap.size sv sub G) (h3 : Below w1.heap.size w1 W3) (hB : B ≤ wr.heap.size) (ho4 : w4.ownsRow B 36 4 v4 (acc.len + 1) (ys ++ [.int .i64 k, .int .i64 n, .string t, sv])) (hg4 : Gr W3 v w4 v4) : ∃ F', OwI w4 B v4 (acc.snoc k n t sub) F' := by
  subst hFE
  have hs1 := hb1.size
  have hl1 := hOW.lt acc ys F1
  exact ow_push (C := wr.heap.size) (hOW.keep acc ys F1 fun g hg => (h3.block g (by have := (hl1 g hg).2; omega)).trans (hb1.block g (hl1 g hg).2)) hND (fun g hg => (hLT g hg).2) (hO1.on h3) hB ho4 hg4
set_option maxRecDepth 100000 in
theorem OwI.form' {w : World} {B : Nat} {v : Value} {l : Its} {F : List Nat} (h : OwI w B v l F) : ∃ so c, v = .slice so l.len c := by
  obtain ⟨ys, F1, h1, _⟩ := h
  rcases h1.2 with ⟨rfl, h0⟩ | ⟨g, cap, cur, rfl, _⟩
  · exact ⟨_, _, by rw [h0]⟩
  · exact ⟨_, _, rfl⟩
set_option maxHeartbeats 4000000 in
set_option maxRecDepth 100000 in
theorem readItems_all {T : World → Prop} {V : ByteArray → Bool} (hV : ValidB T V) (hT : ∀ {w w' : World}, T w → Below w.heap.size w w' → T w') (ao : Option Addr) (n cap : Nat) (l : List Int) : ∀ (K N : Nat), N < K → ∀ (p0 : Nat) (d : Int) (w : World), T w → Sl w ao n cap l → p0 ≤ n → 0 ≤ d ∧ d ≤ 16 → 2 * (n - p0) + 2 ≤ N →
    Calls Tryz.prog 17 #[.slice ao n cap, .int .i64 (p0 : Int), .int .i64 d] w (RdTo (rdL V l N p0 d 0) w)
  | 0, _, h, _, _, _, _, _, _, _, _ => by omega
  | K + 1, N, hNK, p0, d, w, ht, hs, hp0, hd, hN => by
    have hlen := hs.hlen
    have hroom := hs.hroom
    have hcap := hs.hcap
    have HW := hidden hs.wf
    have Hs := hidden hs
    have Ht := hidden ht
    obtain ⟨X, hX⟩ : ∃ X, rdL V l N p0 d 0 = X := ⟨_, rfl⟩
    have HX0 : Hid (X = fin .nil (rdL V l N p0 d 0)) := hidden (by rw [fin_nil, hX])
    rw [hX]
    clear hs ht hX
    go_enter Tryz.func17, Tryz.ntmps17
    go_wp2_with fail
    go_loopw [1, 9] (fun at_ v wr => ∃ (p : Nat) (acc : Its) (M : Nat) (F : List Nat) (so : Option Addr) (sc : Nat), p ≤ n ∧ at_ = .int .i64 (p : Int) ∧ v = .slice so acc.len sc ∧ 2 * (n - p) + 2 ≤ M ∧ M ≤ N ∧ acc.len ≤ 64 ∧ Hid (OwI wr w.heap.size (.slice so acc.len sc) acc F) ∧ Hid (Below w.heap.size w wr) ∧ Hid (X = fin acc (rdL V l M p d acc.len))) (fun at_ _ _ => n - (intOf at_).toNat)
    case atStart => exact ⟨p0, .nil, N, [], none, 0, hp0, rfl, rfl, hN, Nat.le_refl _, by simp [Its.len], hidden (OwI.nil _ _), hidden (Below.refl _ _), HX0⟩
    case round =>
      obtain ⟨p, acc, M, F, so, sc, hp, rfl, rfl, hM, hMN, hal, HO, HB, HX⟩ := hrel
      obtain ⟨M, rfl⟩ : ∃ M', M = M' + 1 := ⟨M - 1, by omega⟩
      clear HX0
      have hx := HX.out
      rw [rdL, hlen] at hx
      clear HX
      by_cases hpn : p < n
      · rw [if_neg (by omega)] at hx
        have hpI : (p : Int) < (n : Int) := by omega
        rcases (Hs.out.on (Nat.le_refl _) HB.out).hat with h | ⟨b, off, rfl, hbb, hc⟩
        · omega
        have hck := hc p hpn
        have hc8 := HW.out (l.getD p 0) (getD_mem l p (by omega))
        generalize hcc : l.getD p 0 = c at *
        clear hcc hc
        by_cases hd0 : 0 < d
        · have hdb : decide (0 < d) = true := by simp [hd0]
          by_cases hc0 : c = 0
          · subst hc0
            rw [if_pos ⟨hd0, rfl⟩] at hx
            have hx2 : X = (acc, (p : Int) + 1, 0) := by rw [hx]; unfold fin; simp [Its.app_nil]
            subst hx2
            clear hx
            go_wp2
            go_ret3
            exact ⟨_, F, rfl, HO.out, HB.out⟩
          · rw [if_neg (by omega)] at hx
            have hcb : (c == 0) = false := by simp [hc0]
            by_cases hk : c < 16 ∨ 23 < c
            · rw [if_pos hk] at hx
              have hx2 : X = (.nil, 0, 21) := hx
              subst hx2
              clear hx
              go_wp2_with (first | (go_at_call 26; refine same_call (isKind_no _ _ (by omega)) ?_))
              go_ret3
              exact ⟨_, [], rfl, OwI.nil _ _, HB.out⟩
            · rw [if_neg hk] at hx
              by_cases h64 : acc.len = 64
              · rw [if_pos (.inl h64)] at hx
                have hx2 : X = (.nil, 0, 22) := hx
                subst hx2
                clear hx
                have l64 : ((acc.len : Int) == 64) = true := by simp; omega
                go_wp2_with (first | (go_at_call 26; refine same_call (isKind_yes _ _ (by omega)) ?_))
                go_ret3
                exact ⟨_, [], rfl, OwI.nil _ _, HB.out⟩
              · have l64 : ((acc.len : Int) == 64) = false := by simp; omega
                by_cases hc7 : c = 23
                · subst hc7
                  by_cases hd6 : d = 16
                  · subst hd6
                    rw [if_pos (.inr ⟨rfl, rfl⟩)] at hx
                    have hx2 : X = (.nil, 0, 22) := hx
                    subst hx2
                    clear hx
                    go_wp2_with (first | (go_at_call 26; refine same_call (isKind_yes _ _ (by omega)) ?_))
                    go_ret3
                    exact ⟨_, [], rfl, OwI.nil _ _, HB.out⟩
                  · rw [if_neg (by omega)] at hx
                    have d16 : (d == 16) = false := by simp [hd6]
                    rw [show (23 : Int) - 16 = 7 from rfl] at hx
                    have HRI := hidden (readItem_any hV hT (fun p d => rdL V l M p d 0) (some ⟨b, off, none⟩) n cap l (p + 1) (7) d wr (hT Ht.out HB.out) (Hs.out.on (Nat.le_refl _) HB.out) (by omega) hd (fun h7 u hu hsu => readItems_all hV hT (some ⟨b, off, none⟩) n cap l K M (by omega) (p + 1) (d + 1) u hu hsu (by omega) (by omega) (by omega)))
                    have hxo := rdX_ok V (fun p d => rdL V l M p d 0) l (p + 1) (7) d HW.out (by omega) (fun _ => (rdL_ok V l HW.out (by omega) M (p + 1) (d + 1) 0 (by omega) (by omega) (by omega)).1)
                    rw [show ((p + 1 : Nat) : Int) = (p : Int) + 1 by omega] at HRI
                    generalize rdX V (fun p d => rdL V l M p d 0) l (p + 1) (7) d = x at *
                    obtain ⟨⟨xn, xt, xs⟩, xq, xe⟩ := x
                    simp only at hx
                    obtain ⟨x1, x2, x3, x4, x5, x6⟩ := hxo
                    simp only at x1 x2 x3 x4 x5 x6
                    by_cases hxe : xe = 0
                    · subst hxe
                      rw [if_neg (by simp), fin_step] at hx
                      obtain ⟨hq1, hq2⟩ := x5 rfl
                      obtain ⟨q, rfl⟩ : ∃ q : Nat, xq = (q : Int) := ⟨xq.toNat, by omega⟩
                      rw [Int.toNat_natCast] at hx
                      have HX := hidden hx
                      have HXS := hidden x3
                      have hsz := HB.out.size
                      obtain ⟨ys, F1, hrow, how, hFe, hnd⟩ := HO.out
                      have HR := hidden hrow
                      have HOW := hidden how
                      have HLT := hidden HO.out.lt
                      have HFE := hidden hFe
                      have HND := hidden hnd
                      clear hx x1 x2 x3 x4 x5 x6 hrow how hFe hnd
                      go_wp2_with (first | (go_at_call 26; refine same_call (isKind_yes _ _ (by omega)) ?_) | (go_at_call 27; refine HRI.out.mono ?_; rintro e w1 ⟨s1, m1, c1, G, rfl, ho1, hb1⟩; have HO1 := hidden ho1; have HB1 := hidden hb1; have hz1 := hb1.size; clear ho1 hb1) | (at_builtin; refine app_item _ rfl _ _ rfl w.heap.size acc.len ys _ _ _ _ _ _ rfl rfl (((row_keep HR.out (fun g hg => HB1.out.block g (row_lt HR.out hg).2)).alloc _).alloc _) (heap_new _ _ _ (by simp)) (one4 _ _ _ _ _ _) (by omega) (by simp; omega) ?_))
                      intro v4 w4 ho4 hg4
                      obtain ⟨F', ho⟩ := ow_step HOW.out HFE.out HND.out HLT.out HB1.out HO1.out (((Below.refl _ _).alloc (Nat.le_refl _) _).alloc (by simp) _) hsz ho4 hg4
                      have R4 : Below w.heap.size w w4 := HB.out.trans ((HB1.out.mono hsz).trans ((((Below.refl _ _).alloc (by omega) _).alloc (by simp; omega) _).trans (own_below (((row_keep HR.out (fun g hg => HB1.out.block g (row_lt HR.out hg).2)).alloc _).alloc _) (by simp; omega) hg4.grow)))
                      obtain ⟨so4, c4, rfl⟩ := ho.form'
                      have HO4 := hidden ho
                      have HR4 := hidden R4
                      clear ho R4 ho4 hg4
                      go_wp2
                      go_roundw
                      case rel => exact ⟨q, acc.snoc (7) xn xt xs, M, F', so4, c4, by omega, rfl, rfl, by omega, by omega, by rw [Its.snoc_len]; omega, HO4, HR4, by rw [Its.snoc_len]; exact HX⟩
                      case measure => simp [intOf]; omega
                    · rw [if_pos hxe] at hx
                      have hx2 : X = (.nil, 0, xe) := by rw [hx]; unfold fin; rw [if_pos hxe]
                      subst hx2
                      have hxb : (xe == 0) = false := by simp [hxe]
                      clear hx x1 x2 x3 x4 x5 x6
                      go_wp2_with (first | (go_at_call 26; refine same_call (isKind_yes _ _ (by omega)) ?_) | (go_at_call 27; refine HRI.out.mono ?_; rintro e w1 ⟨s1, m1, c1, G, rfl, ho1, hb1⟩; have HO1 := hidden ho1; have HB1 := hidden hb1; have hz1 := hb1.size; clear ho1 hb1))
                      go_ret3
                      exact ⟨_, [], rfl, OwI.nil _ _, HB.out.trans ((HB1.out.mono HB.out.size).trans ((Below.refl _ _).alloc (by have := HB.out.size; omega) _))⟩
                · rw [if_neg (by omega)] at hx
                  have k7 : (c - 16 == 7) = false := by simp; omega
                  have HRI := hidden (readItem_any hV hT (fun p d => rdL V l M p d 0) (some ⟨b, off, none⟩) n cap l (p + 1) (c - 16) d wr (hT Ht.out HB.out) (Hs.out.on (Nat.le_refl _) HB.out) (by omega) hd (fun h7 u hu hsu => readItems_all hV hT (some ⟨b, off, none⟩) n cap l K M (by omega) (p + 1) (d + 1) u hu hsu (by omega) (by omega) (by omega)))
                  have hxo := rdX_ok V (fun p d => rdL V l M p d 0) l (p + 1) (c - 16) d HW.out (by omega) (fun _ => (rdL_ok V l HW.out (by omega) M (p + 1) (d + 1) 0 (by omega) (by omega) (by omega)).1)
                  rw [show ((p + 1 : Nat) : Int) = (p : Int) + 1 by omega] at HRI
                  generalize rdX V (fun p d => rdL V l M p d 0) l (p + 1) (c - 16) d = x at *
                  obtain ⟨⟨xn, xt, xs⟩, xq, xe⟩ := x
                  simp only at hx
                  obtain ⟨x1, x2, x3, x4, x5, x6⟩ := hxo
                  simp only at x1 x2 x3 x4 x5 x6
                  by_cases hxe : xe = 0
                  · subst hxe
                    rw [if_neg (by simp), fin_step] at hx
                    obtain ⟨hq1, hq2⟩ := x5 rfl
                    obtain ⟨q, rfl⟩ : ∃ q : Nat, xq = (q : Int) := ⟨xq.toNat, by omega⟩
                    rw [Int.toNat_natCast] at hx
                    have HX := hidden hx
                    have HXS := hidden x3
                    have hsz := HB.out.size
                    obtain ⟨ys, F1, hrow, how, hFe, hnd⟩ := HO.out
                    have HR := hidden hrow
                    have HOW := hidden how
                    have HLT := hidden HO.out.lt
                    have HFE := hidden hFe
                    have HND := hidden hnd
                    clear hx x1 x2 x3 x4 x5 x6 hrow how hFe hnd
                    go_wp2_with (first | (go_at_call 26; refine same_call (isKind_yes _ _ (by omega)) ?_) | (go_at_call 27; refine HRI.out.mono ?_; rintro e w1 ⟨s1, m1, c1, G, rfl, ho1, hb1⟩; have HO1 := hidden ho1; have HB1 := hidden hb1; have hz1 := hb1.size; clear ho1 hb1) | (at_builtin; refine app_item _ rfl _ _ rfl w.heap.size acc.len ys _ _ _ _ _ _ rfl rfl (((row_keep HR.out (fun g hg => HB1.out.block g (row_lt HR.out hg).2)).alloc _).alloc _) (heap_new _ _ _ (by simp)) (one4 _ _ _ _ _ _) (by omega) (by simp; omega) ?_))
                    intro v4 w4 ho4 hg4
                    obtain ⟨F', ho⟩ := ow_step HOW.out HFE.out HND.out HLT.out HB1.out HO1.out (((Below.refl _ _).alloc (Nat.le_refl _) _).alloc (by simp) _) hsz ho4 hg4
                    have R4 : Below w.heap.size w w4 := HB.out.trans ((HB1.out.mono hsz).trans ((((Below.refl _ _).alloc (by omega) _).alloc (by simp; omega) _).trans (own_below (((row_keep HR.out (fun g hg => HB1.out.block g (row_lt HR.out hg).2)).alloc _).alloc _) (by simp; omega) hg4.grow)))
                    obtain ⟨so4, c4, rfl⟩ := ho.form'
                    have HO4 := hidden ho
                    have HR4 := hidden R4
                    clear ho R4 ho4 hg4
                    go_wp2
                    go_roundw
                    case rel => exact ⟨q, acc.snoc (c - 16) xn xt xs, M, F', so4, c4, by omega, rfl, rfl, by omega, by omega, by rw [Its.snoc_len]; omega, HO4, HR4, by rw [Its.snoc_len]; exact HX⟩
                    case measure => simp [intOf]; omega
                  · rw [if_pos hxe] at hx
                    have hx2 : X = (.nil, 0, xe) := by rw [hx]; unfold fin; rw [if_pos hxe]
                    subst hx2
                    have hxb : (xe == 0) = false := by simp [hxe]
                    clear hx x1 x2 x3 x4 x5 x6
                    go_wp2_with (first | (go_at_call 26; refine same_call (isKind_yes _ _ (by omega)) ?_) | (go_at_call 27; refine HRI.out.mono ?_; rintro e w1 ⟨s1, m1, c1, G, rfl, ho1, hb1⟩; have HO1 := hidden ho1; have HB1 := hidden hb1; have hz1 := hb1.size; clear ho1 hb1))
                    go_ret3
                    exact ⟨_, [], rfl, OwI.nil _ _, HB.out.trans ((HB1.out.mono HB.out.size).trans ((Below.refl _ _).alloc (by have := HB.out.size; omega) _))⟩

        · have hdb : decide (0 < d) = false := by simp [hd0]
          rw [if_neg (by omega)] at hx
          by_cases hk : c < 16 ∨ 23 < c
          · rw [if_pos hk] at hx
            have hx2 : X = (.nil, 0, 21) := hx
            subst hx2
            clear hx
            go_wp2_with (first | (go_at_call 26; refine same_call (isKind_no _ _ (by omega)) ?_))
            go_ret3
            exact ⟨_, [], rfl, OwI.nil _ _, HB.out⟩
          · rw [if_neg hk] at hx
            by_cases h64 : acc.len = 64
            · rw [if_pos (.inl h64)] at hx
              have hx2 : X = (.nil, 0, 22) := hx
              subst hx2
              clear hx
              have l64 : ((acc.len : Int) == 64) = true := by simp; omega
              go_wp2_with (first | (go_at_call 26; refine same_call (isKind_yes _ _ (by omega)) ?_))
              go_ret3
              exact ⟨_, [], rfl, OwI.nil _ _, HB.out⟩
            · have l64 : ((acc.len : Int) == 64) = false := by simp; omega
              by_cases hc7 : c = 23
              · subst hc7
                by_cases hd6 : d = 16
                · subst hd6
                  rw [if_pos (.inr ⟨rfl, rfl⟩)] at hx
                  have hx2 : X = (.nil, 0, 22) := hx
                  subst hx2
                  clear hx
                  go_wp2_with (first | (go_at_call 26; refine same_call (isKind_yes _ _ (by omega)) ?_))
                  go_ret3
                  exact ⟨_, [], rfl, OwI.nil _ _, HB.out⟩
                · rw [if_neg (by omega)] at hx
                  have d16 : (d == 16) = false := by simp [hd6]
                  rw [show (23 : Int) - 16 = 7 from rfl] at hx
                  have HRI := hidden (readItem_any hV hT (fun p d => rdL V l M p d 0) (some ⟨b, off, none⟩) n cap l (p + 1) (7) d wr (hT Ht.out HB.out) (Hs.out.on (Nat.le_refl _) HB.out) (by omega) hd (fun h7 u hu hsu => readItems_all hV hT (some ⟨b, off, none⟩) n cap l K M (by omega) (p + 1) (d + 1) u hu hsu (by omega) (by omega) (by omega)))
                  have hxo := rdX_ok V (fun p d => rdL V l M p d 0) l (p + 1) (7) d HW.out (by omega) (fun _ => (rdL_ok V l HW.out (by omega) M (p + 1) (d + 1) 0 (by omega) (by omega) (by omega)).1)
                  rw [show ((p + 1 : Nat) : Int) = (p : Int) + 1 by omega] at HRI
                  generalize rdX V (fun p d => rdL V l M p d 0) l (p + 1) (7) d = x at *
                  obtain ⟨⟨xn, xt, xs⟩, xq, xe⟩ := x
                  simp only at hx
                  obtain ⟨x1, x2, x3, x4, x5, x6⟩ := hxo
                  simp only at x1 x2 x3 x4 x5 x6
                  by_cases hxe : xe = 0
                  · subst hxe
                    rw [if_neg (by simp), fin_step] at hx
                    obtain ⟨hq1, hq2⟩ := x5 rfl
                    obtain ⟨q, rfl⟩ : ∃ q : Nat, xq = (q : Int) := ⟨xq.toNat, by omega⟩
                    rw [Int.toNat_natCast] at hx
                    have HX := hidden hx
                    have HXS := hidden x3
                    have hsz := HB.out.size
                    obtain ⟨ys, F1, hrow, how, hFe, hnd⟩ := HO.out
                    have HR := hidden hrow
                    have HOW := hidden how
                    have HLT := hidden HO.out.lt
                    have HFE := hidden hFe
                    have HND := hidden hnd
                    clear hx x1 x2 x3 x4 x5 x6 hrow how hFe hnd
                    go_wp2_with (first | (go_at_call 26; refine same_call (isKind_yes _ _ (by omega)) ?_) | (go_at_call 27; refine HRI.out.mono ?_; rintro e w1 ⟨s1, m1, c1, G, rfl, ho1, hb1⟩; have HO1 := hidden ho1; have HB1 := hidden hb1; have hz1 := hb1.size; clear ho1 hb1) | (at_builtin; refine app_item _ rfl _ _ rfl w.heap.size acc.len ys _ _ _ _ _ _ rfl rfl (((row_keep HR.out (fun g hg => HB1.out.block g (row_lt HR.out hg).2)).alloc _).alloc _) (heap_new _ _ _ (by simp)) (one4 _ _ _ _ _ _) (by omega) (by simp; omega) ?_))
                    intro v4 w4 ho4 hg4
                    obtain ⟨F', ho⟩ := ow_step HOW.out HFE.out HND.out HLT.out HB1.out HO1.out (((Below.refl _ _).alloc (Nat.le_refl _) _).alloc (by simp) _) hsz ho4 hg4
                    have R4 : Below w.heap.size w w4 := HB.out.trans ((HB1.out.mono hsz).trans ((((Below.refl _ _).alloc (by omega) _).alloc (by simp; omega) _).trans (own_below (((row_keep HR.out (fun g hg => HB1.out.block g (row_lt HR.out hg).2)).alloc _).alloc _) (by simp; omega) hg4.grow)))
                    obtain ⟨so4, c4, rfl⟩ := ho.form'
                    have HO4 := hidden ho
                    have HR4 := hidden R4
                    clear ho R4 ho4 hg4
                    go_wp2
                    go_roundw
                    case rel => exact ⟨q, acc.snoc (7) xn xt xs, M, F', so4, c4, by omega, rfl, rfl, by omega, by omega, by rw [Its.snoc_len]; omega, HO4, HR4, by rw [Its.snoc_len]; exact HX⟩
                    case measure => simp [intOf]; omega
                  · rw [if_pos hxe] at hx
                    have hx2 : X = (.nil, 0, xe) := by rw [hx]; unfold fin; rw [if_pos hxe]
                    subst hx2
                    have hxb : (xe == 0) = false := by simp [hxe]
                    clear hx x1 x2 x3 x4 x5 x6
                    go_wp2_with (first | (go_at_call 26; refine same_call (isKind_yes _ _ (by omega)) ?_) | (go_at_call 27; refine HRI.out.mono ?_; rintro e w1 ⟨s1, m1, c1, G, rfl, ho1, hb1⟩; have HO1 := hidden ho1; have HB1 := hidden hb1; have hz1 := hb1.size; clear ho1 hb1))
                    go_ret3
                    exact ⟨_, [], rfl, OwI.nil _ _, HB.out.trans ((HB1.out.mono HB.out.size).trans ((Below.refl _ _).alloc (by have := HB.out.size; omega) _))⟩
              · rw [if_neg (by omega)] at hx
                have k7 : (c - 16 == 7) = false := by simp; omega
                have HRI := hidden (readItem_any hV hT (fun p d => rdL V l M p d 0) (some ⟨b, off, none⟩) n cap l (p + 1) (c - 16) d wr (hT Ht.out HB.out) (Hs.out.on (Nat.le_refl _) HB.out) (by omega) hd (fun h7 u hu hsu => readItems_all hV hT (some ⟨b, off, none⟩) n cap l K M (by omega) (p + 1) (d + 1) u hu hsu (by omega) (by omega) (by omega)))
                have hxo := rdX_ok V (fun p d => rdL V l M p d 0) l (p + 1) (c - 16) d HW.out (by omega) (fun _ => (rdL_ok V l HW.out (by omega) M (p + 1) (d + 1) 0 (by omega) (by omega) (by omega)).1)
                rw [show ((p + 1 : Nat) : Int) = (p : Int) + 1 by omega] at HRI
                generalize rdX V (fun p d => rdL V l M p d 0) l (p + 1) (c - 16) d = x at *
                obtain ⟨⟨xn, xt, xs⟩, xq, xe⟩ := x
                simp only at hx
                obtain ⟨x1, x2, x3, x4, x5, x6⟩ := hxo
                simp only at x1 x2 x3 x4 x5 x6
                by_cases hxe : xe = 0
                · subst hxe
                  rw [if_neg (by simp), fin_step] at hx
                  obtain ⟨hq1, hq2⟩ := x5 rfl
                  obtain ⟨q, rfl⟩ : ∃ q : Nat, xq = (q : Int) := ⟨xq.toNat, by omega⟩
                  rw [Int.toNat_natCast] at hx
                  have HX := hidden hx
                  have HXS := hidden x3
                  have hsz := HB.out.size
                  obtain ⟨ys, F1, hrow, how, hFe, hnd⟩ := HO.out
                  have HR := hidden hrow
                  have HOW := hidden how
                  have HLT := hidden HO.out.lt
                  have HFE := hidden hFe
                  have HND := hidden hnd
                  clear hx x1 x2 x3 x4 x5 x6 hrow how hFe hnd
                  go_wp2_with (first | (go_at_call 26; refine same_call (isKind_yes _ _ (by omega)) ?_) | (go_at_call 27; refine HRI.out.mono ?_; rintro e w1 ⟨s1, m1, c1, G, rfl, ho1, hb1⟩; have HO1 := hidden ho1; have HB1 := hidden hb1; have hz1 := hb1.size; clear ho1 hb1) | (at_builtin; refine app_item _ rfl _ _ rfl w.heap.size acc.len ys _ _ _ _ _ _ rfl rfl (((row_keep HR.out (fun g hg => HB1.out.block g (row_lt HR.out hg).2)).alloc _).alloc _) (heap_new _ _ _ (by simp)) (one4 _ _ _ _ _ _) (by omega) (by simp; omega) ?_))
                  intro v4 w4 ho4 hg4
                  obtain ⟨F', ho⟩ := ow_step HOW.out HFE.out HND.out HLT.out HB1.out HO1.out (((Below.refl _ _).alloc (Nat.le_refl _) _).alloc (by simp) _) hsz ho4 hg4
                  have R4 : Below w.heap.size w w4 := HB.out.trans ((HB1.out.mono hsz).trans ((((Below.refl _ _).alloc (by omega) _).alloc (by simp; omega) _).trans (own_below (((row_keep HR.out (fun g hg => HB1.out.block g (row_lt HR.out hg).2)).alloc _).alloc _) (by simp; omega) hg4.grow)))
                  obtain ⟨so4, c4, rfl⟩ := ho.form'
                  have HO4 := hidden ho
                  have HR4 := hidden R4
                  clear ho R4 ho4 hg4
                  go_wp2
                  go_roundw
                  case rel => exact ⟨q, acc.snoc (c - 16) xn xt xs, M, F', so4, c4, by omega, rfl, rfl, by omega, by omega, by rw [Its.snoc_len]; omega, HO4, HR4, by rw [Its.snoc_len]; exact HX⟩
                  case measure => simp [intOf]; omega
                · rw [if_pos hxe] at hx
                  have hx2 : X = (.nil, 0, xe) := by rw [hx]; unfold fin; rw [if_pos hxe]
                  subst hx2
                  have hxb : (xe == 0) = false := by simp [hxe]
                  clear hx x1 x2 x3 x4 x5 x6
                  go_wp2_with (first | (go_at_call 26; refine same_call (isKind_yes _ _ (by omega)) ?_) | (go_at_call 27; refine HRI.out.mono ?_; rintro e w1 ⟨s1, m1, c1, G, rfl, ho1, hb1⟩; have HO1 := hidden ho1; have HB1 := hidden hb1; have hz1 := hb1.size; clear ho1 hb1))
                  go_ret3
                  exact ⟨_, [], rfl, OwI.nil _ _, HB.out.trans ((HB1.out.mono HB.out.size).trans ((Below.refl _ _).alloc (by have := HB.out.size; omega) _))⟩
      · obtain rfl : p = n := by omega
        rw [if_pos (Nat.le_refl _)] at hx
        have hpI : ¬ (p : Int) < (p : Int) := by omega
        by_cases hd0 : 0 < d
        · rw [if_pos hd0] at hx
          have hx2 : X = (.nil, 0, 21) := hx
          subst hx2
          clear hx
          go_wp2
          go_ret3
          exact ⟨_, [], rfl, OwI.nil _ _, HB.out⟩
        · rw [if_neg hd0] at hx
          have hx2 : X = (acc, (p : Int), 0) := by rw [hx]; unfold fin; simp [Its.app_nil]
          subst hx2
          clear hx
          go_wp2
          go_ret3
          exact ⟨_, F, rfl, HO.out, HB.out⟩
end Go.Proofs.YtpiijmionafmcaaGreatDoor
