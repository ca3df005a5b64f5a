import Derived.Test.YtofafbmpbkjhnaaGreatDoorJ27
namespace Go.Proofs.YtofafbmpbkjhnaaGreatDoor
set_option maxRecDepth 100000
open Go.RowKit
theorem SlE.wf {w : World} {G : Nat} {ao : Option Addr} {n cap : Nat} {cs : List Cl} (h : SlE w G ao n cap cs) : ∀ c ∈ cs, c.Wf := by
 intro c hc
 obtain ⟨i, hi, e⟩ := List.getElem_of_mem hc
 rcases h.hat with h0 | ⟨b, off, _, _, hcs⟩
 ·have := h.hlen; omega
 ·obtain ⟨_, _, _, _, _, _, _, _, _, h1, key, _, _, _, _, _, _, s1, s2, s3, e2, _⟩ := hcs i c (by rw [zI hi, e])
  exact ⟨by rw [← e2]; exact s1.wf.append s2.wf, s3.wf⟩
def Ld (w : World) (b : Nat) (k : Int) (n : Nat) (cs : List Cl) : Prop :=
 ∃ po pn pc bo bn bc so sn sc, PgQ w b k n po pn pc bo bn bc so sn sc 0 (shP k cs) (qbd (shP k cs).length (whl k) cs) (qst (shP k cs).length (whl k) 0 cs)
theorem LaidTo.ld {k : Int} {n : Nat} {cs : List Cl} {w w' : World} {e : Ending} (h : LaidTo k n cs w e w') (hwf : ∀ c ∈ cs, c.Wf) (hf : ∀ c ∈ cs, c.fit) (hm : cs.length ≤ 65536) (hz : (qbd (shP k cs).length (whl k) cs).length ≤ 1099511627776) :
  ∃ b, e = .returned (.pointer (some ⟨b, 0, none⟩)) ∧ Hid (Ld w' b k n cs) ∧ Hid (Below w.heap.size w w') ∧ Hid (w.heap.size ≤ b) := by
 obtain ⟨w1, a, po, pn, pc, vb, vs, rfl, HL, HP, HB, _⟩ := h
 have hb := HL.out.be
 obtain ⟨bo, bc, so, sc, rfl, rfl, hpg⟩ := HL.out.pg (HP.out.on Lr hb) (qbd_wf _ _ _ fun c hc => ⟨hwf c hc, hf c hc⟩) (by omega) (by rw [zcn]; omega)
 exact ⟨a, rfl, zaa ⟨po, pn, pc, bo, _, bc, so, _, sc, hpg⟩, zaa (zab HB.out Lr hb), zaa (zN HB.out.size HL.out.ha)⟩
theorem written_ld {w : World} {b : Nat} {k : Int} {n : Nat} {cs : List Cl} (h : Ld w b k n cs) (hk : isKd k) (hn : pw n) (hfit : szQ k (shP k cs).length cs ≤ n) (ht : Tab w) (h0 : 1 < w.heap.size) :
  Calls Tryz.prog 158 #[.pointer (some ⟨b, 0, none⟩)] w fun e w' => ∃ g, e = .returned (.slice (some ⟨g, 0, none⟩) n n) ∧ w.heap.size ≤ g ∧ Hid (Bk w' g (pkB k n cs)) ∧ Hid (Below w.heap.size w w') := by
 obtain ⟨po, pn, pc, bo, bn, bc, so, sn, sc, hpg⟩ := h
 have hz := szQ_eq k (shP k cs).length cs
 have hn2 := zak hn
 have := written_any w b k n po pn pc bo bn bc so sn sc 0 _ _ _ hpg hk (by omega) (by rw [zcn]; omega) (fun s hs => by have := qst_le _ _ _ _ s hs; omega) ht h0
 rw [wrL_laid] at this
 exact this
end Go.Proofs.YtofafbmpbkjhnaaGreatDoor
