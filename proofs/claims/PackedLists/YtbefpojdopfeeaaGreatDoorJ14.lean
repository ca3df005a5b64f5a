/- packed.Page.entries: rows of entries. -/
import Derived.Test.YtbefpojdopfeeaaGreatDoorJ13
namespace Go.Proofs.YtbefpojdopfeeaaGreatDoor
open Go.RowKit

/-- An entry that lies in a row; what it holds lies below G. -/
def EAt (w : World) (G b off : Nat) (c : Cl) : Prop :=
  ∃ ho hn hc ko kn kc vo vn vc h key, w.cell? ⟨b, off, none⟩ = some (.slice ho hn hc) ∧ w.cell? ⟨b, off + 1, none⟩ = some (.slice ko kn kc) ∧ w.cell? ⟨b, off + 2, none⟩ = some (.int .i64 c.kd) ∧ w.cell? ⟨b, off + 3, none⟩ = some (.slice vo vn vc) ∧ w.cell? ⟨b, off + 4, none⟩ = some (.int .i64 c.pg) ∧ w.cell? ⟨b, off + 5, none⟩ = some (.int .i64 c.ct) ∧
    Sl w ho hn hc h ∧ Sl w ko kn kc key ∧ Sl w vo vn vc c.val ∧ h ++ key = c.key ∧ Lo G ho hn ∧ Lo G ko kn ∧ Lo G vo vn
/-- THE SLICE VALUE READS AS ENTRIES OF THE CELLS cs. -/
structure SlE (w : World) (G : Nat) (ao : Option Addr) (n cap : Nat) (cs : List Cl) : Prop where
  hlen : cs.length = n
  hcap : n ≤ cap
  hroom : n ≤ 140737488355328
  hnil : ao = none → cap = 0
  hat : n = 0 ∨ ∃ b off, ao = some ⟨b, off, none⟩ ∧ b < w.heap.size ∧ ∀ i c, cs[i]? = some c → EAt w G b (off + i * 6) c
set_option maxRecDepth 100000 in
theorem EAt.on {w w' : World} {G b off : Nat} {c : Cl} (h : EAt w G b off c) (hb : b < w.heap.size) (hB : Below w.heap.size w w') : EAt w' G b off c := by
  obtain ⟨ho, hn, hc, ko, kn, kc, vo, vn, vc, h', key, h0, h1, h2, h3, h4, h5, s1, s2, s3, r⟩ := h
  exact ⟨ho, hn, hc, ko, kn, kc, vo, vn, vc, h', key, (hB.cell (p := ⟨b, off, none⟩) hb).trans h0, (hB.cell (p := ⟨b, off + 1, none⟩) hb).trans h1, (hB.cell (p := ⟨b, off + 2, none⟩) hb).trans h2, (hB.cell (p := ⟨b, off + 3, none⟩) hb).trans h3, (hB.cell (p := ⟨b, off + 4, none⟩) hb).trans h4, (hB.cell (p := ⟨b, off + 5, none⟩) hb).trans h5, s1.on (Nat.le_refl _) hB, s2.on (Nat.le_refl _) hB, s3.on (Nat.le_refl _) hB, r⟩
set_option maxRecDepth 100000 in
theorem SlE.on {w w' : World} {G : Nat} {ao : Option Addr} {n cap : Nat} {cs : List Cl} (h : SlE w G ao n cap cs) (hB : Below w.heap.size w w') : SlE w' G ao n cap cs := by
  refine ⟨h.hlen, h.hcap, h.hroom, h.hnil, ?_⟩
  rcases h.hat with h0 | ⟨b, off, e, hb, hc⟩
  · exact .inl h0
  · exact .inr ⟨b, off, e, Nat.lt_of_lt_of_le hb hB.size, fun i c hi => (hc i c hi).on hb hB⟩
/-- A block of so many entries. -/
def RowEq (w : World) (b N : Nat) : Prop := ∃ cur : Array Value, w.heap[b]? = some (.cells cur 78 (0, 0)) ∧ cur.size = 6 * N
set_option maxRecDepth 100000 in
theorem RowEq.cell {w : World} {b N : Nat} (h : RowEq w b N) (j : Nat) (hj : j < 6 * N) : (w.cell? ⟨b, j, none⟩).isSome = true := by
  obtain ⟨cur, h1, h2⟩ := h
  simp [World.cell?, h1, h2, hj]
set_option maxRecDepth 100000 in
theorem RowEq.free {w : World} {b N : Nat} (h : RowEq w b N) (j : Nat) : w.frozen? ⟨b, j, none⟩ = false := by
  obtain ⟨cur, h1, h2⟩ := h
  simp [World.frozen?, h1]
set_option maxRecDepth 100000 in
theorem RowEq.lt {w : World} {b N : Nat} (h : RowEq w b N) : b < w.heap.size := by
  obtain ⟨cur, h1, _⟩ := h
  exact lt_some h1
set_option maxRecDepth 100000 in
theorem RowEq.on {w w' : World} {b N : Nat} (h : RowEq w b N) (hb : Below w.heap.size w w') : RowEq w' b N := by
  obtain ⟨cur, h1, h2⟩ := h
  exact ⟨cur, box_on h1 hb, h2⟩
set_option maxRecDepth 100000 in
theorem RowEq.set {w : World} {b N : Nat} (h : RowEq w b N) (j : Nat) (v : Value) : RowEq (w.setCell ⟨b, j, none⟩ v) b N := by
  obtain ⟨cur, h1, h2⟩ := h
  exact ⟨_, heap_setCell_same w b j cur _ v h1, by simp [h2]⟩
set_option maxRecDepth 100000 in
theorem RowEq.sets {b N : Nat} : ∀ (vs : List Value) (j : Nat) (w : World), RowEq w b N → RowEq (w.setCells b j vs) b N
  | [], _, _, h => h
  | v :: r, j, _, h => RowEq.sets r (j + 1) _ (h.set j v)
set_option maxRecDepth 100000 in
theorem RowEq.there {w : World} {b N : Nat} (h : RowEq w b N) {j : Nat} (hj : j + 6 ≤ 6 * N) : w.there b j 6 := fun i hi => ⟨h.cell (j + i) (by omega), h.free _⟩
set_option maxRecDepth 100000 in
theorem oneCell6 (ho ko vo : Option Addr) (hn hc kn kc vn vc : Nat) (kd pg ct : Int) : (#[.slice ho hn hc, .slice ko kn kc, .int .i64 kd, .slice vo vn vc, .int .i64 pg, .int .i64 ct] : Array Value).all (·.oneCell') = true :=
  all_oneCell_toArray (cs := [.slice ho hn hc, .slice ko kn kc, .int .i64 kd, .slice vo vn vc, .int .i64 pg, .int .i64 ct]) (by simp [Value.oneCell'])
set_option maxRecDepth 100000 in
/-- The store of an entry into a row. -/
theorem put_entry {ops : Array Oper} {rest : List Oper} {o : Oper} {a : Act} {w : World} {Q : Exit → Act → World → Prop} (hgd : o.guard = none) (p v : Operand)
    (hop : o.op = .store 78 p v) (b j N : Nat) (ho ko vo : Option Addr) (hn hc kn kc vn vc : Nat) (kd pg ct : Int) (hr : RowEq w b N) (hp : a.eval p = .pointer (some ⟨b, j, none⟩)) (hv : a.eval v = .agg #[.slice ho hn hc, .slice ko kn kc, .int .i64 kd, .slice vo vn vc, .int .i64 pg, .int .i64 ct]) (hj : j + 6 ≤ 6 * N)
    (h : ∀ u, Hid (u = w.setCells b j [.slice ho hn hc, .slice ko kn kc, .int .i64 kd, .slice vo vn vc, .int .i64 pg, .int .i64 ct]) → wpList Tryz.prog ops Q rest (a.put o.dst undef) u) : wpList Tryz.prog ops Q (o :: rest) a w :=
  wpList_store_mid hgd _ p v hop b j #[.slice ho hn hc, .slice ko kn kc, .int .i64 kd, .slice vo vn vc, .int .i64 pg, .int .i64 ct] hp hv (hr.there hj) sizeEnt (oneCell6 ..) (h _ (hidden rfl))
set_option maxRecDepth 100000 in
theorem Sl.sets {w : World} {ao : Option Addr} {n cap G b j : Nat} {l : List Int} {vs : List Value} (h : Sl w ao n cap l) (hlo : Lo G ao n) (hG : G ≤ b) : Sl (w.setCells b j vs) ao n cap l := by
  refine ⟨h.hlen, h.hcap, h.hroom, h.wf, h.hnil, ?_⟩
  rcases h.hat with h0 | ⟨q, off, e, hlt, hc⟩
  · exact .inl h0
  · rcases hlo with h0 | hlo
    · exact .inl h0
    · have hq := hlo _ e
      simp only at hq
      have hblk : (w.setCells b j vs).heap[q]? = w.heap[q]? := World.heap_setCells_other _ _ _ _ hlt (by omega)
      refine .inr ⟨q, off, e, lt_some (hblk.trans (Array.getElem?_eq_getElem hlt)), fun i hi => ?_⟩
      rw [← hc i hi]
      exact World.cell?_of_block hblk
set_option maxRecDepth 100000 in
theorem EAt.put {w : World} {G b i j : Nat} {c : Cl} {vs : List Value} (h : EAt w G b (i * 6) c) (hG : G ≤ b) (hij : i < j) : EAt (w.setCells b (j * 6) vs) G b (i * 6) c := by
  obtain ⟨ho, hn, hc, ko, kn, kc, vo, vn, vc, h', key, h0, h1, h2, h3, h4, h5, s1, s2, s3, e, l1, l2, l3⟩ := h
  have hout : ∀ d, d < 6 → (w.setCells b (j * 6) vs).cell? ⟨b, i * 6 + d, none⟩ = w.cell? ⟨b, i * 6 + d, none⟩ := fun d hd => World.cell?_setCells_out b _ _ w _ (fun _ _ => .inl (by simp only; omega))
  exact ⟨ho, hn, hc, ko, kn, kc, vo, vn, vc, h', key, (hout 0 (by omega)).trans h0, (hout 1 (by omega)).trans h1, (hout 2 (by omega)).trans h2, (hout 3 (by omega)).trans h3, (hout 4 (by omega)).trans h4, (hout 5 (by omega)).trans h5, s1.sets l1 hG, s2.sets l2 hG, s3.sets l3 hG, e, l1, l2, l3⟩
set_option maxRecDepth 100000 in
theorem EAt.new {w : World} {G b N j : Nat} {c : Cl} {ho ko vo : Option Addr} {hn hc kn kc vn vc : Nat} {h key : List Int} (hr : RowEq w b N) (hj : j * 6 + 6 ≤ 6 * N) (hG : G ≤ b) (s1 : Sl w ho hn hc h) (s2 : Sl w ko kn kc key) (s3 : Sl w vo vn vc c.val) (e : h ++ key = c.key) (l1 : Lo G ho hn) (l2 : Lo G ko kn) (l3 : Lo G vo vn) :
    EAt (w.setCells b (j * 6) [.slice ho hn hc, .slice ko kn kc, .int .i64 c.kd, .slice vo vn vc, .int .i64 c.pg, .int .i64 c.ct]) G b (j * 6) c := by
  have h' := World.rangeAt_setCells_same w b (j * 6) [.slice ho hn hc, .slice ko kn kc, .int .i64 c.kd, .slice vo vn vc, .int .i64 c.pg, .int .i64 c.ct] (hr.there hj)
  exact ⟨ho, hn, hc, ko, kn, kc, vo, vn, vc, h, key, h' 0 _ rfl, h' 1 _ rfl, h' 2 _ rfl, h' 3 _ rfl, h' 4 _ rfl, h' 5 _ rfl, s1.sets l1 hG, s2.sets l2 hG, s3.sets l3 hG, e, l1, l2, l3⟩
set_option maxRecDepth 100000 in
theorem Lo.mono {G H : Nat} {ao : Option Addr} {n : Nat} (h : Lo G ao n) (hG : G ≤ H) : Lo H ao n := by
  rcases h with h0 | h
  · exact .inl h0
  · exact .inr fun q hq => Nat.lt_of_lt_of_le (h q hq) hG
set_option maxRecDepth 100000 in
theorem infoE : (Tryz.prog.info? 78).map (fun i => (i.zero, i.size, i.bytes)) = some (some (.agg #[.slice none 0 0, .slice none 0 0, .int .i64 0, .slice none 0 0, .int .i64 0, .int .i64 0]), 6, 96) := by kernel_rfl
set_option maxRecDepth 100000 in
theorem qlen_any (w : World) (a : Nat) (k : Int) (n : Nat) (po : Option Addr) (pn pc : Nat) (bo : Option Addr) (bn bc : Nat) (so : Option Addr) (sn sc : Nat) (ws : Int) (P body : List Int) (st : List Nat) (h : PgQ w a k n po pn pc bo bn bc so sn sc ws P body st) :
    Calls Tryz.prog 26 #[.pointer (some ⟨a, 0, none⟩)] w fun e w' => e = .returned (.int .i64 (sn : Int)) ∧ w' = w := by
  obtain ⟨c0, c1, c2, c3, c4, c5⟩ := h.cells
  clear h
  go_enter Tryz.func26, Tryz.ntmps26
  go_wp2
  go_ret
  exact ⟨rfl, rfl⟩
set_option maxRecDepth 100000 in
set_option maxHeartbeats 2000000 in
theorem entries_any (w : World) (a : Nat) (k : Int) (n : Nat) (po : Option Addr) (pn pc : Nat) (bo : Option Addr) (bn bc : Nat) (so : Option Addr) (sn sc : Nat) (ws : Int) (P body : List Int) (st : List Nat) (cs : List Cl) (h : PgQ w a k n po pn pc bo bn bc so sn sc ws P body st) (hl : LayQ k P cs body st) (hsz : sn ≤ 65536) :
    Calls Tryz.prog 47 #[.pointer (some ⟨a, 0, none⟩)] w fun e w' => ∃ g, e = .returned (.slice (some ⟨g, 0, none⟩) sn sn) ∧ Hid (SlE w' g (some ⟨g, 0, none⟩) sn sn cs) ∧ Hid (Below w.heap.size w w' ∧ w.heap.size ≤ g ∧ g < w'.heap.size) := by
  obtain ⟨ic, hic, hz0, hz1, hz2⟩ := info_parts infoE
  have HPG := hidden h
  have HL := hidden hl
  have HSN : Hid (sn = cs.length) := hidden (by rw [← hl.len, h.starts.hlen])
  have HLN := hidden (qlen_any w a k n po pn pc bo bn bc so sn sc ws P body st h)
  clear h hl
  go_enter Tryz.func47, Tryz.ntmps47
  go_wp2_with (first
    | (go_at_call 26; refine same_call HLN.out ?_)
    | (at_make; refine wpList_make_full _ rfl _ _ 75 rfl w.heap.size 78 ic _ 6 Tryz.underlying75 hic hz0 hz1 .i64 .i64 sn sn sn rfl rfl rfl rfl (by rw [hz2]; omega) (by unfold maxLen; omega) (Nat.le_refl _) ?_; refine Hid.out ?_))
  apply hidden
  intro w2 ho2 hg2
  have hb2 : Below w.heap.size w w2 := (Below.refl _ _).grown hg2 (Nat.le_refl _) (fun k hk => by cases hk)
  obtain ⟨g, hg⟩ : ∃ g, w.heap.size = g := ⟨_, rfl⟩
  have HRW : Hid (RowEq w2 g sn) := by
    rcases ho2.2 with ⟨h, _⟩ | ⟨q, c, cur, h, _, hh, _, _, hss, _⟩
    · cases h
    · cases h
      rw [← hg]
      exact hidden ⟨cur, hh, by rw [hss]; omega⟩
  have hgs : Below g w w2 := by rw [← hg]; exact hb2
  have HGS := hidden hgs
  have HGW := hidden hg
  have HLO : Hid (Lo g po pn ∧ Lo g bo bn) := hidden (by rw [← hg]; exact ⟨HPG.out.pre.lo, HPG.out.body.lo⟩)
  rw [hg]
  clear ho2 hg2 hb2 HLN hgs
  go_wp2_with fail
  go_loopw [10] (fun i wr => ∃ j : Nat, j ≤ sn ∧ i = .int .i64 j ∧ Hid (RowEq wr g sn) ∧ Hid (Below g w wr) ∧ Hid (∀ i d, i < j → cs[i]? = some d → EAt wr g g (i * 6) d)) (fun i _ => sn - (intOf i).toNat)
  case atStart => exact ⟨0, by omega, rfl, HRW, HGS, hidden fun i d hi => by omega⟩
  case round =>
    obtain ⟨j, hj, rfl, HR, HG, HD⟩ := hrel
    have HBE : Hid (Below w.heap.size w wr) := hidden (by rw [HGW.out]; exact HG.out)
    have HPR := hidden (HPG.out.on HBE.out)
    have bj : (j : Int) ≤ 65536 := by omega
    clear HRW HGS
    by_cases hlt : j < sn
    · have hltI : (j : Int) < (sn : Int) := by omega
      obtain ⟨d, hd⟩ : ∃ d, cs[j]? = some d := ⟨_, List.getElem?_eq_getElem (by rw [← HSN.out]; exact hlt)⟩
      have HDJ := hidden hd
      have HV := hidden (pentry_any wr a k n po pn pc bo bn bc so sn sc ws P body st cs HPR.out HL.out j d hd g HLO.out.1 HLO.out.2)
      clear hd
      go_wp2_with (first | (go_at_call 61; refine HV.out.mono ?_; rintro e u1 ⟨ho, hn, hc, ko, kn, kc, vo, vn, vc, h, key, rfl, HQ, HB3⟩; refine Hid.out ?_))
      apply hidden
      have HR2 : Hid (RowEq u1 g sn) := hidden (HR.out.on HB3.out)
      have HG2 : Hid (Below g w u1) := hidden (HG.out.trans (HB3.out.mono (Nat.le_of_lt HR.out.lt)))
      clear HV
      go_wp2_with (refine put_entry (by rfl) _ _ (by rfl) g (j * 6) sn ho ko vo hn hc kn kc vn vc d.kd d.pg d.ct HR2.out (by rfl) (by rfl) (by omega) ?_; intro u3 HU3; refine Hid.out ?_)
      apply hidden
      have HR3 : Hid (RowEq u3 g sn) := hidden (by rw [HU3.out]; exact RowEq.sets _ _ _ HR2.out)
      have HG3 : Hid (Below g w u3) := hidden (by
        rw [HU3.out]
        simp only [World.setCells]
        refine (((((HG2.out.setCell ?_ _).setCell ?_ _).setCell ?_ _).setCell ?_ _).setCell ?_ _).setCell ?_ _ <;> simp)
      have HD3 : Hid (∀ i d, i < j + 1 → cs[i]? = some d → EAt u3 g g (i * 6) d) := by
        refine hidden fun i d' hi hd' => ?_
        rw [HU3.out]
        by_cases e : i = j
        · subst e
          rw [HDJ.out] at hd'
          injection hd' with hd'
          subst hd'
          obtain ⟨q1, q2, q3, q4, q5, q6, q7⟩ := HQ.out
          exact EAt.new HR2.out (by omega) (Nat.le_refl _) q1 q2 q3 q4 q5 q6 q7
        · exact ((HD.out i d' (by omega) hd').on HR.out.lt HB3.out).put (Nat.le_refl _) (by omega)
      clear HU3 HR2 HG2 HR HG HD HQ HB3 HPR
      go_wp2
      go_roundw
      case rel => exact ⟨j + 1, by omega, by go_num, HR3, HG3, HD3⟩
      case measure => simp [intOf]; omega
    · obtain rfl : j = sn := by omega
      have hlI : ¬ (j : Int) < (j : Int) := by omega
      go_wp2
      go_ret
      refine ⟨g, rfl, hidden ⟨HSN.out.symm, Nat.le_refl _, by omega, (by intro h; cases h), .inr ⟨g, 0, rfl, HR.out.lt, fun i d hd => ?_⟩⟩, hidden ⟨by first | exact HBE.out | exact HG.out, by first | exact Nat.le_refl _ | (rw [HGW.out]; exact Nat.le_refl _), HR.out.lt⟩⟩
      rw [Nat.zero_add]
      have := (List.getElem?_eq_some_iff.1 hd).1
      exact HD.out i d (by rw [HSN.out]; exact this) hd
end Go.Proofs.YtbefpojdopfeeaaGreatDoor

/- packed: New, withShort, shortAt. -/

namespace Go.Proofs.YtbefpojdopfeeaaGreatDoor
open Go.RowKit

/-- What New comes to. -/
def NewQ (k n : Int) (w : World) (e : Ending) (w' : World) : Prop :=
  ∃ po c, e = .returned (.tuple #[.pointer po, .int .i64 c]) ∧ Hid (Below w.heap.size w w') ∧ Hid ((po = none ∧ c = 1 ∧ ¬ (isKd k ∧ pw n)) ∨ (po = some ⟨w.heap.size, 0, none⟩ ∧ c = 0 ∧ isKd k ∧ pw n ∧ w'.heap[w.heap.size]? = some (.cells #[.int .i64 k, .int .i64 n, .slice none 0 0, .slice none 0 0, .slice none 0 0, .int .i64 0] 63 (0, 0))))
set_option maxRecDepth 100000 in
theorem short_fB (n : Nat) : [((n : Int) / 256) % 256, (n : Int) % 256] = fB 2 (n : Int) := by
  simp [fB]
end Go.Proofs.YtbefpojdopfeeaaGreatDoor

/- Bytes of one's own with zeros behind them; packed.withShort upon them. -/

namespace Go.Proofs.YtbefpojdopfeeaaGreatDoor
open Go.RowKit

/-- THE BLOCK g HAS ROOM FOR N BYTES: l, AND ZEROS BEHIND. -/
def OwnZ (w : World) (g N : Nat) (l : List Int) : Prop := Bk w g (l ++ zs (N - l.length)) ∧ l.length ≤ N
set_option maxRecDepth 100000 in
theorem OwnZ.on {w w' : World} {g N : Nat} {l : List Int} (h : OwnZ w g N l) (hb : Below w.heap.size w w') : OwnZ w' g N l := ⟨h.1.on hb, h.2⟩
set_option maxRecDepth 100000 in
theorem OwnZ.lt {w : World} {g N : Nat} {l : List Int} (h : OwnZ w g N l) : g < w.heap.size := lt_some h.1
set_option maxRecDepth 100000 in
theorem OwnZ.owns {w : World} {g N : Nat} {l : List Int} (h : OwnZ w g N l) (hN : N ≤ 140737488355328) : OwnB w 0 (.slice (some ⟨g, 0, none⟩) l.length N) l := by
  obtain ⟨h1, h2⟩ := h
  refine ⟨by simp [By], .inr ⟨g, N, _, rfl, Nat.zero_le _, h1, h2, by unfold maxLen; omega, ?_, ?_⟩⟩
  · simp [By, zs_length]
    omega
  · simp [By]
set_option maxRecDepth 100000 in
/-- 'append(b, x...)' where there is room. -/
theorem app_z {ops : Array Oper} {rest : List Oper} {o : Oper} {a : Act} {Q : Exit → Act → World → Prop} (w : World) (hgd : o.guard = none) (s x : Operand)
    (ho : o.op = .call { callee := .builtin .append, args := #[s, x], argTypes := #[37, 37] }) (g N : Nat) (l news : List Int) (L : Nat) (ao : Option Addr) (n c : Nat) (hL : l.length = L) (hs : a.eval s = .slice (some ⟨g, 0, none⟩) L N) (hx : a.eval x = .slice ao n c)
    (hz : OwnZ w g N l) (hsl : Sl w ao n c news) (hroom : L + n ≤ N) (hN : N ≤ 140737488355328)
    (h : ∀ w', Hid (OwnZ w' g N (l ++ news)) → Hid (Cf (· = g) w w') → wpList Tryz.prog ops Q rest (a.put o.dst (.slice (some ⟨g, 0, none⟩) (L + n) N)) w') : wpList Tryz.prog ops Q (o :: rest) a w := by
  obtain ⟨i0, hi, hz0, hz1, hz2⟩ := info_parts info5
  have hlen := hsl.hlen
  subst hL
  cases ao with
  | none =>
    have : n = 0 := by have := hsl.hnil rfl; have := hsl.hcap; omega
    subst this
    have hc0 := hsl.hnil rfl
    subst hc0
    obtain rfl : news = [] := List.eq_nil_of_length_eq_zero hlen
    exact wpList_append_own_none hgd s x 37 ho 0 5 i0 1 Tryz.underlying37 hi _ l.length (By l) hs (hz.owns hN) hx (h w (hidden (by simpa using hz)) (hidden (Cf.refl _ _)))
  | some ad =>
    refine wpList_plain hgd fun K hK => ?_
    have hr := run_append_room (P := Tryz.prog) w 37 o.type 5 i0 Tryz.underlying37 hi g l.length N _ hz.1 ad n c (By news) (by rw [hz1]; simp [By, hlen])
      (fun j u hu => by
        obtain ⟨h1, h2⟩ := getElem?_By news j u hu
        rw [h2]
        rcases hsl.hat with h0 | ⟨b, off, e, _, hc⟩
        · omega
        · injection e with e
          subst e
          rw [Addr.add_lit]
          exact hc j (by omega)) (By_one news) hroom (by rw [hz1]; simp only [By, List.length_map, List.size_toArray, List.length_append, zs_length, Nat.mul_one]; omega)
    have hfin : ∀ w', w' = w.setRow g ((By (l ++ zs (N - l.length))).toArray.toList.take (l.length * i0.size) ++ By news ++ (By (l ++ zs (N - l.length))).toArray.toList.drop (l.length * i0.size + (By news).length)).toArray → Hid (OwnZ w' g N (l ++ news)) ∧ Hid (Cf (· = g) w w') := by
      rintro w' rfl
      refine ⟨hidden ⟨?_, by rw [List.length_append]; omega⟩, hidden ⟨rfl, rfl, rfl, by simp, fun k _ hk => setRow_other w g k _ hk⟩⟩
      unfold Bk
      rw [setRow_heap w g _ _ 5 _ hz.1]
      congr 3
      rw [hz1, Nat.mul_one]
      have e1 : (By (l ++ zs (N - l.length))).take l.length = By l := by simp [By]
      have e2 : (By (l ++ zs (N - l.length))).drop (l.length + news.length) = By (zs (N - (l ++ news).length)) := by
        simp only [By, List.map_append, List.length_append]
        rw [← List.drop_drop, List.drop_left' (by simp)]
        simp only [zs, List.map_replicate, List.drop_replicate]
        congr 1
        omega
      simp only [By_length]
      rw [e1, e2]
      simp [By]
    unfold Oper.wp execOp
    simp only [ho, resolve, invoke, builtin, Sem.run_bind, Sem.run_pure, Result.andThen_ok, List.map_toArray, List.map_cons, List.map_nil, hs, hx, hr]
    exact hK _ _ (h _ (hfin _ rfl).1 (hfin _ rfl).2)
set_option maxRecDepth 100000 in
theorem fB2_sl (w : World) (n : Nat) (hn : n < 65536) : Sl (w.alloc (.cells #[.int .u8 ((n : Int) / 256), .int .u8 ((n : Int) % 256)] 5)) (some ⟨w.heap.size, 0, none⟩) 2 2 (fB 2 (n : Int)) := by
  rw [← short_fB n, show (n : Int) / 256 % 256 = (n : Int) / 256 by omega]
  refine ⟨rfl, Nat.le_refl _, by omega, Wf.cons (by omega) (Wf.cons (by omega) Wf.nil), (by intro h; cases h), .inr ⟨w.heap.size, 0, rfl, by simp, fun i hi => ?_⟩⟩
  have hi' : i = 0 ∨ i = 1 := by omega
  rcases hi' with rfl | rfl <;> simp
set_option maxRecDepth 100000 in
theorem Cf.blk {g : Nat} {w w' : World} (h : Cf (· = g) w w') {p : Nat} (hp : p < w.heap.size) (hne : p ≠ g) : w'.heap[p]? = w.heap[p]? := h.block p hp hne
set_option maxRecDepth 100000 in
set_option maxHeartbeats 1000000 in
theorem withShort_z (g N : Nat) (l : List Int) (L n : Nat) (w : World) (hL : l.length = L) (hz : OwnZ w g N l) (hn : n < 65536) (hroom : L + 2 ≤ N) (hN : N ≤ 65536) :
    Calls Tryz.prog 96 #[.slice (some ⟨g, 0, none⟩) L N, .int .i64 (n : Int)] w fun e w' => e = .returned (.slice (some ⟨g, 0, none⟩) (L + 2) N) ∧ Hid (OwnZ w' g N (l ++ fB 2 (n : Int))) ∧ Hid (Cf (· = g) w w') := by
  obtain ⟨x, hx⟩ : ∃ x, w.alloc (.cells #[.int .u8 ((n : Int) / 256), .int .u8 ((n : Int) % 256)] 5) = x := ⟨_, rfl⟩
  have hbx : Below w.heap.size w x := by rw [← hx]; exact bl_al (Below.refl _ _) (Nat.le_refl _) _
  have HS : Hid (Sl x (some ⟨w.heap.size, 0, none⟩) 2 2 (fB 2 (n : Int))) := hidden (by rw [← hx]; exact fB2_sl w n hn)
  have HZ := hidden (hz.on hbx)
  have HC : Hid (Cf (· = g) w x) := hidden (Cf.of_below hbx)
  have w1 : IntKind.u8.wrap ((n : Int) / 256) = (n : Int) / 256 := by rw [IntKind.wrap_u8]; omega
  have w2 : IntKind.u8.wrap (n : Int) = (n : Int) % 256 := by rw [IntKind.wrap_u8]
  clear hz hbx
  go_enter Tryz.func96, Tryz.ntmps96
  go_wp2_with (at_builtin; refine app_z _ rfl _ _ rfl g N l (fB 2 (n : Int)) L (some ⟨w.heap.size, 0, none⟩) 2 2 hL rfl rfl HZ.out HS.out hroom (by omega) ?_; refine Hid.out ?_)
  apply hidden
  intro w3 HO3 HC3
  go_wp2
  go_ret
  exact ⟨rfl, HO3, hidden (HC.out.go HC3.out)⟩
end Go.Proofs.YtbefpojdopfeeaaGreatDoor
