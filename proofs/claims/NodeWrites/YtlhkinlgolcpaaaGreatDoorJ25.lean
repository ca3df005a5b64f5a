import Derived.Test.YtlhkinlgolcpaaaGreatDoorJ17
import Derived.Test.YtlhkinlgolcpaaaGreatDoorJ16
import Derived.Test.YtlhkinlgolcpaaaGreatDoorJ18
import Derived.Test.YtlhkinlgolcpaaaGreatDoorJ21
import Derived.Lib.LazyBuf
import Derived.Handy
import Derived.Test.YtlhkinlgolcpaaaGreatDoorJ02
import Derived.Laws.EntriesVeiled
import Derived.WideLaws
namespace Go.Proofs.YtlhkinlgolcpaaaGreatDoor
set_option maxRecDepth 100000
def noKey (c : Cl) : Cl := ⟨[], c.kd, c.val, c.pg, c.ct⟩
def rsd (k : Int) (cs : List Cl) : List Cl := if k = 3 then cs.take 1 |>.map noKey |> (· ++ cs.drop 1) else cs
def rtL (k : Int) (cs : List Cl) (i : Nat) : List Cl := rsd k (cs.drop i)
theorem rsd_nil (k : Int) : rsd k [] = [] := by unfold rsd; split <;> rfl
theorem rsd_cons (k : Int) (c : Cl) (r : List Cl) : rsd k (c :: r) = (if k = 3 then noKey c else c) :: r := by unfold rsd; split <;> simp
theorem rsd_length (k : Int) : ∀ cs : List Cl, (rsd k cs).length = cs.length
 | [] => by rw [rsd_nil]
 | c :: r => by rw [rsd_cons]; simp
theorem rsd_tail (k : Int) (cs : List Cl) : (rsd k cs).drop 1 = cs.drop 1 := by
 cases cs with
 | nil => rw [rsd_nil]
 | cons c r => rw [rsd_cons]; rfl
theorem rtL_next (k : Int) (cs : List Cl) (i : Nat) : rtL k (rtL k cs i) 1 = rtL k cs (i + 1) := by
 unfold rtL
 rw [rsd_tail, List.drop_drop]
theorem rtL_length (k : Int) (cs : List Cl) (i : Nat) : (rtL k cs i).length = cs.length - i := by unfold rtL; rw [rsd_length, List.length_drop]
structure Gd (k : Int) (n : Nat) (cs : List Cl) : Prop where
 may : ∀ c ∈ cs, mayP k n c
 rs : Rs cs
theorem Gd.take {k : Int} {n : Nat} {cs : List Cl} (h : Gd k n cs) (i : Nat) : Gd k n (cs.take i) := by
 refine ⟨fun c hc => h.may c (List.mem_of_mem_take hc), ?_⟩
 have := h.rs
 unfold Rs at *
 exact this.sublist (List.take_sublist _ _)
theorem kl_nil {a b : List Int} (h : kl a b) : kl [] b := by
 cases b with
 | nil => cases a <;> simp [kl, ordL] at h
 | cons x r => simp [kl, ordL]
theorem noKey_may {n : Nat} {c : Cl} (h : mayP 3 n c) : mayP 3 n (noKey c) := by
 obtain ⟨h1, h2⟩ := h
 unfold mayP noKey leadsP at *
 simp only at *
 refine ⟨by simp; omega, ?_⟩
 rcases h2 with h2 | h2
 ·exact .inl h2
 ·exact absurd rfl h2.1
theorem Gd.rsd {k : Int} {n : Nat} {cs : List Cl} (h : Gd k n cs) : Gd k n (rsd k cs) := by
 cases cs with
 | nil => rw [rsd_nil]; exact h
 | cons c r =>
  rw [rsd_cons]
  by_cases hk : k = 3
  ·rw [if_pos hk]
   subst hk
   refine ⟨fun d hd => ?_, ?_⟩
   ·rcases List.mem_cons.1 hd with rfl | hd
    ·exact noKey_may (h.may c (by simp))
    ·exact h.may d (by simp [hd])
   ·have h2 := h.rs
    unfold Rs at *
    rw [List.pairwise_cons] at *
    exact ⟨fun d hd => kl_nil (h2.1 d hd), h2.2⟩
  ·rw [if_neg hk]
   exact h
theorem Gd.drop {k : Int} {n : Nat} {cs : List Cl} (h : Gd k n cs) (i : Nat) : Gd k n (cs.drop i) := by
 refine ⟨fun c hc => h.may c (List.mem_of_mem_drop hc), ?_⟩
 have := h.rs
 unfold Rs at *
 exact this.sublist (List.drop_sublist _ _)
theorem Gd.rt {k : Int} {n : Nat} {cs : List Cl} (h : Gd k n cs) (i : Nat) : Gd k n (rtL k cs i) := (h.drop i).rsd
theorem Gd.chk {k : Int} {n : Nat} {cs : List Cl} (h : Gd k n cs) : chk k n none cs = 0 := chk_of none cs h.may h.rs (fun _ _ => trivial)
theorem tL_mono {x y : Nat} (h : x ≤ y) : tL x ≤ tL y := by
 unfold tL
 have := uBf_mono 9 (x : Int) (y : Int) (by omega) (by omega)
 unfold uB
 omega
theorem qtk_mono {m m' : Nat} (c : Cl) (h : m ≤ m') : qtk m' c ≤ qtk m c := by
 have := tL_mono (show c.key.length - m' ≤ c.key.length - m by omega)
 unfold qtk
 omega
theorem qtk_noKey (m : Nat) (c : Cl) : qtk 0 (noKey c) ≤ qtk m c := by
 have := tL_mono (show 0 ≤ c.key.length - m by omega)
 unfold qtk noKey
 simp only [List.length_nil, Nat.sub_zero]
 omega
theorem qsm_flag (m : Nat) : ∀ (f : Bool) (l : List Cl), qsm m false l ≤ qsm m f l
 | _, [] => by simp [qsm]
 | true, c :: r => by
  have := qtk_mono c (Nat.zero_le m)
  simp only [qsm]
  simp only [Bool.false_eq_true, if_false, if_true]
  omega
 | false, c :: r => Nat.le_refl _
theorem qsm_drop (m : Nat) : ∀ (i : Nat) (f : Bool) (l : List Cl), qsm m false (l.drop i) ≤ qsm m f l
 | 0, f, l => by simpa using qsm_flag m f l
 | i + 1, f, [] => by simp [qsm]
 | i + 1, f, c :: r => by
  have := qsm_drop m i false r
  simp only [List.drop_succ_cons, qsm]
  omega
theorem qsm_tk9 (m : Nat) : ∀ (i : Nat) (f : Bool) (l : List Cl), qsm m f (l.take i) ≤ qsm m f l
 | 0, f, l => by simp [qsm]
 | i + 1, f, [] => by simp [qsm]
 | i + 1, f, c :: r => by
  have := qsm_tk9 m i false r
  simp only [List.take_succ_cons, qsm]
  omega
theorem qsm_rsd (m : Nat) (k : Int) (l : List Cl) : qsm m (whl k) (rsd k l) ≤ qsm m false l := by
 cases l with
 | nil => rw [rsd_nil]; simp [qsm]
 | cons c r =>
  rw [rsd_cons]
  by_cases hk : k = 3
  ·have := qtk_noKey m c
   simp only [qsm, whl, hk, decide_true, if_true]
   simp only [Bool.false_eq_true, if_false]
   omega
  ·simp only [qsm, whl, hk, decide_false, if_false]
   simp
theorem qsm_rt (m : Nat) (k : Int) (cs : List Cl) (i : Nat) : qsm m (whl k) (rtL k cs i) ≤ qsm m (whl k) cs :=
 Nat.le_trans (qsm_rsd m k _) (qsm_drop m i _ cs)
theorem mem_ktl9 {k : Int} {cs : List Cl} {d : Cl} : d ∈ ktl k cs ↔ d ∈ cs.drop (if k = 3 then 1 else 0) := by
 unfold ktl
 split <;> simp
theorem Beg.take {k : Int} {P : List Int} {cs : List Cl} (h : Beg k P cs) (i : Nat) : Beg k P (cs.take i) := fun c hc => by
 rw [mem_ktl9, List.drop_take] at hc
 exact h c (mem_ktl9.2 (List.mem_of_mem_take hc))
theorem Beg.rt {k : Int} {P : List Int} {cs : List Cl} (h : Beg k P cs) (i : Nat) : Beg k P (rtL k cs i) := fun c hc => by
 rw [mem_ktl9] at hc
 unfold rtL at hc
 by_cases hk : k = 3
 ·rw [if_pos hk, rsd_tail, List.drop_drop] at hc
  refine h c (mem_ktl9.2 ?_)
  rw [if_pos hk]
  rw [show i + 1 = 1 + i by omega, ← List.drop_drop] at hc
  exact List.mem_of_mem_drop hc
 ·unfold rsd at hc
  rw [if_neg hk, if_neg hk, List.drop_zero] at hc
  refine h c (mem_ktl9.2 ?_)
  rw [if_neg hk, List.drop_zero]
  exact List.mem_of_mem_drop hc
def szE (e : Int) (k : Int) (cs : List Cl) : Nat := if e = 1 then szN cs else szQ k (shP k cs).length cs
theorem sum_sub {l m : List Nat} (h : l.Sublist m) : l.sum ≤ m.sum := by
 induction h with
 | slnil => simp
 | cons a _ ih => simp; omega
 | cons_cons a _ ih => simp; omega
theorem szN_subl {a b : List Cl} (h : a.Sublist b) : szN a ≤ szN b := by
 have := sum_sub (h.map ctk)
 unfold szN
 omega
theorem ctk_noKey (c : Cl) : ctk (noKey c) ≤ ctk c := by
 unfold ctk noKey
 simp only [List.length_nil]
 split <;> omega
theorem szN_rsd (k : Int) (cs : List Cl) : szN (rsd k cs) ≤ szN cs := by
 cases cs with
 | nil => rw [rsd_nil]; exact Nat.le_refl _
 | cons c r =>
  rw [rsd_cons]
  have := ctk_noKey c
  unfold szN
  split <;> simp <;> omega
theorem szE_take (e k : Int) (cs : List Cl) (i : Nat) : szE e k (cs.take i) ≤ szE e k cs := by
 unfold szE
 split
 ·exact szN_subl (List.take_sublist _ _)
 ·have h1 := szQ_less ((shP_beg k cs).take i)
  have h2 := qsm_tk9 (shP k cs).length i (whl k) cs
  unfold szQ at *
  omega
theorem szE_rt (e k : Int) (cs : List Cl) (i : Nat) : szE e k (rtL k cs i) ≤ szE e k cs := by
 unfold szE
 split
 ·exact Nat.le_trans (szN_rsd k _) (szN_subl (List.drop_sublist _ _))
 ·have h1 := szQ_less ((shP_beg k cs).rt i)
  have h2 := qsm_rt (shP k cs).length k cs i
  unfold szQ at *
  omega
theorem szE_takes (e k : Int) (cs : List Cl) {i j : Nat} (h : i ≤ j) : szE e k (cs.take i) ≤ szE e k (cs.take j) := by
 have := szE_take e k (cs.take j) i
 rwa [List.take_take, Nat.min_eq_left h] at this
theorem szE_rts (e k : Int) (cs : List Cl) {i j : Nat} (h : i ≤ j) : szE e k (rtL k cs j) ≤ szE e k (rtL k cs i) := by
 obtain ⟨d, rfl⟩ := Nat.exists_eq_add_of_le h
 induction d with
 | zero => exact Nat.le_refl _
 | succ d ih =>
  have h1 := szE_rt e k (rtL k cs (i + d)) 1
  rw [rtL_next] at h1
  exact Nat.le_trans h1 (ih (by omega))
theorem qsm_zero : ∀ (f : Bool) (l : List Cl), qsm 0 f l = (l.map (qtk 0)).sum
 | _, [] => rfl
 | f, c :: r => by
  have := qsm_zero false r
  simp [qsm, this]
end Go.Proofs.YtlhkinlgolcpaaaGreatDoor

namespace Go.Proofs.YtlhkinlgolcpaaaGreatDoor
set_option maxRecDepth 100000
open Go.RowKit
def OwK (w0 : World) (B : Nat) (w : World) (v : Value) (cs : List Cl) : Prop := ∃ vs, w.ownsRow B 41 5 v cs.length vs ∧ Row5 w0 vs cs
theorem OwK.nil (w0 : World) (B : Nat) (w : World) : OwK w0 B w (.slice none 0 0) [] := ⟨[], World.ownsRow_nil _ _ _ _, rfl⟩
theorem OwK.keep {w0 w w' : World} {B : Nat} {v : Value} {cs : List Cl} {K : Nat → Prop} (h : OwK w0 B w v cs) (hc : Cf K w w') (hk : ∀ g, v.ownBlock = some g → ¬ K g) : OwK w0 B w' v cs := by
 obtain ⟨vs, h1, h2⟩ := h
 refine ⟨vs, ⟨h1.1, ?_⟩, h2⟩
 rcases h1.2 with h3 | ⟨g, cap, cur, e, hg, hh, r⟩
 ·exact .inl h3
 ·exact .inr ⟨g, cap, cur, e, hg, (hc.block g (lt_some hh) (hk g (by rw [e]; rfl))).trans hh, r⟩
theorem OwK.go {w0 w w' : World} {B : Nat} {v : Value} {cs : List Cl} (h : OwK w0 B w v cs) (hb : Below w.heap.size w w') : OwK w0 B w' v cs := h.keep (K := fun _ => False) (Cf.of_below hb) (fun _ _ e => e)
structure SrK (w0 w : World) (ao : Option Addr) (n cap : Nat) (cs : List Cl) : Prop where
 hlen : cs.length = n
 hcap : n ≤ cap
 hnil : ao = none → cap = 0
 hat : n = 0 ∨ ∃ b off us, ao = some ⟨b, off, none⟩ ∧ b < w.heap.size ∧ Row5 w0 us cs ∧ ∀ j u, us[j]? = some u → w.cell? ⟨b, off + j, none⟩ = some u
theorem SrK.on {w0 w w' : World} {ao : Option Addr} {n cap : Nat} {cs : List Cl} (h : SrK w0 w ao n cap cs) (hb : Below w.heap.size w w') : SrK w0 w' ao n cap cs := by
 refine ⟨h.hlen, h.hcap, h.hnil, ?_⟩
 rcases h.hat with h0 | ⟨b, off, us, e, hlt, hr, hc⟩
 ·exact .inl h0
 ·exact .inr ⟨b, off, us, e, Nat.lt_of_lt_of_le hlt hb.size, hr, fun j u hu => (hb.cell (p := ⟨b, off + j, none⟩) hlt).trans (hc j u hu)⟩
theorem OwK.src {w0 w : World} {B : Nat} {v : Value} {cs : List Cl} (h : OwK w0 B w v cs) : ∃ ao cap, v = .slice ao cs.length cap ∧ SrK w0 w ao cs.length cap cs ∧ (0 < cs.length → ∃ g, ao = some ⟨g, 0, none⟩) := by
 obtain ⟨vs, h1, h2⟩ := h
 rcases h1.2 with ⟨rfl, h0⟩ | ⟨g, cap, cur, rfl, hg, hh, hnc, hm, hs, ht⟩
 ·rw [h0]
  exact ⟨none, 0, rfl, ⟨h0, Nat.le_refl _, fun _ => rfl, .inl rfl⟩, fun h => absurd h (by omega)⟩
 ·refine ⟨_, cap, rfl, ⟨rfl, hnc, (by intro h; cases h), .inr ⟨g, 0, vs, rfl, lt_some hh, h2, fun j u hu => ?_⟩⟩, fun _ => ⟨g, rfl⟩⟩
  have := World.ownsRow.cells h1 (g := g) rfl j u hu
  simpa [Addr.add_lit] using this
theorem SrK.slc {w0 w : World} {ao : Option Addr} {n cap : Nat} {cs : List Cl} (h : SrK w0 w ao n cap cs) (hb : Below w0.heap.size w0 w) (hl : n ≤ 140737488355328) : SlC w ao n cap cs := by
 refine ⟨h.hlen, h.hcap, hl, h.hnil, ?_⟩
 rcases h.hat with h0 | ⟨b, off, us, e, hlt, hr, hc⟩
 ·exact .inl h0
 ·exact .inr ⟨b, off, e, hlt, Row5.cat hb off hr hc⟩
theorem Row5.item {w : World} : ∀ {vs : List Value} {cs : List Cl} (i : Nat) (c : Cl), Row5 w vs cs → cs[i]? = some c → ∃ ka kc va vc, vs[i * 5]? = some (.slice ka c.key.length kc) ∧ vs[i * 5 + 1]? = some (.int .i64 c.kd) ∧ vs[i * 5 + 2]? = some (.slice va c.val.length vc) ∧ vs[i * 5 + 3]? = some (.int .i64 c.pg) ∧ vs[i * 5 + 4]? = some (.int .i64 c.ct) ∧ Sl w ka c.key.length kc c.key ∧ Sl w va c.val.length vc c.val
 | vs, [], i, c, h, hi => by simp at hi
 | vs, d :: r, 0, c, h, hi => by
  obtain ⟨ka, kc, va, vc, t, rfl, h1, h2, h3⟩ := h
  simp at hi
  subst hi
  exact ⟨ka, kc, va, vc, rfl, rfl, rfl, rfl, rfl, h1, h2⟩
 | vs, d :: r, i + 1, c, h, hi => by
  obtain ⟨ka, kc, va, vc, t, rfl, h1, h2, h3⟩ := h
  obtain ⟨ka', kc', va', vc', e0, e1, e2, e3, e4, s1, s2⟩ := Row5.item i c h3 (by simpa using hi)
  rw [show (i + 1) * 5 = i * 5 + 1 + 1 + 1 + 1 + 1 by omega]
  simp only [List.getElem?_cons_succ]
  exact ⟨ka', kc', va', vc', e0, e1, e2, e3, e4, s1, s2⟩
theorem SrK.item {w0 w : World} {ao : Option Addr} {n cap : Nat} {cs : List Cl} (h : SrK w0 w ao n cap cs) (i : Nat) (hi : i < n) : ∃ b off c ka kc va vc, ao = some ⟨b, off, none⟩ ∧ b < w.heap.size ∧ cs[i]? = some c ∧
  w.cell? ⟨b, off + i * 5, none⟩ = some (.slice ka c.key.length kc) ∧ w.cell? ⟨b, off + i * 5 + 1, none⟩ = some (.int .i64 c.kd) ∧ w.cell? ⟨b, off + i * 5 + 2, none⟩ = some (.slice va c.val.length vc) ∧ w.cell? ⟨b, off + i * 5 + 3, none⟩ = some (.int .i64 c.pg) ∧ w.cell? ⟨b, off + i * 5 + 4, none⟩ = some (.int .i64 c.ct) ∧ Sl w0 ka c.key.length kc c.key ∧ Sl w0 va c.val.length vc c.val := by
 have hl := h.hlen
 rcases h.hat with h0 | ⟨b, off, us, e, hlt, hr, hc⟩
 ·omega
 ·obtain ⟨c, hci⟩ : ∃ c, cs[i]? = some c := ⟨_, List.getElem?_eq_getElem (by omega)⟩
  obtain ⟨ka, kc, va, vc, e0, e1, e2, e3, e4, s1, s2⟩ := hr.item i c hci
  exact ⟨b, off, c, ka, kc, va, vc, e, hlt, hci, hc _ _ e0, by have := hc _ _ e1; rwa [← Nat.add_assoc] at this, by have := hc _ _ e2; rwa [← Nat.add_assoc] at this, by have := hc _ _ e3; rwa [← Nat.add_assoc] at this, by have := hc _ _ e4; rwa [← Nat.add_assoc] at this, s1, s2⟩
theorem five_at {w : World} {y : World} {x0 x1 x2 x3 x4 : Value} (hy : w.alloc (.cells #[x0, x1, x2, x3, x4] 41) = y) : ∀ (j : Nat) (u : Value), ([x0, x1, x2, x3, x4] : List Value)[j]? = some u → y.cell? ⟨w.heap.size, 0 + j, none⟩ = some u := by
 obtain ⟨f0, f1, f2, f3, f4⟩ := (C5.box w x0 x1 x2 x3 x4).cells
 rw [hy] at f0 f1 f2 f3 f4
 intro j u hu
 have hj5 : j < 5 := (List.getElem?_eq_some_iff.1 hu).1
 have hj' : j = 0 ∨ j = 1 ∨ j = 2 ∨ j = 3 ∨ j = 4 := by omega
 rcases hj' with rfl | rfl | rfl | rfl | rfl <;> (simp only [List.getElem?_cons_zero, List.getElem?_cons_succ, Option.some.injEq] at hu; subst hu; assumption)
theorem app_k {ops : Array Oper} {rest : List Oper} {o : Oper} {a : Act} {Q : Exit → Act → World → Prop} (w0 w : World) (B : Nat) (hgd : o.guard = none) (s x : Operand)
  (ho : o.op = .call { callee := .builtin .append, args := #[s, x], argTypes := #[22, 22] }) (cs : List Cl) (c : Cl) (v : Value) (g : Nat) (us : List Value) (hs : a.eval s = v) (hx : a.eval x = .slice (some ⟨g, 0, none⟩) 1 1)
  (hown : OwK w0 B w v cs) (hr : Row5 w0 us [c]) (hc : ∀ j u, us[j]? = some u → w.cell? ⟨g, 0 + j, none⟩ = some u) (hb : cs.length + 1 ≤ 1000000) (hbase : B ≤ w.heap.size)
  (h : ∀ v' w', Hid (OwK w0 B w' v' (cs ++ [c])) → Hid (Below B w w') → wpList Tryz.prog ops Q rest (a.put o.dst v') w') : wpList Tryz.prog ops Q (o :: rest) a w := by
 obtain ⟨i0, hi, hz0, hz1, hz2⟩ := info_parts infoC
 obtain ⟨vs, h1, h2⟩ := hown
 refine wpList_append_own_at w hgd s x 22 ho B 41 i0 _ 5 72 Tryz.underlying22 hi hz0 hz1 hz2 rfl (by decide) v cs.length vs hs h1 ⟨g, 0, none⟩ 1 1 us hx (by rw [hr.len]; rfl)
  (fun j u hu => by
   rw [Addr.add_lit]
   exact hc j u hu) hr.one (by unfold maxLen; omega) (by omega) hbase ?_
 intro v' w' g1 g2 _ _
 refine h v' w' (hidden ⟨vs ++ us, ?_, Row5.append hr h2⟩) (hidden (own_below h1 hbase g2))
 rw [List.length_append]
 exact g1
theorem take_snocC (cs : List Cl) (j : Nat) (c : Cl) (h : cs[j]? = some c) : cs.take (j + 1) = cs.take j ++ [c] := by rw [List.take_add_one, h]; rfl
end Go.Proofs.YtlhkinlgolcpaaaGreatDoor

namespace Go.Proofs.YtlhkinlgolcpaaaGreatDoor
set_option maxRecDepth 100000
open Go.RowKit
theorem SlC.srk {w : World} {ao : Option Addr} {m cap : Nat} {cs : List Cl} (h : SlC w ao m cap cs) : SrK w w ao m cap cs := by
 refine ⟨h.hlen, h.hcap, h.hnil, ?_⟩
 rcases h.hat with h0 | ⟨b, off, e, hb, hc⟩
 ·exact .inl h0
 ·obtain ⟨us, h1, h2⟩ := row5_of cs off hc
  exact .inr ⟨b, off, us, e, hb, h1, h2⟩
theorem app_ks {ops : Array Oper} {rest : List Oper} {o : Oper} {a : Act} {Q : Exit → Act → World → Prop} (w0 w : World) (B : Nat) (hgd : o.guard = none) (s x : Operand)
  (ho : o.op = .call { callee := .builtin .append, args := #[s, x], argTypes := #[22, 22] }) (cs ds : List Cl) (v : Value) (b off n c : Nat) (us : List Value) (hs : a.eval s = v) (hx : a.eval x = .slice (some ⟨b, off, none⟩) n c)
  (hown : OwK w0 B w v cs) (hn : ds.length = n) (hr : Row5 w0 us ds) (hc : ∀ j u, us[j]? = some u → w.cell? ⟨b, off + j, none⟩ = some u) (hb : cs.length + n ≤ 1000000) (hbase : B ≤ w.heap.size)
  (h : ∀ v' w', Hid (OwK w0 B w' v' (cs ++ ds)) → Hid (Below B w w') → wpList Tryz.prog ops Q rest (a.put o.dst v') w') : wpList Tryz.prog ops Q (o :: rest) a w := by
 obtain ⟨i0, hi, hz0, hz1, hz2⟩ := info_parts infoC
 obtain ⟨vs, h1, h2⟩ := hown
 refine wpList_append_own_at w hgd s x 22 ho B 41 i0 _ 5 72 Tryz.underlying22 hi hz0 hz1 hz2 rfl (by decide) v cs.length vs hs h1 ⟨b, off, none⟩ n c us hx (by rw [hr.len, hn])
  (fun j u hu => by
   rw [Addr.add_lit]
   exact hc j u hu) hr.one (by unfold maxLen; omega) (by omega) hbase ?_
 intro v' w' g1 g2 _ _
 refine h v' w' (hidden ⟨vs ++ us, ?_, Row5.append hr h2⟩) (hidden (own_below h1 hbase g2))
 rw [List.length_append, hn]
 exact g1
theorem owk_empty (w0 w : World) (B : Nat) (hB : B ≤ w.heap.size) : OwK w0 B (w.alloc (.cells #[] 41)) (.slice (some ⟨w.heap.size, 0, none⟩) 0 0) [] :=
 ⟨[], ⟨rfl, .inr ⟨w.heap.size, 0, #[], rfl, hB, heap_alloc_last w _, Nat.le_refl _, by unfold maxLen; decide, by simp, by simp⟩⟩, rfl⟩
theorem clone9_any (w : World) (b off m cap : Nat) (cs : List Cl) (hs : SlC w (some ⟨b, off, none⟩) m cap cs) (hm : m ≤ 200000) :
  Calls Tryz.prog 62 #[.slice (some ⟨b, off, none⟩) m cap] w fun e w' => ∃ v', e = .returned v' ∧ Hid (OwK w w.heap.size w' v' cs) ∧ Hid (Below w.heap.size w w') := by
 have hlen := hs.hlen
 obtain ⟨us, hr, hc, hbl⟩ : ∃ us, Row5 w us cs ∧ (∀ j u, us[j]? = some u → w.cell? ⟨b, off + j, none⟩ = some u) ∧ (m = 0 ∨ b < w.heap.size) := by
  rcases hs.srk.hat with h0 | ⟨b', off', us, e, hb, h1, h2⟩
  ·subst h0
   have : cs = [] := List.eq_nil_of_length_eq_zero hlen
   subst this
   exact ⟨[], rfl, fun j u hu => by simp at hu, .inl rfl⟩
  ·injection e with e
   injection e with e1 e2
   subst e1 e2
   exact ⟨us, h1, h2, .inr hb⟩
 obtain ⟨x, hx⟩ : ∃ x, w.alloc (.cells #[] 41) = x := ⟨_, rfl⟩
 have hbx : Below w.heap.size w x := by rw [← hx]; exact bl_al (Below.refl _ _) (Nat.le_refl _) _
 have HR := hidden hr
 have HC : Hid (∀ j u, us[j]? = some u → x.cell? ⟨b, off + j, none⟩ = some u) := hidden fun j u hu => by
  rcases hbl with h0 | hb
  ·have : us = [] := by
    have := hr.len
    rw [hlen, h0] at this
    exact List.eq_nil_of_length_eq_zero (by omega)
   subst this
   simp at hu
  ·exact (hbx.cell (p := ⟨b, off + j, none⟩) hb).trans (hc j u hu)
 have HLN := hidden hlen
 have HO : Hid (OwK w w.heap.size x (.slice (some ⟨w.heap.size, 0, none⟩) 0 0) []) := hidden (by rw [← hx]; exact owk_empty w w w.heap.size (Nat.le_refl _))
 have HB0 := hidden hbx
 have he : (binOp .eql 22 (.slice (some ⟨b, off, none⟩) m cap) (.slice none 0 0)).run Tryz.prog w = .ok (.bool false) w := run_eql_slice_nil (P := Tryz.prog) w 22 41 (some ⟨b, off, none⟩) m cap Tryz.underlying22
 clear hs hr hc hbl hlen hbx
 go_enter Tryz.func62, Tryz.ntmps62
 go_wp2_with (at_builtin; refine app_ks w _ w.heap.size rfl _ _ rfl [] cs _ b off m cap us rfl rfl HO.out HLN.out HR.out HC.out (by simp; omega) HB0.out.size ?_; intro v2 u2 HO2 HBU2; refine Hid.out ?_)
 apply hidden
 go_wp2
 go_ret
 exact ⟨v2, rfl, by simpa using HO2, hidden (HB0.out.trans HBU2.out)⟩
theorem rside_any (w : World) (k : Int) (b off m cap : Nat) (cs : List Cl) (hs : SlC w (some ⟨b, off, none⟩) m cap cs) (hm : m ≤ 200000) (h0 : 0 < m) :
  Calls Tryz.prog 28 #[.int .i64 k, .slice (some ⟨b, off, none⟩) m cap] w fun e w' => ∃ g o c, e = .returned (.slice (some ⟨g, o, none⟩) m c) ∧ Hid (SlC w' (some ⟨g, o, none⟩) m c (rsd k cs)) ∧ Hid (Below w.heap.size w w') := by
 by_cases hk : k = 3
 ·subst hk
  have HC := hidden (clone9_any w b off m cap cs hs (by omega))
  have hlen := hs.hlen
  have HLN := hidden hlen
  have hmI : (0 : Int) < (m : Int) := by omega
  have hm0 : ((m : Int) == 0) = false := by simp; omega
  have hmJ : ¬ (m : Int) = 0 := by omega
  have HM : Hid (m ≤ 200000 ∧ 0 < m) := hidden ⟨hm, h0⟩
  clear hs hlen
  go_enter Tryz.func28, Tryz.ntmps28
  go_wp2_with (first | (go_at_call 62; refine HC.out.mono ?_; rintro e w2 ⟨v2, rfl, HO, HB⟩; refine Hid.out ?_))
  apply hidden
  obtain ⟨c, r, hcr⟩ : ∃ c r, cs = c :: r := by
   have h1 := HLN.out
   have h2 := HM.out.2
   cases cs with
   | nil => simp at h1; omega
   | cons c r => exact ⟨c, r, rfl⟩
  obtain ⟨g, cap2, rfl, hgw, hrow⟩ : ∃ g cap2, v2 = .slice (some ⟨g, 0, none⟩) m cap2 ∧ w.heap.size ≤ g ∧ ∃ vs cur, Row5 w vs cs ∧ w2.heap[g]? = some (.cells cur 41 (0, 0)) ∧ m ≤ cap2 ∧ cur.size = cap2 * 5 ∧ cur.toList.take (m * 5) = vs := by
   obtain ⟨vs, h1, h2⟩ := HO.out
   rcases h1.2 with ⟨rfl, h3⟩ | ⟨g, cap2, cur, rfl, hg, hh, hnc, hmx, hss, ht⟩
   ·rw [HLN.out] at h3
    have := HM.out.2
    omega
   ·rw [HLN.out] at hnc ht ⊢
    exact ⟨g, cap2, rfl, hg, vs, cur, h2, hh, hnc, by omega, ht⟩
  obtain ⟨vs, cur, hr5, hh, hcap2, hsz, htk⟩ := hrow
  have HG := hidden hgw
  have HROW := hidden (And.intro hr5 (And.intro hh (And.intro hcap2 (And.intro hsz htk))))
  have f0 : w2.frozen? ⟨g, 0, none⟩ = false := by simp [World.frozen?, hh]
  have c0' : (w2.cell? ⟨g, 0, none⟩).isSome = true := by simp [World.cell?, hh]; have := HM.out; omega
  obtain ⟨x0, hx0⟩ := Option.isSome_iff_exists.1 c0'
  clear hr5 hh hsz htk HC HO c0' hgw
  go_wp2
  go_ret
  obtain ⟨hr5, hh, hcap2, hsz, htk⟩ := HROW.out
  have hset : (w2.setCell ⟨g, 0, none⟩ (.slice none 0 0)).heap[g]? = some (.cells (cur.setIfInBounds 0 (.slice none 0 0)) 41 (0, 0)) := by
   first | exact Lib.heap_setCell_same (i := 0) hh _ | exact World.heap_setCell_same hh _
  have hbe : Below w.heap.size w (w2.setCell ⟨g, 0, none⟩ (.slice none 0 0)) := HB.out.setCell (p := ⟨g, 0, none⟩) HG.out _
  refine ⟨g, 0, cap2, rfl, hidden ?_, hidden hbe⟩
  subst hcr
  rw [rsd_cons, if_pos rfl]
  obtain ⟨ka, kc, va, vc, t, rfl, g1, g2, g3⟩ := hr5
  have hm := HM.out
  have hlen := HLN.out
  refine ⟨by simpa using hlen, hcap2, by omega, (fun e => by cases e), .inr ⟨g, 0, rfl, lt_some hset, ?_⟩⟩
  refine Row5.cat hbe 0 (vs := .slice none 0 0 :: .int .i64 c.kd :: .slice va c.val.length vc :: .int .i64 c.pg :: .int .i64 c.ct :: t) (cs := noKey c :: r) ⟨none, 0, va, vc, t, rfl, Sl.nil_any _ _ _ (fun _ => rfl), g2, g3⟩ ?_
  intro j u hu
  rw [Nat.zero_add]
  have hcell : ∀ j, (w2.setCell ⟨g, 0, none⟩ (.slice none 0 0)).cell? ⟨g, j, none⟩ = (cur.setIfInBounds 0 (.slice none 0 0))[j]? := fun j => by simp [World.cell?, hset]
  rw [hcell, Array.getElem?_setIfInBounds]
  by_cases hj : j = 0
  ·subst hj
   simp at hu
   subst hu
   rw [if_pos rfl, if_pos (by omega)]
  ·rw [if_neg (by omega)]
   have h5 : (cur.toList.take (m * 5))[j]? = some u := by
    rw [htk]
    obtain ⟨i, rfl⟩ : ∃ i, j = i + 1 := ⟨j - 1, by omega⟩
    simpa using hu
   have h6 := (List.getElem?_eq_some_iff.1 h5).1
   rw [List.length_take] at h6
   rw [List.getElem?_take_of_lt (by omega)] at h5
   simpa using h5
 ·have hkb : (k != 3) = true := by simpa using hk
  have HS : Hid (SlC w (some ⟨b, off, none⟩) m cap (rsd k cs)) := hidden (by unfold rsd; rw [if_neg hk]; exact hs)
  clear hs
  go_enter Tryz.func28, Tryz.ntmps28
  go_wp2
  go_ret
  exact ⟨b, off, cap, rfl, HS, hidden (Below.refl _ _)⟩
end Go.Proofs.YtlhkinlgolcpaaaGreatDoor

namespace Go.Proofs.YtlhkinlgolcpaaaGreatDoor
set_option maxRecDepth 100000
open Go.RowKit
theorem results_row28 {P : Program} {fn : Func} {p u : Tmp} {ty : TypeId} (h : fn.results = #[.cell p ty, .tmp u]) (tmps : Array Value) (w : World) (g : Nat) (t : TypeId) (cs : Array Value) (fr : Nat × Nat) (d : TypeDesc) (v : Value)
  (hp : tmps.getD p undef = .pointer (some ⟨g, 0, none⟩)) (hv : tmps.getD u undef = v) (hg : w.heap[g]? = some (.cells cs t fr))
  (hu : P.underlying ty = some d) (hd : (match d with | .struct _ | .array _ _ => true | _ => false) = true) (hi : (P.info? ty).map (·.size) = some cs.size) :
  (results fn tmps).run P w = .ok (.tuple #[.agg cs, v]) w := by
 subst hv
 rw [results_cell_tmp h, hp]
 simp [asAddr, run_loadVar_row w g t ty cs fr d hg hu hd hi, Result.andThen]
abbrev fV (f : Nat) : Value := .func (.func f) #[] #[]
abbrev ly1 : Array Value := #[fV 45, fV 46, fV 47, fV 48, fV 51]
abbrev ly2 : Array Value := #[fV 53, fV 54, fV 55, fV 56, fV 59]
abbrev ly0 : Array Value := #[.nilFunc, .nilFunc, .nilFunc, .nilFunc, .nilFunc]
theorem sizeLy : (Tryz.prog.info? 54).map (·.size) = some 5 := by kernel_rfl
theorem layout_1 (w : World) : Calls Tryz.prog 22 #[.int .i64 1] w fun e w' => e = .returned (.tuple #[.agg ly1, .bool true]) ∧ Hid (Below w.heap.size w w') := by
 go_enter Tryz.func22, Tryz.ntmps22
 go_wp2
 refine bodyPost_ret (results_row28 rfl _ _ w.heap.size 54 ly1 (0, 0) _ (.bool true) (by rfl) (by rfl) (heap_alloc_last w _) Tryz.underlying54 rfl sizeLy) rfl ?_
 exact ⟨rfl, hidden (bl_al (Below.refl _ _) (Nat.le_refl _) _)⟩
theorem layout_2 (w : World) : Calls Tryz.prog 22 #[.int .i64 2] w fun e w' => e = .returned (.tuple #[.agg ly2, .bool true]) ∧ Hid (Below w.heap.size w w') := by
 go_enter Tryz.func22, Tryz.ntmps22
 go_wp2
 refine bodyPost_ret (results_row28 rfl _ _ w.heap.size 54 ly2 (0, 0) _ (.bool true) (by rfl) (by rfl) (heap_alloc_last w _) Tryz.underlying54 rfl sizeLy) rfl ?_
 exact ⟨rfl, hidden (bl_al (Below.refl _ _) (Nat.le_refl _) _)⟩
theorem layout_0 (w : World) (x : Int) (h1 : ¬ x = 1) (h2 : ¬ x = 2) : Calls Tryz.prog 22 #[.int .i64 x] w fun e w' => e = .returned (.tuple #[.agg ly0, .bool false]) ∧ Hid (Below w.heap.size w w') := by
 go_enter Tryz.func22, Tryz.ntmps22
 go_wp2
 refine bodyPost_ret (results_row28 rfl _ _ w.heap.size 54 ly0 (0, 0) _ (.bool false) (by rfl) (by rfl) (heap_alloc_last w _) Tryz.underlying54 rfl sizeLy) rfl ?_
 exact ⟨rfl, hidden (bl_al (Below.refl _ _) (Nat.le_refl _) _)⟩
abbrev iP (a : Nat) : Value := .iface 68 (.pointer (some ⟨a, 0, none⟩))
abbrev iQ (a : Nat) : Value := .iface 73 (.pointer (some ⟨a, 0, none⟩))
theorem asP_yes (a : Nat) (w : World) : Calls Tryz.prog 49 #[.pointer (some ⟨a, 0, none⟩), .int .i64 0] w fun e w' => e = .returned (.tuple #[iP a, .int .i64 0]) ∧ w' = w := by
 go_enter Tryz.func49, Tryz.ntmps49
 go_wp2
 go_ret2
 exact ⟨rfl, rfl⟩
theorem asP_no (p : Option Addr) (c : Int) (hc : ¬ c = 0) (w : World) : Calls Tryz.prog 49 #[.pointer p, .int .i64 c] w fun e w' => e = .returned (.tuple #[.nilIface, .int .i64 c]) ∧ w' = w := by
 go_enter Tryz.func49, Tryz.ntmps49
 go_wp2
 go_ret2
 exact ⟨rfl, rfl⟩
theorem asQ_yes (a : Nat) (w : World) : Calls Tryz.prog 57 #[.pointer (some ⟨a, 0, none⟩), .int .i64 0] w fun e w' => e = .returned (.tuple #[iQ a, .int .i64 0]) ∧ w' = w := by
 go_enter Tryz.func57, Tryz.ntmps57
 go_wp2
 go_ret2
 exact ⟨rfl, rfl⟩
theorem asQ_no (p : Option Addr) (c : Int) (hc : ¬ c = 0) (w : World) : Calls Tryz.prog 57 #[.pointer p, .int .i64 c] w fun e w' => e = .returned (.tuple #[.nilIface, .int .i64 c]) ∧ w' = w := by
 go_enter Tryz.func57, Tryz.ntmps57
 go_wp2
 go_ret2
 exact ⟨rfl, rfl⟩
end Go.Proofs.YtlhkinlgolcpaaaGreatDoor
