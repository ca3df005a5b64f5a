/- Layer 12: Put, Get, Delete of a tree of one leaf, each as it is called. -/
import Derived.Test.YtfcbfombobelmaaGreatDoorJ46
namespace Go.Proofs.YtfcbfombobelmaaGreatDoor
open Go.RowKit

set_option maxRecDepth 100000 in
theorem Bq.lts {w : World} {b m : Nat} {rd : Int} {M : Int → Option Pf} {ct : Nat} (h : Bq w b m rd M ct) (hlen : ∀ k f, M k = some f → 0 < f.l.length) : ∀ k f, M k = some f → f.g < w.heap.size := fun k f hk => by
  have h1 := (h.pgs k f hk).1
  have h2 := hlen k f hk
  rcases h1.hat with h0 | ⟨q, off, e', hlt, _⟩
  · omega
  · injection e' with e'
    injection e' with e1 e2
    omega
set_option maxRecDepth 100000 in
theorem putM_twice (M : Int → Option Pf) (k : Int) (f0 f : Pf) : putM (putM M k f0) k f = putM M k f := by
  funext x
  unfold putM
  by_cases h : x = k
  · rw [if_pos h, if_pos h]
  · rw [if_neg h, if_neg h, if_neg h]
set_option maxRecDepth 100000 in
/-- A slice's bytes in a block that is none of the bench's. -/
theorem KS.of {w : World} {b m : Nat} {ao : Option Addr} {n c : Nat} {l : List Int} (h : Sl w ao n c l) (hn : ∀ q, ao = some q → q.block ≠ b ∧ q.block ≠ m) : KS w b m ao n c l := fun u hu => h.cf hu (.inr fun q hq => by have := hn q hq; rintro (e | e) <;> omega)
set_option maxRecDepth 100000 in
theorem Put_0 (w : World) (b m : Nat) (rd : Int) (M : Int → Option Pf) (ct : Nat) (hb : Bq w b m rd M ct) (ht : TB w b m) (key val : List Int) (ka va : Option Addr) (kc vc : Nat) (hk : KS w b m ka key.length kc key) (hv : KS w b m va val.length vc val) (h0 : 0 < key.length) (h1 : key.length ≤ 64) (h2 : val.length ≤ 96)
    (gd : Gd1 [⟨key, 1, val, 0, 0⟩]) (hm : mayP 2 512 ⟨key, 1, val, 0, 0⟩) (hM : M 2 = none) (hlen : ∀ k f, M k = some f → 0 < f.l.length) (hct : ct ≤ 30) :
    Calls Tryz.prog 9 #[iB b, .int .i64 0, .agg #[.slice ka key.length kc, .int .i64 1, .slice va val.length vc, .int .i64 0, .int .i64 0]] w fun e w' => ∃ ko kn kc kd vo vn vc pg ct', e = .returned (.tuple #[.int .i64 2, .agg #[.slice ko kn kc, .int .i64 kd, .slice vo vn vc, .int .i64 pg, .int .i64 ct'], .bool false, .int .i64 0]) ∧ Hid (Cf (Bo b m) w w' ∧ ∃ f : Pf, f.l = pgB 2 512 [⟨key, 1, val, 0, 0⟩] ∧ w.heap.size ≤ f.g ∧ Bq w' b m rd (putM M 2 f) (ct + 1)) := by
  have hbl := hb.lt
  have hml := hb.mlt
  have hls := hb.lts hlen
  refine (Put_ok w b 0 (.slice ka key.length kc) (.int .i64 1) (.slice va val.length vc) (.int .i64 0) (.int .i64 0) (Bo b m) (by rintro i (e | e) <;> omega) (fun r _ _ _ _ _ _ _ _ _ is u => r = 2 ∧ is = false ∧ ∃ f : Pf, f.l = pgB 2 512 [⟨key, 1, val, 0, 0⟩] ∧ w.heap.size + 7 ≤ f.g ∧ Bq u b m rd (putM M 2 f) (ct + 1)) (fun u hu hus => ?_) ?_).mono ?_
  · refine (put_0 u b m rd M ct (hb.on hu) (ht.go (Cf.of_below hu)) key val ka va kc vc (hk.go (Cf.of_below hu)) (hv.go (Cf.of_below hu)) h0 h1 h2 gd hm hM hlen hct).mono ?_
    rintro e w' ⟨ko, kc', vo, vc', rfl, HQ⟩
    obtain ⟨q1, f0, f, q2, q3, q4⟩ := HQ.out
    rw [putM_twice] at q4
    exact ⟨2, ko, 0, kc', 0, vo, 0, vc', 0, 0, false, rfl, hidden q1, hidden ⟨rfl, rfl, f, q2, by omega, q4⟩⟩
  · rintro r ko kn kc kd vo vn vc pg ct' is x y ⟨q1, q2, f, q3, q4, q5⟩ hc
    refine ⟨q1, q2, f, q3, q4, q5.cf hc (fun e => by have := e.1; omega) (fun e => by have := e.1; omega) (fun k f' hk' e => ?_)⟩
    unfold putM at hk'
    split at hk'
    · injection hk' with hk'
      subst hk'
      have := e.2
      omega
    · have := hls k f' hk'
      have := e.1
      omega
  · rintro e w' ⟨r, ko, kn, kc, kd, vo, vn, vc, pg, ct', is, rfl, HC, HQ⟩
    obtain ⟨rfl, rfl, f, q3, q4, q5⟩ := HQ.out
    exact ⟨ko, kn, kc, kd, vo, vn, vc, pg, ct', rfl, hidden ⟨HC.out, f, q3, by omega, q5⟩⟩
set_option maxRecDepth 100000 in
theorem Put_1 (w : World) (b m : Nat) (rd root : Int) (M : Int → Option Pf) (ct : Nat) (hb : Bq w b m rd M ct) (ht : TB w b m) (fp : Pf) (d : Cl) (hMr : M root = some fp) (hfp : fp.l = pgB 2 512 [d]) (gd1 : Gd1 [d]) (hr : (Lit.int .i64 root).wf = true) (hr1 : ¬ root = 0) (hrd : rd < 4611686018427387000) (hr0 : 0 ≤ rd)
    (key val : List Int) (ka va : Option Addr) (kc vc : Nat) (hk : KS w b m ka key.length kc key) (hv : KS w b m va val.length vc val) (h0 : 0 < key.length) (h1 : key.length ≤ 64) (h2 : val.length ≤ 96) (hdk : d.key = key) (hdv : d.val.length ≤ 96)
    (gd : Gd1 [⟨key, 1, val, 0, 0⟩]) (hm : mayP 2 512 ⟨key, 1, val, 0, 0⟩) (hlen : ∀ k f, M k = some f → 0 < f.l.length) (hct : ct ≤ 30) :
    Calls Tryz.prog 9 #[iB b, .int .i64 root, .agg #[.slice ka key.length kc, .int .i64 1, .slice va val.length vc, .int .i64 0, .int .i64 0]] w fun e w' => ∃ ko kn kc kd vo vc pg ct', e = .returned (.tuple #[.int .i64 root, .agg #[.slice ko kn kc, .int .i64 kd, .slice vo d.val.length vc, .int .i64 pg, .int .i64 ct'], .bool true, .int .i64 0]) ∧ Hid (Cf (Bo b m) w w' ∧ VL w' vo d.val.length vc d.val w.heap.size ∧ ∃ f : Pf, f.l = pgB 2 512 [⟨key, 1, val, 0, 0⟩] ∧ w.heap.size ≤ f.g ∧ Bq w' b m (rd + 1 + 1) (putM M root f) ct) := by
  have hbl := hb.lt
  have hml := hb.mlt
  have hls := hb.lts hlen
  refine (Put_ok w b root (.slice ka key.length kc) (.int .i64 1) (.slice va val.length vc) (.int .i64 0) (.int .i64 0) (Bo b m) (by rintro i (e | e) <;> omega) (fun r _ _ _ _ vo vn vc _ _ is u => r = root ∧ is = true ∧ vn = d.val.length ∧ VL u vo vn vc d.val (w.heap.size + 7) ∧ ∃ f : Pf, f.l = pgB 2 512 [⟨key, 1, val, 0, 0⟩] ∧ w.heap.size + 7 ≤ f.g ∧ Bq u b m (rd + 1 + 1) (putM M root f) ct) (fun u hu hus => ?_) ?_).mono ?_
  · refine (put_1 u b m rd root M ct (hb.on hu) (ht.go (Cf.of_below hu)) fp d hMr hfp gd1 hr hr1 hrd hr0 key val ka va kc vc (hk.go (Cf.of_below hu)) (hv.go (Cf.of_below hu)) h0 h1 h2 hdk hdv gd hm hlen hct).mono ?_
    rintro e w' ⟨ko, kc', vo, vc', rfl, HQ⟩
    obtain ⟨q1, q2, q3, f, q4, q5, q6⟩ := HQ.out
    exact ⟨root, ko, _, kc', _, vo, _, vc', _, _, true, rfl, hidden q1, hidden ⟨rfl, rfl, rfl, ⟨q2 w' (Cf.refl _ _), fun q hq => by have := q3 q hq; omega⟩, f, q4, by omega, q6⟩⟩
  · rintro r ko kn kc kd vo vn vc pg ct' is x y ⟨q1, q2, q3, q4, f, q5, q6, q7⟩ hc
    refine ⟨q1, q2, q3, q4.cf hc (fun k hk e => by have := e.2; omega), f, q5, q6, q7.cf hc (fun e => by have := e.1; omega) (fun e => by have := e.1; omega) (fun k f' hk' e => ?_)⟩
    unfold putM at hk'
    split at hk'
    · injection hk' with hk'
      subst hk'
      have := e.2
      omega
    · have := hls k f' hk'
      have := e.1
      omega
  · rintro e w' ⟨r, ko, kn, kc, kd, vo, vn, vc, pg, ct', is, rfl, HC, HQ⟩
    obtain ⟨rfl, rfl, rfl, q4, f, q5, q6, q7⟩ := HQ.out
    exact ⟨ko, kn, kc, kd, vo, vc, pg, ct', rfl, hidden ⟨HC.out, ⟨q4.1, fun q hq => by have := q4.2 q hq; omega⟩, f, q5, by omega, q7⟩⟩
set_option maxRecDepth 100000 in
theorem Delete_1 (w : World) (b m : Nat) (rd root : Int) (M : Int → Option Pf) (ct : Nat) (hb : Bq w b m rd M ct) (ht : TB w b m) (fp : Pf) (d : Cl) (hMr : M root = some fp) (hfp : fp.l = pgB 2 512 [d]) (gd1 : Gd1 [d]) (hr : (Lit.int .i64 root).wf = true) (hr1 : ¬ root = 0) (hrd : rd < 4611686018427387000) (hr0 : 0 ≤ rd)
    (key : List Int) (ka : Option Addr) (kc : Nat) (hk : KS w b m ka key.length kc key) (h1 : key.length ≤ 64) (hdk : d.key = key) (hdv : d.val.length ≤ 96) (hlen : ∀ k f, M k = some f → 0 < f.l.length) (hct : ct ≤ 30) :
    Calls Tryz.prog 12 #[iB b, .int .i64 root, .slice ka key.length kc] w fun e w' => ∃ ko kn kc kd vo vc pg ct', e = .returned (.tuple #[.int .i64 0, .agg #[.slice ko kn kc, .int .i64 kd, .slice vo d.val.length vc, .int .i64 pg, .int .i64 ct'], .bool true, .int .i64 0]) ∧ Hid (Cf (Bo b m) w w' ∧ VL w' vo d.val.length vc d.val w.heap.size ∧ Bq w' b m (rd + 1 + 1) (delM M root) (ct - 1)) := by
  have hbl := hb.lt
  have hml := hb.mlt
  have hls := hb.lts hlen
  refine (Delete_ok w b root ka key.length kc (Bo b m) (by rintro i (e | e) <;> omega) (fun r _ _ _ _ vo vn vc _ _ is u => r = 0 ∧ is = true ∧ vn = d.val.length ∧ VL u vo vn vc d.val (w.heap.size + 7) ∧ Bq u b m (rd + 1 + 1) (delM M root) (ct - 1)) (fun u hu hus => ?_) ?_).mono ?_
  · refine (remove_1 u b m rd root M ct (hb.on hu) (ht.go (Cf.of_below hu)) fp d hMr hfp gd1 hr hr1 hrd hr0 key ka kc (hk.go (Cf.of_below hu)) h1 hdk hdv hlen hct).mono ?_
    rintro e w' ⟨ko, kc', vo, vc', rfl, HQ⟩
    obtain ⟨q1, q2, q3, q6⟩ := HQ.out
    exact ⟨0, ko, _, kc', _, vo, _, vc', _, _, true, rfl, hidden q1, hidden ⟨rfl, rfl, rfl, ⟨q2 w' (Cf.refl _ _), fun q hq => by have := q3 q hq; omega⟩, q6⟩⟩
  · rintro r ko kn kc kd vo vn vc pg ct' is x y ⟨q1, q2, q3, q4, q7⟩ hc
    refine ⟨q1, q2, q3, q4.cf hc (fun k hk e => by have := e.2; omega), q7.cf hc (fun e => by have := e.1; omega) (fun e => by have := e.1; omega) (fun k f' hk' e => ?_)⟩
    unfold delM at hk'
    split at hk'
    · cases hk'
    · have := hls k f' hk'
      have := e.1
      omega
  · rintro e w' ⟨r, ko, kn, kc, kd, vo, vn, vc, pg, ct', is, rfl, HC, HQ⟩
    obtain ⟨rfl, rfl, rfl, q4, q7⟩ := HQ.out
    exact ⟨ko, kn, kc, kd, vo, vc, pg, ct', rfl, hidden ⟨HC.out, ⟨q4.1, fun q hq => by have := q4.2 q hq; omega⟩, q7⟩⟩
set_option maxRecDepth 100000 in
theorem Get_1 (w : World) (b m : Nat) (rd root : Int) (M : Int → Option Pf) (ct : Nat) (hb : Bq w b m rd M ct) (ht : TB w b m) (fp : Pf) (d : Cl) (hMr : M root = some fp) (hfp : fp.l = pgB 2 512 [d]) (gd1 : Gd1 [d]) (hr : (Lit.int .i64 root).wf = true) (hr1 : ¬ root = 0) (hrd : rd < 4611686018427387000) (hr0 : 0 ≤ rd)
    (key : List Int) (ka : Option Addr) (kc : Nat) (hk : KS w b m ka key.length kc key) (h1 : key.length ≤ 64) (hdk : d.key = key) (hdv : d.val.length ≤ 96) (hlen : ∀ k f, M k = some f → 0 < f.l.length) :
    Calls Tryz.prog 10 #[iB b, .int .i64 root, .slice ka key.length kc] w fun e w' => ∃ ko kn kc kd vo vc pg ct', e = .returned (.tuple #[.agg #[.slice ko kn kc, .int .i64 kd, .slice vo d.val.length vc, .int .i64 pg, .int .i64 ct'], .bool true, .int .i64 0]) ∧ Hid (Cf (Bo b m) w w' ∧ VL w' vo d.val.length vc d.val w.heap.size ∧ Bq w' b m (rd + 1) M ct) := by
  have hbl := hb.lt
  have hml := hb.mlt
  have hls := hb.lts hlen
  refine (Get_ok w b root ka key.length kc (Bo b m) (by rintro i (e | e) <;> omega) (GtTo b m rd M ct d (w.heap.size + 7)) (fun u hu hus c0 c1 c2 => ?_) (fun ko kn kc kd vo vn vc pg ct' is x y h hc => h.cf hbl hml hls hc)).mono ?_
  · have h := getC_1 u b m rd root M ct (hb.on hu) (ht.go (Cf.of_below hu)) fp d hMr hfp gd1 hr hr1 hrd hr0 key ka kc (hk.go (Cf.of_below hu)) h1 hdk hdv (fun k f hk' => by have := hls k f hk'; omega) w.heap.size (w.heap.size + 1) (w.heap.size + 2) ⟨by omega, by omega, by omega, by omega, by omega, by omega⟩ c0 c1 c2
    rw [hus] at h
    exact h
  · rintro e w' ⟨ko, kn, kc, kd, vo, vn, vc, pg, ct', is, rfl, HC, HQ⟩
    obtain ⟨rfl, rfl, q4, q7⟩ := HQ.out
    exact ⟨ko, kn, kc, kd, vo, vc, pg, ct', rfl, hidden ⟨HC.out, ⟨q4.1, fun q hq => by have := q4.2 q hq; omega⟩, q7⟩⟩
set_option maxRecDepth 100000 in
theorem Put_no (w : World) (b m : Nat) (rd : Int) (M : Int → Option Pf) (ct : Nat) (hb : Bq w b m rd M ct) :
    Calls Tryz.prog 9 #[iB b, .int .i64 0, .agg #[.slice none 0 0, .int .i64 1, .slice none 0 0, .int .i64 0, .int .i64 0]] w fun e w' => e = .returned (.tuple #[.int .i64 0, .agg #[.slice none 0 0, .int .i64 0, .slice none 0 0, .int .i64 0, .int .i64 0], .bool false, .int .i64 31]) ∧ Hid (Cf (Bo b m) w w') := by
  have hbl := hb.lt
  have hml := hb.mlt
  refine (Put_bad w b 0 (.slice none 0 0) (.int .i64 1) (.slice none 0 0) (.int .i64 0) (.int .i64 0) (Bo b m) (by rintro i (e | e) <;> omega) (fun _ => True) 31 (fun u hu hus => ?_) (fun _ _ _ _ => trivial)).mono ?_
  · refine (put_bad u b m rd 0 M ct (hb.on hu) none 0 0 (by omega)).mono ?_
    rintro e w' ⟨rfl, HB⟩
    exact ⟨rfl, hidden (Cf.of_below HB.out), hidden trivial⟩
  · rintro e w' ⟨rfl, HC, _⟩
    exact ⟨rfl, HC⟩
end Go.Proofs.YtfcbfombobelmaaGreatDoor
