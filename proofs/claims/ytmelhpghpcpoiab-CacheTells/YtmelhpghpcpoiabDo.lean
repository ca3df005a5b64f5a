/- The cache over its device, which is up: Flush. -/
import Derived.Test.YtmelhpghpcpoiabDg
import Derived.Test.YtmelhpghpcpoiabDj
import Derived.Test.YtmelhpghpcpoiabCi
namespace Go.Proofs.Ytmelhpghpcpoiab
open Go.RowKit Go.Maps Go.Sort Go.Shelf

/-- The pages with these numbers are clean. -/
def clF (K : List Int) (x : Fr) : Fr := if (x.n : Int) ∈ K then { x with dt := false } else x
def clFs (fs : List Fr) (K : List Int) : List Fr := fs.map (clF K)
/-- The device behind their writes, in this order. -/
def nx (fs : List Fr) (d : D) (k : Int) : D := match fs.find? (fun f => decide ((f.n : Int) = k)) with | some f => cl d f | none => d
def clD (fs : List Fr) (d : D) : List Int → D
  | [] => d
  | k :: r => clD fs (nx fs d k) r
set_option maxRecDepth 100000 in
theorem clD_snoc (fs : List Fr) (d : D) (K : List Int) (k : Int) : clD fs d (K ++ [k]) = nx fs (clD fs d K) k := by
  induction K generalizing d with
  | nil => rfl
  | cons x r ih => exact ih _
set_option maxRecDepth 100000 in
theorem clF_b (K : List Int) (x : Fr) : (clF K x).b = x.b ∧ (clF K x).g = x.g ∧ (clF K x).n = x.n ∧ (clF K x).l = x.l ∧ (clF K x).pins = x.pins := by unfold clF; split <;> exact ⟨rfl, rfl, rfl, rfl, rfl⟩
set_option maxRecDepth 100000 in
theorem clFs_nil (fs : List Fr) : clFs fs [] = fs := by
  unfold clFs
  rw [show clF [] = id from funext fun x => by simp [clF]]
  simp
set_option maxRecDepth 100000 in
theorem clFs_bk {c m : Nat} {fs : List Fr} {K : List Int} {k : Nat} : Bk c m (clFs fs K) k ↔ Bk c m fs k := by
  constructor
  · rintro (h | h | ⟨x, hx, h⟩)
    · exact .inl h
    · exact .inr (.inl h)
    · obtain ⟨y, hy, rfl⟩ := List.mem_map.1 hx
      rw [(clF_b K y).1, (clF_b K y).2.1] at h
      exact .inr (.inr ⟨y, hy, h⟩)
  · rintro (h | h | ⟨x, hx, h⟩)
    · exact .inl h
    · exact .inr (.inl h)
    · exact .inr (.inr ⟨clF K x, List.mem_map_of_mem hx, by rw [(clF_b K x).1, (clF_b K x).2.1]; exact h⟩)
set_option maxRecDepth 100000 in
theorem find_n {fs A B : List Fr} {f : Fr} (np : (fs.map Fr.n).Nodup) (e : fs = A ++ f :: B) : fs.find? (fun x => decide ((x.n : Int) = (f.n : Int))) = some f := by
  subst e
  rw [List.map_append, List.map_cons, List.nodup_append] at np
  rw [List.find?_append, List.find?_eq_none.2 (fun x hx => by
    have := np.2.2 _ (List.mem_map_of_mem hx) _ (List.mem_cons_self ..)
    simp
    omega)]
  simp
set_option maxRecDepth 100000 in
/-- One more of them. -/
theorem clFs_snoc {fs A B : List Fr} {f : Fr} (np : (fs.map Fr.n).Nodup) (e : fs = A ++ f :: B) (K : List Int) (hK : (f.n : Int) ∉ K) : clFs fs K = clFs A K ++ f :: clFs B K ∧ clFs fs (K ++ [(f.n : Int)]) = clFs A K ++ { f with dt := false } :: clFs B K := by
  subst e
  rw [List.map_append, List.map_cons, List.nodup_append, List.nodup_cons] at np
  have hx : ∀ x : Fr, x.n ≠ f.n → clF (K ++ [(f.n : Int)]) x = clF K x := fun x hx => by
    unfold clF
    have : (x.n : Int) ≠ (f.n : Int) := by omega
    simp [this]
  refine ⟨?_, ?_⟩
  · unfold clFs
    rw [List.map_append, List.map_cons]
    congr 2
    unfold clF
    rw [if_neg hK]
  · unfold clFs
    rw [List.map_append, List.map_cons]
    congr 1
    · exact List.map_congr_left fun x hA => hx x (np.2.2 _ (List.mem_map_of_mem hA) _ (List.mem_cons_self ..))
    · congr 1
      · unfold clF; rw [if_pos (by simp)]
      · exact List.map_congr_left fun x hB => hx x fun e => np.2.1.1 (e ▸ List.mem_map_of_mem hB)
set_option maxRecDepth 100000 in
theorem cl_up {d : D} {f : Fr} : (cl d f).down = d.down ∧ (cl d f).armed = d.armed ∧ d.cw ≤ (cl d f).cw ∧ (cl d f).cw ≤ d.cw + 1 ∧ (cl d f).loose.length ≤ d.loose.length + 1 ∧ (cl d f).page = d.page ∧ (cl d f).pages = d.pages ∧ (cl d f).cr = d.cr := by
  unfold cl
  split
  · refine ⟨rfl, rfl, ?_, ?_, ?_, rfl, rfl, rfl⟩
    · show d.cw ≤ d.cw + 1; omega
    · show d.cw + 1 ≤ d.cw + 1; omega
    · show (d.loose ++ [_]).length ≤ _; simp
  · exact ⟨rfl, rfl, Int.le_refl _, by omega, by omega, rfl, rfl, rfl⟩
set_option maxRecDepth 100000 in
theorem clD_up (fs : List Fr) (d : D) (K : List Int) : (clD fs d K).down = d.down ∧ (clD fs d K).armed = d.armed ∧ d.cw ≤ (clD fs d K).cw ∧ (clD fs d K).cw ≤ d.cw + K.length ∧ (clD fs d K).loose.length ≤ d.loose.length + K.length ∧ (clD fs d K).page = d.page ∧ (clD fs d K).pages = d.pages ∧ (clD fs d K).cr = d.cr := by
  induction K generalizing d with
  | nil => exact ⟨rfl, rfl, Int.le_refl _, by show d.cw ≤ d.cw + ((0 : Nat) : Int); omega, Nat.le_refl _, rfl, rfl, rfl⟩
  | cons k r ih =>
    have key : ∀ d1 : D, (d1.down = d.down ∧ d1.armed = d.armed ∧ d.cw ≤ d1.cw ∧ d1.cw ≤ d.cw + 1 ∧ d1.loose.length ≤ d.loose.length + 1 ∧ d1.page = d.page ∧ d1.pages = d.pages ∧ d1.cr = d.cr) → (clD fs d1 r).down = d.down ∧ (clD fs d1 r).armed = d.armed ∧ d.cw ≤ (clD fs d1 r).cw ∧ (clD fs d1 r).cw ≤ d.cw + (k :: r).length ∧ (clD fs d1 r).loose.length ≤ d.loose.length + (k :: r).length ∧ (clD fs d1 r).page = d.page ∧ (clD fs d1 r).pages = d.pages ∧ (clD fs d1 r).cr = d.cr := by
      rintro d1 ⟨g1, g2, g3, g4, g5, g6, g7, g8⟩
      obtain ⟨i1, i2, i3, i4, i5, i6, i7, i8⟩ := ih d1
      simp only [List.length_cons]
      exact ⟨i1.trans g1, i2.trans g2, by omega, by omega, by omega, i6.trans g6, i7.trans g7, i8.trans g8⟩
    refine key (nx fs d k) ?_
    unfold nx
    split
    · exact cl_up
    · exact ⟨rfl, rfl, Int.le_refl _, by omega, by omega, rfl, rfl, rfl⟩
/-- What Flush leaves: all pages clean, each dirty one written, by rising numbers. -/
def FlushW (w0 w : World) (X : Nat → Prop) (a c m : Nat) (d : D) (fr h mi ev : Int) (fs : List Fr) (e : Ending) (u : World) : Prop :=
  ∃ ks Y, ks.Perm (fs.map fun f => (f.n : Int)) ∧ e = .returned (.int .i64 0) ∧ Cx w0 u Y a c m (clD fs d ks) fr h mi ev (clFs fs ks) ∧ Kp X c m fs w u ∧ ∀ k, X k → Y k
set_option maxRecDepth 100000 in
theorem MD.keys {w : World} {m nn : Nat} {D : DataW Unit} {fs : List Fr} (hm : MapIs w m nn D) (h : MD D fs) (np : (fs.map Fr.n).Nodup) : (fs.map fun f => (f.n : Int)).Perm (intKeys D) := by
  obtain ⟨es, hD, hpw, _⟩ := World.ownsMap.entries hm kI
  subst hD
  obtain ⟨es', hD', hko⟩ := World.ownsMap.keysOf hm
  obtain rfl : es = es' := by simpa using hD'
  refine perm_intKeys hpw (fun p hp => ?_) ?_ (fun x => ⟨fun hx => ?_, fun hx => ?_⟩)
  · obtain ⟨v, hv⟩ := hko p hp
    obtain ⟨x, _, hx, _⟩ := Maps.keyOf_i64 Try.underlying3 hv
    exact ⟨x, hx⟩
  · have : (fs.map fun f => (f.n : Int)) = (fs.map Fr.n).map (fun n : Nat => (n : Int)) := by simp
    rw [this]
    exact List.pairwise_map.2 (np.imp fun h e => h (by omega))
  · obtain ⟨f, hf, rfl⟩ := List.mem_map.1 hx
    exact h.has1 f hf
  · by_cases hin : ∃ f ∈ fs, (f.n : Int) = x
    · obtain ⟨f, hf, rfl⟩ := hin
      exact List.mem_map.2 ⟨f, hf, rfl⟩
    · rw [h.has0 x fun f hf e => hin ⟨f, hf, e⟩] at hx
      cases hx
set_option maxRecDepth 100000 in
theorem nx_at {fs A B : List Fr} {f : Fr} (np : (fs.map Fr.n).Nodup) (e : fs = A ++ f :: B) (d : D) : nx fs d (f.n : Int) = cl d f := by
  unfold nx
  rw [find_n np e]
set_option maxRecDepth 100000 in
set_option maxHeartbeats 1000000 in
theorem Flush_ok (w0 w : World) (X : Nat → Prop) (a c m : Nat) (d : D) (fr h mi ev : Int) (fs : List Fr) (x : Cx w0 w X a c m d fr h mi ev fs) (hn : ∀ f ∈ fs, f.n < d.pages) (hdn : d.down = false) (har : d.armed = false) (hfl : fs.length < 65536)
    (h1 : 0 ≤ d.cw) (h2 : d.cw + fs.length < 4611686018427387904) (hfew : d.loose.length + fs.length < 4398046511103) :
    Calls Try.prog 12 #[pt c] w fun e u => FlushW w0 w X a c m d fr h mi ev fs e u := by
  have c2 : w.cell? ⟨c, 2, none⟩ = some (.map (some m)) := x.cw.row.hc.cell 2
  obtain ⟨D, hm, hD⟩ := x.cw.mp
  have hK := Keys_any w m
  have hT := Sorted_any w m _ D hm (by rw [hD.sz]; unfold maxLen; omega) (by rw [hD.sz]; omega)
  have hpk := MD.keys hm hD x.cw.np
  have HX := hidden x
  have HPK := hidden hpk
  have HN := hidden hn
  clear x hm hD hpk hn
  go_enter Try.func12, Try.ntmps12
  go_wp2_with (first
    | (go_at_call 25; refine hK.mono ?_; rintro e u ⟨rfl, rfl⟩)
    | (go_at_call 24; refine hT.mono ?_; rintro e u ⟨v, ss, rfl, hp, hr, _, hb⟩; refine Hid.out ?_))
  apply hidden
  obtain ⟨ks, hks⟩ : ∃ ks, ks = ss.mergeSort (fun x y => decide (x ≤ y)) := ⟨_, rfl⟩
  have hkp : ks.Perm (fs.map fun f => (f.n : Int)) := by
    rw [hks]
    exact (List.mergeSort_perm ..).trans (hp.trans HPK.out.symm)
  have hkl : ks.length = fs.length := by rw [hkp.length_eq]; simp
  have hsl : ss.length = ks.length := by rw [hks]; exact (List.mergeSort_perm ..).length_eq.symm
  rw [← hks, hsl] at hr
  obtain ⟨ao, cap, rfl, hq⟩ : ∃ ao cap, v = .slice ao ks.length cap ∧ (ks = [] ∨ ∃ q, ao = some ⟨q, 0, none⟩ ∧ w.heap.size ≤ q ∧ q < u.heap.size ∧ ∀ i, i < ks.length → u.cell? ⟨q, i, none⟩ = some (.int .i64 (ks.getD i 0))) := by
    rcases hr.2 with ⟨hv, h0⟩ | ⟨q, cap, cur, rfl, g1, g2, _⟩
    · exact ⟨none, 0, by rw [hv, h0], .inl (List.eq_nil_of_length_eq_zero h0)⟩
    · refine ⟨some ⟨q, 0, none⟩, cap, rfl, .inr ⟨q, rfl, g1, lt_of_some g2, fun i hi => ?_⟩⟩
      rw [World.ownsRow.cellAt hr i (by omega)]
      rw [List.getElem?_map, List.getElem?_eq_getElem hi]
      simp [encZ, List.getD, List.getElem?_eq_getElem hi]
  have x1 : Cx w0 u (Xn X w u) a c m d fr h mi ev fs := ⟨HX.out.st.page hb, HX.out.cw.stay fun k hk => hb.block k (HX.out.cw.lt hk), fun k hk => ⟨.inl (HX.out.bx k hk).1, (HX.out.bx k hk).2⟩⟩
  have X1 := hidden x1
  have HQ := hidden hq
  have HKP := hidden hkp
  have HXU := hidden (fun k (hk : X k) => hb.block k (HX.out.st.xl k hk))
  have HKL := hidden hkl
  have hkl2 : ks.length < 65536 := by omega
  clear hr hp hT hK c2 hks hsl x1 hq hkp hb hkl
  go_wp2_with fail
  go_loopw [13] (fun i wr => ∃ K1 K2, ks = K1 ++ K2 ∧ i = .int .i64 (K1.length : Int) ∧ Hid (Cx w0 wr (Xn X w u) a c m (clD fs d K1) fr h mi ev (clFs fs K1)) ∧ Hid (Kp (Xn X w u) c m fs u wr)) (fun i _ => ks.length - (intOf i).toNat)
  case atStart => exact ⟨[], ks, rfl, rfl, by rw [clFs_nil]; exact X1, hidden fun _ _ _ => rfl⟩
  case round =>
    obtain ⟨K1, K2, e, rfl, XR, KR⟩ := hrel
    cases K2 with
    | nil =>
      rw [List.append_nil] at e
      subst e
      have hge : ¬ ((ks.length : Int) < (ks.length : Int)) := by omega
      have F1 : Hid (FlushW w0 w X a c m d fr h mi ev fs (.returned (.int .i64 0)) wr) := hidden ⟨ks, Xn X w u, HKP.out, rfl, XR.out, fun k hk hnb => (KR.out k (.inl hk) hnb).trans (HXU.out k hk), fun k hk => .inl hk⟩
      clear XR KR HKP HQ HXU X1 HX HN HPK
      go_wp2
      go_ret
      exact F1.out
    | cons k0 K2 =>
      have hlt : ((K1.length : Int) < (ks.length : Int)) := by rw [e]; simp; omega
      have hk0 : k0 ∈ (fs.map fun f => (f.n : Int)) := HKP.out.mem_iff.1 (by rw [e]; simp)
      obtain ⟨f, hf, rfl⟩ := List.mem_map.1 hk0
      obtain ⟨A, B, efs⟩ := List.append_of_mem hf
      have np := HX.out.cw.np
      have nK : (f.n : Int) ∉ K1 := by
        have hnd : ks.Nodup := HKP.out.nodup_iff.2 (by
          have : (fs.map fun f => (f.n : Int)) = (fs.map Fr.n).map (fun n : Nat => (n : Int)) := by simp
          rw [this]
          exact List.pairwise_map.2 (np.imp fun h e => h (by omega)))
        rw [e, List.nodup_append] at hnd
        exact fun hm => hnd.2.2 _ hm _ (List.mem_cons_self ..) rfl
      obtain ⟨e1, e2⟩ := clFs_snoc np efs K1 nK
      obtain ⟨u1, u2, u3, u4, u5, u6, u7, u8⟩ := clD_up fs d K1
      have kl : K1.length ≤ fs.length := by rw [← HKL.out, e]; simp
      have xr := XR.out
      rw [e1] at xr
      have hC := clean_ok w0 wr (Xn X w u) a c m (clD fs d K1) fr h mi ev (clFs A K1) (clFs B K1) f xr (by rw [u7]; exact HN.out f hf) (u1.trans hdn) (u2.trans har) (by omega) (by omega) (by omega)
      have hcl : cl (clD fs d K1) f = clD fs d (K1 ++ [(f.n : Int)]) := by rw [clD_snoc, nx_at np efs]
      rw [hcl, ← e2, ← e1] at hC
      obtain ⟨D', hm', hD'⟩ := xr.cw.mp
      have hlk := look_some hm' (wfn (xr.cw.wn f (by simp))) (hD'.at1 f (by simp))
      have y2 : wr.cell? ⟨c, 2, none⟩ = some (.map (some m)) := xr.cw.row.hc.cell 2
      obtain ⟨q, rfl, q1, q2, q3⟩ : ∃ q, ao = some ⟨q, 0, none⟩ ∧ w.heap.size ≤ q ∧ q < u.heap.size ∧ ∀ i, i < ks.length → u.cell? ⟨q, i, none⟩ = some (.int .i64 (ks.getD i 0)) := by
        rcases HQ.out with h0 | h0
        · rw [h0] at e; simp at e
        · exact h0
      have yq : wr.cell? ⟨q, K1.length, none⟩ = some (.int .i64 (f.n : Int)) := by
        rw [World.cell?_of_block (w := u) (a := ⟨q, K1.length, none⟩) (KR.out q (.inr ⟨q1, q2⟩) fun hk => by have := HX.out.cw.lt hk; omega), q3 _ (by omega), e]
        simp [List.getD]
      have F1 : Hid (∀ z, Kp (Xn X w u) c m (clFs fs K1) wr z → Kp (Xn X w u) c m fs u z) := hidden fun z hz => KR.out.trans hz (fun _ h => h) fun k _ hk => clFs_bk.1 hk
      have HC := hidden hC
      have EE := hidden e
      clear hC xr hm' hD' e1 e2 u1 u2 u3 u4 u5 u6 u7 u8 np nK hk0 HKP HXU X1 HX HPK XR KR HQ q1 q2 q3 hcl e efs
      go_wp2_with (go_at_call 26; refine HC.out.mono ?_; rintro e z ⟨rfl, xz, kz⟩; replace xz := hidden xz; replace kz := hidden kz)
      go_roundw
      case rel =>
        exact ⟨K1 ++ [(f.n : Int)], K2, by rw [EE.out]; simp, by rw [List.length_append]; go_num, xz, hidden (F1.out _ kz.out)⟩
      case measure => simp [intOf]; omega
end Go.Proofs.Ytmelhpghpcpoiab
