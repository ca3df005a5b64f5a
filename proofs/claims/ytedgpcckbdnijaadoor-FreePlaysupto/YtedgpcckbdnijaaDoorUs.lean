/- Mark, where no mark is too old. -/
import Derived.Test.YtedgpcckbdnijaaDoorUq
import Derived.Test.YtedgpcckbdnijaaDoorUr
namespace Go.Proofs.YtedgpcckbdnijaaDoor
open Go.RowKit Go.Maps

def oldF (last : Int) (q : Mq) : Bool := decide (16 ≤ last - q.n)
/-- The marks' numbers. -/
def Nums (last : Int) (M : List Mq) : Prop := 0 ≤ last ∧ last ≤ 4611686018427387904 ∧ ∀ q ∈ M, 1 ≤ q.n ∧ q.n ≤ last
set_option maxRecDepth 100000 in
set_option maxHeartbeats 1000000 in
theorem old_any {x : World} {b m : Nat} {mv : Value} {last : Int} {K : Int → Option Int} (h : Fs x b m mv last K) (c : Nat) (hcx : x.cell? ⟨c, 0, none⟩ = some (pB b)) (hcl : c < x.heap.size) (q : Mq) (u : World) (hu : Below x.heap.size x u) (hq : -4611686018427387904 ≤ last - q.n ∧ last - q.n ≤ 4611686018427387904) :
    Calls Tryd.prog 59 #[mqV q, .pointer (some ⟨c, 0, none⟩)] u fun e u' => e = .returned (.bool (oldF last q)) ∧ Hid (Below u.heap.size u u') := by
  unfold mqV oldF
  obtain ⟨y, hy⟩ : ∃ y, u.alloc (.cells #[.int .i64 q.n, .map (some q.b)] 74) = y := ⟨_, rfl⟩
  have hby : Below u.heap.size u y := by rw [← hy]; exact bl_al (Below.refl _ _) (Nat.le_refl _) _
  have hb : Below x.heap.size x y := hu.trans (hby.mono hu.size)
  have hc2 : y.cell? ⟨c, 0, none⟩ = some (pB b) := (hb.cell (p := ⟨c, 0, none⟩) hcl).trans hcx
  have cl : y.cell? ⟨b, 1026, none⟩ = some (.int .i64 last) := (h.on hb).cl
  have hq0 : y.cell? ⟨u.heap.size, 0, none⟩ = some (.int .i64 q.n) := by
    have := al_row u (.cells #[.int .i64 q.n, .map (some q.b)] 74)
    rw [hy] at this
    unfold World.cell?
    rw [this]
    rfl
  have HB := hidden hby
  clear h hcx hu hb hby
  generalize q.n = z at *
  go_enter Tryd.func59, Tryd.ntmps59
  go_wp2_with fail
  go_quiet (fail)
  go_wp2_with fail
  go_ret
  exact ⟨rfl, hidden (HB.out.trans ⟨rfl, rfl, rfl, Nat.le_refl _, fun _ _ => rfl⟩)⟩
set_option maxRecDepth 100000 in
theorem delete_none {w : World} {mv : Value} {M : List Mq} (h : OwnM w mv M) (g : Nat) (lb : Array Value) (f : Mq → Bool) (hf : KindM M g lb f w) (eg : ∀ args w, (callFunc g args).run Tryd.prog w = .ok (.enter g args) w) (hno : fdI f M = -1) :
    Calls Tryd.prog 58 #[mv, .func (.func g) #[] lb] w fun e u => e = .returned mv ∧ Hid (Below w.heap.size w u) := by
  have HI := hidden (index_any h g lb f hf eg)
  rw [hno] at HI
  obtain ⟨ao, cap, rfl, _⟩ := h.shape
  clear h hf hno
  go_enter Tryd.func58, Tryd.ntmps58
  go_wp2_with (go_at_call 60; refine HI.out.mono ?_; rintro e w2 ⟨rfl, HB⟩)
  go_ret
  exact ⟨rfl, HB⟩
set_option maxRecDepth 100000 in
theorem young {last : Int} {M : List Mq} (h : ∀ q ∈ M, last - q.n < 16) : fdI (oldF last) M = -1 := fdI_none (fun j x hx => by
  have := h x (List.mem_of_getElem? hx)
  unfold oldF
  simp
  omega)
set_option maxRecDepth 100000 in
set_option maxHeartbeats 1000000 in
theorem forget_none {w : World} {b m : Nat} {mv : Value} {last : Int} {K : Int → Option Int} {M : List Mq} (h : Fl w b m mv last K M) (hn : Nums last M) (hy : ∀ q ∈ M, last - q.n < 16) :
    Calls Tryd.prog 38 #[pB b] w fun e u => e = .returned (.tuple #[]) ∧ Hid (Fl u b m mv last K M ∧ Cf (· = b) w u) := by
  obtain ⟨x, hx⟩ : ∃ x, w.alloc (.cells #[pB b] 25) = x := ⟨_, rfl⟩
  have hbx : Below w.heap.size w x := by rw [← hx]; exact bl_al (Below.refl _ _) (Nat.le_refl _) _
  have hcx : x.cell? ⟨w.heap.size, 0, none⟩ = some (pB b) := by rw [← hx]; simp
  have hxs : x.heap.size = w.heap.size + 1 := by rw [← hx]; simp
  have HX := hidden (h.on hbx)
  have HBX := hidden hbx
  have HM := hidden hn
  have HY := hidden hy
  have HD : Hid (∀ v, (∃ k, v = x.drewN k) → Calls Tryd.prog 58 #[mv, .func (.func 59) #[] #[.pointer (some ⟨w.heap.size, 0, none⟩)]] v fun e u => e = .returned mv ∧ Hid (Fl u b m mv last K M ∧ Below w.heap.size w u ∧ u.cell? ⟨w.heap.size, 0, none⟩ = some (pB b))) := hidden (by
    rintro v ⟨k, rfl⟩
    have hv : Fl (x.drewN k) b m mv last K M := HX.out.drew k
    refine (delete_none hv.row 59 #[.pointer (some ⟨w.heap.size, 0, none⟩)] (oldF last) (fun q hqM u hu => ?_) (enters_of Tryd.func59 (by kernel_rfl) rfl) (young hy)).mono ?_
    · have h1 := hn.2.2 q hqM
      have h2 := hn.2.1
      exact old_any hv.fs w.heap.size hcx (by show w.heap.size < x.heap.size; omega) q u hu (by omega)
    · rintro e u ⟨rfl, HB⟩
      have hd : Below x.heap.size x (x.drewN k) := ⟨rfl, rfl, rfl, Nat.le_refl _, fun _ _ => rfl⟩
      have hxu : Below x.heap.size x u := hd.trans HB.out
      exact ⟨rfl, hidden ⟨hv.on HB.out, HBX.out.trans (hxu.mono (by omega)), (hxu.cell (p := ⟨w.heap.size, 0, none⟩) (by show w.heap.size < x.heap.size; omega)).trans hcx⟩⟩)
  obtain ⟨ao, cap, rfl, _⟩ := h.row.shape
  have c1 := HX.out.fs.cm
  clear h hbx hn hy
  go_enter Tryd.func38, Tryd.ntmps38
  go_wp2_with fail
  go_region_law (first
    | (go_simp; go_at_call 58; refine (HD.out _ (by first | exact ⟨0, rfl⟩ | exact ⟨1, rfl⟩ | exact ⟨2, rfl⟩ | exact ⟨_, rfl⟩)).mono ?_; rintro e u ⟨rfl, HU⟩; have c2 := HU.out.1.fs.cm; have f2 := HU.out.1.fs.fz 1025; have c3 := HU.out.2.2))
  all_goals
    go_end0
    exact ⟨rfl, hidden ⟨HU.out.1.same, (Cf.of_below HU.out.2.1).go (Cf.setCell (F := (· = b)) u (p := ⟨b, 1025, none⟩) rfl _)⟩⟩
end Go.Proofs.YtedgpcckbdnijaaDoor
