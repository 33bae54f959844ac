/- The plain Copy. -/
import Derived.Test.YtibgpbflchfbnaaNtAp
import Derived.Test.YtibgpbflchfbnaaStep
import Derived.Deep.RegionHeldLaw
namespace Go.Proofs.Ytibgpbflchfbnaa
open Go.RowKit

theorem own_mono {w : World} {base base' : Nat} {e : TypeId} {sz : Nat} {v : Value} {n : Nat} {xs : List Value} (h : w.ownsRow base e sz v n xs) (hb : base' ≤ base) : w.ownsRow base' e sz v n xs := by
  obtain ⟨h1, h2 | ⟨g, cap, cur, h3, h4, h5⟩⟩ := h
  · exact ⟨h1, Or.inl h2⟩
  · exact ⟨h1, Or.inr ⟨g, cap, cur, h3, by omega, h5⟩⟩

set_option maxRecDepth 20000 in
set_option maxHeartbeats 4000000 in
theorem rcopy_any (d : Dg) (v : Value) (w : World) (hv : Bs w v d.b) (hl : d.b.length ≤ 140737488355328) :
    Calls Try.prog 20 #[dgV d v] w fun e w' => ∃ v', e = .returned (dgV d v') ∧ w'.ownsRow w.heap.size 5 1 v' d.b.length (d.b.map bv) ∧ Below w.heap.size w w' := by
  obtain ⟨i, hi, hz0, hz1, hz2⟩ := info_parts Try.infoByte
  obtain ⟨ao, cap, rfl⟩ := hv.slice
  obtain ⟨frm, tt, l⟩ := d
  simp only at *
  go_enter Try.func20, Try.ntmps20
  go_wp2_with fail
  have hB0 := below2 w (.cells #[.int .i64 frm, .int .i64 tt, .slice ao l.length cap] 30) (.cells #[.int .i64 0, .int .i64 0, .slice none 0 0] 30)
  have hx0 := alloc2_old w (.cells #[.int .i64 frm, .int .i64 tt, .slice ao l.length cap] 30) (.cells #[.int .i64 0, .int .i64 0, .slice none 0 0] 30)
  have hy0 := alloc2_new w (.cells #[.int .i64 frm, .int .i64 tt, .slice ao l.length cap] 30) (.cells #[.int .i64 0, .int .i64 0, .slice none 0 0] 30)
  have hz : ((w.alloc (.cells #[.int .i64 frm, .int .i64 tt, .slice ao l.length cap] 30)).alloc (.cells #[.int .i64 0, .int .i64 0, .slice none 0 0] 30)).heap.size = w.heap.size + 2 := by simp
  have hs0 := hv.below hB0
  generalize (w.alloc (.cells #[.int .i64 frm, .int .i64 tt, .slice ao l.length cap] 30)).alloc (.cells #[.int .i64 0, .int .i64 0, .slice none 0 0] 30) = w0 at *
  generalize hG : w.heap.size = gb at *
  have K0 : ∀ W, Below (gb + 1) w0 W → W.cell? ⟨gb, 0, none⟩ = some (.int .i64 frm) := fun W h => (h.cell (p := ⟨gb, 0, none⟩) (by simp)).trans (cell_of_row _ _ 0 _ _ _ hx0)
  have K1 : ∀ W, Below (gb + 1) w0 W → W.cell? ⟨gb, 1, none⟩ = some (.int .i64 tt) := fun W h => (h.cell (p := ⟨gb, 1, none⟩) (by simp)).trans (cell_of_row _ _ 1 _ _ _ hx0)
  have K2 : ∀ W, Below (gb + 1) w0 W → W.cell? ⟨gb, 2, none⟩ = some (.slice ao l.length cap) := fun W h => (h.cell (p := ⟨gb, 2, none⟩) (by simp)).trans (cell_of_row _ _ 2 _ _ _ hx0)
  have q0 : Below (gb + 1) w0 w0.drew := (Below.refl _ _).drew
  have q1 : ∀ o, Below (gb + 1) w0 (w0.alloc o).drew := fun o => ((Below.refl _ _).alloc (by omega) o).drew
  have q2 : ∀ o, Below w0.heap.size w0 (w0.alloc o).drew := fun o => ((Below.refl _ _).alloc (Nat.le_refl _) o).drew
  have q3 : (w0.alloc (.cells #[] 5)).drew.ownsRow w0.heap.size 5 1 (.slice (some ⟨w0.heap.size, 0, none⟩) 0 0) 0 [] := ⟨by simp, Or.inr ⟨_, 0, #[], rfl, Nat.le_refl _, heap_alloc_new w0 _, Nat.le_refl _, Nat.zero_le _, by simp, by simp⟩⟩
  have HZ : Hid (w0.heap.size = gb + 2) := hz
  clear hz
  go_region_held_law (fun W => Below (gb + 1) w0 W) (first | assumption | exact q1 _ | exact ((b3.setCell (Nat.le_refl _) _).setCell (Nat.le_refl _) _).setCell (Nat.le_refl _) _) ((refine step_append_bs rfl (.tmp 7) (.tmp 9) 28 rfl w0.heap.size 5 i Try.underlying28 hi hz0 hz1 hz2 (.slice (some ⟨w0.heap.size, 0, none⟩) 0 0) 0 [] rfl rfl q3 _ rfl l (hs0.below (q2 _)) (by omega) (by simp [World.drew]) ?_; intro v3 w3 ho3 hk3 hm3; have b3 : Below (gb + 1) w0 w3 := (q1 _).trans (hk3.below (by have := HZ.out; simp [World.drew]; omega) (fun i hi e => by have := HZ.out; simp [Value.ownBlock] at e; omega)); have hy3 := (hk3.block (gb + 1) (by have := HZ.out; simp [World.drew]; omega) (by have := HZ.out; simp [Value.ownBlock]; omega)).trans ((q2 _).block (gb + 1) (by have := HZ.out; omega) |>.trans hy0); obtain ⟨ao3, n3, c3, hv3⟩ := own_form ho3; subst hv3; have e0 := cell_of_row w3 _ 0 _ _ _ hy3; have e1 := cell_of_row w3 _ 1 _ _ _ hy3; have e2 := cell_of_row w3 _ 2 _ _ _ hy3; have f0 := frozen_of_row w3 _ 0 _ _ hy3; have f1 := frozen_of_row w3 _ 1 _ _ hy3; have f2 := frozen_of_row w3 _ 2 _ _ hy3; simp at e0 e1 e2))
  go_wp2
  have hk5 := kept3 w3 (gb + 1) (.int .i64 frm) (.int .i64 tt) (.slice ao3 n3 c3)
  have hne : ∀ k, (Value.slice ao3 n3 c3).ownBlock = some k → ¬ k = gb + 1 := fun k hk => by have := own_base3 ho3 k hk; have := HZ.out; omega
  rw [List.nil_append] at ho3
  refine bodyPost_ret (v := dgV ⟨frm, tt, l⟩ (.slice ao3 n3 c3)) (by simp [results, Try.results20, go_sem, *]) rfl ⟨_, rfl, own_mono (own_kept3 ho3 hk5 hne) (by have := HZ.out; omega), ?_⟩
  rw [hG]
  exact ((hB0.trans (b3.mono (by omega))).setCell (by simp) _ |>.setCell (by simp) _).setCell (by simp) _

end Go.Proofs.Ytibgpbflchfbnaa
