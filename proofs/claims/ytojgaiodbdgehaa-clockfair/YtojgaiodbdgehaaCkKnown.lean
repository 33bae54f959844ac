/- ClockKnown: the walk. -/
import Derived.Test.YtojgaiodbdgehaaCkC
namespace Go.Proofs.Ytojgaiodbdgehaa
open Go.RowKit

theorem Ns.const (w : World) (l : List Nat) (t : TypeId) (fr : Nat × Nat) (C : Array Value) (n g : Nat) (hg : g = w.heap.size) (hC : C.toList = l.map (fun x : Nat => Value.int .u64 (x : Int))) (hn : n = l.length) : Ns .u64 (w.alloc (.cells C t fr)) (.slice (some ⟨g, 0, none⟩) n n) l := by
  subst hn
  subst hg
  refine ⟨_, _, rfl, ⟨Nat.le_refl _, fun h => by cases h⟩, fun _ => ⟨w.heap.size, 0, rfl, by simp, fun i hi => ?_⟩⟩
  simp only [World.cell?, heap_alloc_new, Nat.zero_add]
  have : C[i]? = (l.map (fun x : Nat => Value.int .u64 (x : Int)))[i]? := by rw [← hC]; simp
  rw [this]
  simp [hi]

set_option maxRecDepth 20000 in
set_option maxHeartbeats 1000000 in
theorem clockKnown_any (w : World) :
    Calls Try.prog 3 #[] w fun e w' => e = .returned (.bool true) ∧ Below w.heap.size w w' := by
  go_enter Try.func3, Try.ntmps3
  go_wp2_with fail
  refine (new_ok 4611686018427387904 (by omega) w).mono ?_
  rintro e w1 ⟨rfl, hc1, hb1, hs1⟩
  go_wp2_with fail
  refine (new_no 4611686018427387905 (by omega) w1).mono ?_
  rintro e w2 ⟨rfl, rfl⟩
  go_wp2_with fail
  refine (cknown_any w1).mono ?_
  rintro e w2 ⟨rfl, hb2⟩
  have hc2 := hc1.below hb2
  have hz2 := hb2.size
  have hB2 : Below w.heap.size w w2 := hb1.trans (hb2.mono (by omega))
  clear hc1 hb1 hb2
  go_wp2_with fail
  refine (tick_any w.heap.size 4611686018427387904 1 w2 hc2).mono ?_
  rintro e w3 ⟨rfl, hc3, hk3⟩
  rw [show tickE 4611686018427387904 1 = 7 from by decide +kernel]
  rw [show tickN 4611686018427387904 1 = 4611686018427387904 from by decide +kernel] at hc3
  have hz3 := hk3.size
  have hB3 := hB2.trans (hk3.below (by omega) (fun i hi e => by omega))
  clear hc2 hk3 hB2
  go_wp2_with fail
  refine (tick_any w.heap.size 4611686018427387904 0 w3 hc3).mono ?_
  rintro e w4 ⟨rfl, hc4, hk4⟩
  rw [show tickE 4611686018427387904 0 = 0 from by decide +kernel]
  rw [show tickN 4611686018427387904 0 = 4611686018427387904 from by decide +kernel] at hc4
  have hz4 := hk4.size
  have hB4 := hB3.trans (hk4.below (by omega) (fun i hi e => by omega))
  clear hc3 hk4 hB3
  go_wp2_with fail
  refine (tick_any w.heap.size 4611686018427387904 4294967296 w4 hc4).mono ?_
  rintro e w5 ⟨rfl, hc5, hk5⟩
  rw [show tickE 4611686018427387904 4294967296 = 1 from by decide +kernel]
  have hz5 := hk5.size
  have hB5 := hB4.trans (hk5.below (by omega) (fun i hi e => by omega))
  clear hc4 hc5 hk5 hB4
  go_wp2_with fail
  refine (fair_any 10 2 _ [8, 12] _ (Ns.const w5 [8, 12] _ _ _ _ _ rfl (by rfl) (by rfl)) (by simp)).mono ?_
  rintro e w6 ⟨rfl, rfl⟩
  rw [show fairB 10 2 [8, 12] = true from by decide +kernel]
  go_wp2_with fail
  refine (fair_any 10 2 _ [13] _ (Ns.const _ [13] _ _ _ _ _ (by simp) (by rfl) (by rfl)) (by simp)).mono ?_
  rintro e w6 ⟨rfl, rfl⟩
  rw [show fairB 10 2 [13] = false from by decide +kernel]
  go_wp2_with fail
  refine (fair_any 10 10 _ [] _ (Ns.nil _ _) (by simp)).mono ?_
  rintro e w6 ⟨rfl, rfl⟩
  rw [show fairB 10 10 [] = false from by decide +kernel]
  go_wp2_with fail
  refine (past_any 9 0 8 (by omega) _).mono ?_
  rintro e w6 ⟨rfl, rfl⟩
  rw [show pastB 9 0 8 = false from by decide +kernel]
  go_wp2
  go_ret
  exact ⟨rfl, (hB5.alloc (by omega) _).alloc (by simp; omega) _⟩

end Go.Proofs.Ytojgaiodbdgehaa
