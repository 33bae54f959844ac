/- New. -/
import Derived.Test.YtlabdbfmfejkaaaDoorArE
namespace Go.Proofs.YtlabdbfmfejkaaaDoor
open Go.RowKit

set_option maxRecDepth 20000 in
set_option maxHeartbeats 400000 in
theorem new_no (n : Int) (h : n < 16 ∨ 4096 < n ∨ n % 16 ≠ 0) (w : World) :
    Calls Tryd.prog 63 #[.int .i64 n] w fun e w' => e = .returned (.tuple #[.pointer none, .int .i64 1]) ∧ w = w' := by
  by_cases h1 : n < 16
  · go_enter Tryd.func63, Tryd.ntmps63
    go_wp2
    go_ret2
    exact ⟨rfl, rfl⟩
  by_cases h2 : 4096 < n
  · go_enter Tryd.func63, Tryd.ntmps63
    go_wp2
    go_ret2
    exact ⟨rfl, rfl⟩
  · have h3 : n % 16 ≠ 0 := by omega
    have h0 : 0 ≤ n := by omega
    obtain ⟨m, rfl⟩ : ∃ m : Nat, n = (m : Int) := ⟨n.toNat, by omega⟩
    have hb : ((m : Int) % 16 != 0) = true := by rw [bne_iff_ne]; exact h3
    go_enter Tryd.func63, Tryd.ntmps63
    go_wp2
    go_ret2
    exact ⟨rfl, rfl⟩

/-- The cells of an arena that is all zero. -/
def zeroA : Array Value := Array.ofFn (n := 513) fun i => if i.val % 2 = 0 ∧ i.val ≠ 0 then .int .u32 0 else .int .i64 0
theorem zeroA_info : (Tryd.prog.info? 165).map (·.zero) = some (some (.agg zeroA)) := by kernel_rfl
theorem zeroA_run (w : World) : (zeroValue 165).run Tryd.prog w = .ok (.agg zeroA) w := by
  cases hq : Tryd.prog.info? 165 with
  | none => have := zeroA_info; rw [hq] at this; cases this
  | some i =>
    have h := zeroA_info
    rw [hq] at h
    simp only [Option.map_some, Option.some.injEq] at h
    simp [zeroValue, typeInfo, hq, h]
theorem zeroA_at (i : Nat) (hi : i < 513) : zeroA[i]? = some (if i % 2 = 0 ∧ i ≠ 0 then .int .u32 0 else .int .i64 0) := by
  unfold zeroA
  rw [Array.getElem?_ofFn]
  simp [hi]
theorem zeroA_ex : ∃ Z : Array Value, (∀ w, (zeroValue 165).run Tryd.prog w = .ok (.agg Z) w) ∧ Z.size = 513 ∧ ∀ i, i < 256 → Z[1 + i * 2]? = some (.int .i64 0) ∧ Z[1 + i * 2 + 1]? = some (.int .u32 0) := by
  refine ⟨zeroA, zeroA_run, by simp [zeroA], fun i hi => ⟨?_, ?_⟩⟩
  · rw [zeroA_at _ (by omega), if_neg (by omega)]
  · rw [zeroA_at _ (by omega), if_pos (by omega)]

set_option maxRecDepth 20000 in
set_option maxHeartbeats 400000 in
theorem new_ok (n : Nat) (h1 : 1 ≤ n) (h2 : n ≤ 256) (w : World) (hT : TB w) :
    Calls Tryd.prog 63 #[.int .i64 ((16 * n : Nat) : Int)] w fun e w' => e = .returned (.tuple #[.pointer (some ⟨w.heap.size, 0, none⟩), .int .i64 0]) ∧ AR w' w.heap.size (List.replicate n ⟨0, 0⟩) ∧ Below w.heap.size w w' := by
  have e1 : ((16 * n : Nat) : Int) = 16 * (n : Int) := by omega
  have hm : (16 * (n : Int)) % 16 = 0 := by omega
  have hq : (16 * (n : Int)) / 16 = (n : Int) := by omega
  rw [e1]
  obtain ⟨Z, hz, hs, hc⟩ := zeroA_ex
  have hne : (Z = #[]) = False := eq_false (fun e => by subst e; simp at hs)
  have HS : Hid (Z.size = 513) := hs
  have HC : Hid (∀ i, i < 256 → Z[1 + i * 2]? = some (.int .i64 0) ∧ Z[1 + i * 2 + 1]? = some (.int .u32 0)) := hc
  clear hs hc
  go_enter Tryd.func63, Tryd.ntmps63
  go_wp2
  go_ret2
  have hs := HS.out
  refine ⟨rfl, ⟨hT.below ((Below.refl _ _).alloc (Nat.le_refl _) _), hT.size, by simpa using h2, _, heap_alloc_new w _, by simpa using hs, ?_, fun i hi => ?_⟩, (Below.refl _ _).alloc (Nat.le_refl _) _⟩
  · rw [Array.getElem?_setIfInBounds_self_of_lt (by omega), List.length_replicate]
  · rw [List.length_replicate] at hi
    obtain ⟨h3, h4⟩ := HC.out i (by omega)
    rw [Array.getElem?_setIfInBounds_ne (by omega), Array.getElem?_setIfInBounds_ne (by omega), h3, h4]
    simp

end Go.Proofs.YtlabdbfmfejkaaaDoor
