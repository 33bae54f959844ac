/- The chapter's examples, as every statement asks them. -/
import Derived.Test.YtdadbdeeoemfcabWalkE
namespace Go.Proofs.Ytdadbdeeoemfcab
open Go.RowKit

theorem known_bytes : ([] ++ [7] ++ numB 300 ++ (numB ([97, 98] : List UInt8).length ++ [97, 98]) : List UInt8) = [7, 172, 2, 2, 97, 98] := by decide +kernel

/-- A constant's bytes, as they lie behind their conversion. -/
theorem Bs.const (w : World) (l : List UInt8) (t : TypeId) (fr : Nat × Nat) (C : Array Value) (n : Nat) (hC : C.toList = l.map bv) (hn : n = l.length) : Bs (w.alloc (.cells C t fr)) (.slice (some ⟨w.heap.size, 0, none⟩) n n) l := by
  subst hn
  exact Bs.ofBlock (heap_alloc_new w _) (by rw [hC]; exact List.take_of_length_le (by simp)) (Nat.le_refl _)

theorem const_apart {w : World} {b : Nat} {v : Value} {l : List UInt8} (h : WR w b v l) (n c : Nat) (o : Obj) (m : List UInt8) : ∀ k, m ≠ [] → (Value.slice (some ⟨w.heap.size, 0, none⟩) n c).ownBlock = some k → k < (w.alloc o).heap.size → ¬ WS b v k := by
  intro k _ hk _
  simp only [Value.ownBlock, Option.some.injEq] at hk
  exact h.new_apart (by omega)

set_option maxRecDepth 20000 in
set_option maxHeartbeats 400000 in
theorem known_any (w : World) :
    Calls Try.prog 16 #[] w fun e w' => e = .returned (.bool true) ∧ Below w.heap.size w w' := by
  have kc := fun (w : World) (C : Array Value) (n c : Nat) => Lib.run_convert_bytes_const (P := Try.prog) w 30 5 C n c Try.underlying30 Try.underlying5
  go_enter Try.func16, Try.ntmps16
  go_wp2_with (first
    | (go_at_call 15; refine (newWriter_any _).mono ?_; rintro e w1 ⟨rfl, hw1, hb1⟩)
    | (go_at_call 18; refine (wbyte_to _ _ _ _ _ 7 rfl hw1 (by simp)).mono ?_; rintro e w2 ⟨rfl, v2, hto2⟩)
    | (go_at_call 19; refine (wnum_any _ _ _ _ 300 (by omega) hto2.wr (by simp)).mono ?_; rintro e w3 ⟨rfl, v3, hto3⟩)
    | (go_at_call 21; go_must (refine (wtext_any _ _ _ _ _ [97, 98] (Bs.const w3 [97, 98] _ _ _ _ (by rfl) (by rfl)) (const_apart hto3.wr _ _ _ _) (hto3.wr.alloc _) (by decide +kernel)).mono ?_); rintro e w4 ⟨rfl, v4, hto4⟩; rw [known_bytes] at hto4)
    | (go_at_call 23; refine (wbytes_any _ _ _ _ hto4.wr (by simp)).mono ?_; rintro e w5 ⟨rfl, hg5, hb5, hlt5⟩; have hstr : (convert 30 9 (.slice (some ⟨w4.heap.size, 0, none⟩) 6 6)).run Try.prog w5 = .ok (.string ⟨#[7, 172, 2, 2, 97, 98]⟩) w5 := (Bs.ofBlock (l := [7, 172, 2, 2, 97, 98]) hg5 rfl (Nat.le_refl _)).str (P := Try.prog) 30 9 5 Try.underlying30 Try.underlying5 Try.underlying9)
    | (go_at_call 35; refine (sum_any _ [49, 50, 51, 52, 53, 54, 55, 56, 57] _ (Bs.const w5 [49, 50, 51, 52, 53, 54, 55, 56, 57] _ _ _ _ (by rfl) (by rfl)) (by simp)).mono ?_; rintro e w6 ⟨rfl, rfl⟩; rw [known_sum]))
  go_ret
  have h3 := hto3.wr.lt
  have hB := ((hb1.trans (hto2.below hw1)).trans (hto3.below hto2.wr)).alloc (Nat.le_of_lt h3) (Obj.cells #[Value.int IntKind.u8 97, Value.int IntKind.u8 98] 5 (2, 3))
  have hB2 := (hB.trans (hto4.below (hto3.wr.alloc _))).trans (hb5.mono (Nat.le_of_lt hto4.wr.lt))
  exact ⟨rfl, hB2.alloc (by have := hto4.wr.lt; omega) _⟩

end Go.Proofs.Ytdadbdeeoemfcab
