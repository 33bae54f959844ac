/- TableKnown, walked. -/
import Derived.Test.YtofpkmionbbmcaaTbK
import Derived.Test.YtofpkmionbbmcaaTbTSI
namespace Go.Proofs.Ytofpkmionbbmcaa
open Go.RowKit

set_option maxRecDepth 20000 in
theorem newII_no (n : Int) (h : n < 1 ∨ 4096 < n) (w : World) :
    Calls Try.prog 9 #[.int .i64 n] w fun e w' => e = .returned (.tuple #[.pointer none, .int .i64 1]) ∧ w = w' := by
  by_cases h1 : n < 1
  · go_enter Try.func9, Try.ntmps9
    go_wp2
    go_ret2
    exact ⟨rfl, rfl⟩
  · have h2 : 4096 < n := by omega
    go_enter Try.func9, Try.ntmps9
    go_wp2
    go_ret2
    exact ⟨rfl, rfl⟩

abbrev sA : ByteArray := ⟨#[97]⟩
abbrev sB : ByteArray := ⟨#[98]⟩

set_option maxRecDepth 20000 in
set_option maxHeartbeats 1000000 in
theorem tableKnown_any (w : World) : Calls Try.prog 3 #[] w fun e w' => e = .returned (.bool true) ∧ Below w.heap.size w w' := by
  go_enter Try.func3, Try.ntmps3
  go_wp2_with fail
  refine (newII_no 0 (by omega) w).mono ?_
  rintro e w1 ⟨rfl, rfl⟩
  go_wp2_with fail
  refine (newII_no 4097 (by omega) w).mono ?_
  rintro e w1 ⟨rfl, rfl⟩
  go_wp2_with fail
  refine (onewSI w.heap.size 2 (by omega) (by omega) w w (Below.refl _ _) (Nat.le_refl _)).mono ?_
  rintro e w1 ⟨rfl, h1, _⟩
  generalize hB : w.heap.size = B at *
  go_wp2_with fail
  refine (tknown_any w1).mono ?_
  rintro e w2 ⟨rfl, hb2⟩
  have h2 := h1.below hb2
  clear h1 hb2
  go_wp2_with fail
  refine (ofirstSI B w w2 B 2 _ h2).mono ?_
  rintro e w3 ⟨rfl, rfl⟩
  rw [show okVSI (firstE ([] : List (ByteArray × Int))) = .tuple #[.string ⟨#[]⟩, .bool false] from rfl]
  go_wp2_with fail
  refine (oputSI B w w2 B 2 [] sB 1 h2).mono ?_
  rintro e w3 ⟨rfl, h3⟩
  have g2 : putE ltS 2 ([] : List (ByteArray × Int)) sB 1 = [(sB, 1)] := by decide +kernel
  rw [g2] at h3
  clear h2 g2
  go_wp2_with fail
  refine (oputSI B w w3 B 2 _ sA 2 h3).mono ?_
  rintro e w4 ⟨rfl, h4⟩
  have g2 : putE ltS 2 [(sB, (1 : Int))] sA 2 = [(sA, 2), (sB, 1)] := by decide +kernel
  rw [g2] at h4
  clear h3 g2
  go_wp2_with fail
  refine (okeysSI B w w4 B 2 _ h4).mono ?_
  rintro e w5 ⟨rfl, hg5, h5, hb5⟩
  have hs4 : w4.heap.size < w5.heap.size := (Array.getElem?_eq_some_iff.1 hg5).1
  generalize hG : w4.heap.size = g at *
  clear h4 hb5
  go_wp2_with fail
  refine (oafterSI B w w5 B 2 _ sB h5).mono ?_
  rintro e w6 ⟨rfl, q, rfl⟩
  have e2 : okVSI (afterE ltS [(sA, (2 : Int)), (sB, 1)] sB) = .tuple #[.string sA, .bool true] := by
    rw [show afterE ltS [(sA, (2 : Int)), (sB, 1)] sB = some sA by decide +kernel]; rfl
  rw [e2]
  have h6 := h5.drewN q
  have hg6 : (w5.drewN q).heap[g]? = _ := hg5
  have hs6 : g < (w5.drewN q).heap.size := hs4
  clear h5 e2 hg5 hs4
  generalize w5.drewN q = w6 at *
  go_wp2_with fail
  refine (onextSI B w w6 B 2 _ sB h6).mono ?_
  rintro e w7 ⟨rfl, q7, rfl⟩
  have e2 : okVSI (nextE ltS [(sA, (2 : Int)), (sB, 1)] sB) = .tuple #[.string ⟨#[]⟩, .bool false] := by
    rw [show nextE ltS [(sA, (2 : Int)), (sB, 1)] sB = none by decide +kernel]; rfl
  rw [e2]
  have h7 := h6.drewN q7
  have hg7 : (w6.drewN q7).heap[g]? = _ := hg6
  clear h6 e2 hg6
  generalize w6.drewN q7 = w7 at *
  have c0 := cell_of_row w7 g 0 _ _ _ hg7
  have c1 := cell_of_row w7 g 1 _ _ _ hg7
  simp [kfS] at c0 c1
  have t1 : True := trivial
  have d1 : hasE ltS [(sA, (2 : Int)), (sB, 1)] sA = true := by decide +kernel
  have g1 : dropE ltS [(sA, (2 : Int)), (sB, 1)] sA = [(sB, 1)] := by decide +kernel
  have d2 : hasE ltS [(sB, (1 : Int))] sA = false := by decide +kernel
  have g2 : dropE ltS [(sB, (1 : Int))] sA = [(sB, 1)] := by decide +kernel
  have H1 : Hid (∀ w', TOSI B w w' B 2 [(sA, 2), (sB, 1)] → Calls Try.prog 17 #[.pointer (some ⟨B, 0, none⟩), .string sA] w' fun e w' => e = .returned (.bool true) ∧ TOSI B w w' B 2 [(sB, 1)]) := by
    intro w' h
    have := odropSI B w w' B 2 _ sA h
    rw [d1, g1] at this
    exact this
  have H2 : Hid (∀ w', TOSI B w w' B 2 [(sB, 1)] → Calls Try.prog 17 #[.pointer (some ⟨B, 0, none⟩), .string sA] w' fun e w' => e = .returned (.bool false) ∧ TOSI B w w' B 2 [(sB, 1)]) := by
    intro w' h
    have := odropSI B w w' B 2 _ sA h
    rw [d2, g2] at this
    exact this
  clear d1 g1 d2 g2 hg7
  go_wp2_with (first
    | (go_at_call 17; clear t1; refine (H1.out _ h7).mono ?_; rintro e w8 ⟨rfl, h8⟩; clear h7)
    | (go_at_call 17; refine (H2.out _ h8).mono ?_; rintro e w9 ⟨rfl, h9⟩; clear h8)
    | (go_at_call 18; refine (olenSI B w _ B 2 _ h9).mono ?_; rintro e w10 ⟨rfl, rfl⟩))
  go_ret
  exact ⟨rfl, by rw [hB]; exact h9.bel⟩

end Go.Proofs.Ytofpkmionbbmcaa
