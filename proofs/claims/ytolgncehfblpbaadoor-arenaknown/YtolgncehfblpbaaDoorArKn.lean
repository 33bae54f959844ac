/- ArenaKnown, walked. -/
import Derived.Test.YtolgncehfblpbaaDoorArK
namespace Go.Proofs.YtolgncehfblpbaaDoor
open Go.RowKit

theorem ku1 : roomB [⟨4, 3⟩, ⟨16, 1⟩] 2 = 0 := by kernel_rfl
theorem ku2 : roomB [⟨4, 3⟩, ⟨16, 1⟩] 4 = 2 := by kernel_rfl
theorem ku3 : usedB [⟨4, 3⟩, ⟨16, 1⟩] = 24 := by kernel_rfl
theorem ku4 : freeR [⟨4, 3⟩, ⟨16, 1⟩] 4 = 0 := by kernel_rfl
theorem ku5 : freeL [⟨4, 3⟩, ⟨16, 1⟩] 4 = [⟨4, 1⟩, ⟨16, 1⟩] := by kernel_rfl
theorem ku6 : freeR [⟨4, 1⟩, ⟨16, 1⟩] 5 = 9 := by kernel_rfl
theorem ku7 : freeL [⟨4, 1⟩, ⟨16, 1⟩] 5 = [⟨4, 1⟩, ⟨16, 1⟩] := by kernel_rfl
theorem ku8 : atB [⟨4, 1⟩, ⟨16, 1⟩] 0 = 4 := by kernel_rfl
theorem ku9 : atB [⟨4, 1⟩, ⟨16, 1⟩] 4 = 0 := by kernel_rfl
theorem room_at {bs : List Bk} {s : Int} {r : Nat} (hR : roomB bs s = r) (hO : AO bs) (b : Nat) (w : World) (h : AR w b bs) :
    Calls Tryd.prog 14 #[.pointer (some ⟨b, 0, none⟩), .int .i64 s] w fun e w' => e = .returned (.int .i64 (r : Int)) ∧ Below w.heap.size w w' := by
  subst hR; exact room_any b bs s hO w h
theorem used_at {bs : List Bk} {r : Nat} (hR : usedB bs = r) (hO : AO bs) (b : Nat) (w : World) (h : AR w b bs) :
    Calls Tryd.prog 15 #[.pointer (some ⟨b, 0, none⟩)] w fun e w' => e = .returned (.int .i64 (r : Int)) ∧ Below w.heap.size w w' := by
  subst hR; exact used_any b bs hO w h
theorem at_at {bs : List Bk} {s : Int} {r : Nat} (hR : atB bs s = r) (hO : AO bs) (b : Nat) (w : World) (h : AR w b bs) :
    Calls Tryd.prog 17 #[.pointer (some ⟨b, 0, none⟩), .int .i64 s] w fun e w' => e = .returned (.int .i64 (r : Int)) ∧ Below w.heap.size w w' := by
  subst hR; exact at_any b bs s hO w h
theorem free_at {bs bs' : List Bk} {s : Int} {r : Nat} (hR : freeR bs s = r) (hL : freeL bs s = bs') (hO : AO bs) (b : Nat) (w : World) (h : AR w b bs) :
    Calls Tryd.prog 16 #[.pointer (some ⟨b, 0, none⟩), .int .i64 s] w fun e w' => e = .returned (.int .i64 (r : Int)) ∧ AR w' b bs' ∧ AO bs' ∧ Kept w w' (fun k => k = b) := by
  subst hR
  subst hL
  exact (free_any b bs s hO w h).mono (fun e w' ⟨h1, h2, h3⟩ => ⟨h1, h2, hO.free s, h3⟩)
theorem class_at {s : Int} {r : Nat} (hR : classN s = r) (w : World) : Calls Tryd.prog 13 #[.int .i64 s] w fun e w' => e = .returned (.int .i64 (r : Int)) ∧ w = w' := by
  subst hR; exact class_any s w

set_option maxRecDepth 20000 in
set_option maxHeartbeats 1000000 in
theorem arenaKnown_any (w : World) (hT : TB w) : Calls Tryd.prog 3 #[] w fun e w' => e = .returned (.bool true) ∧ Below w.heap.size w w' := by
  go_enter Tryd.func3, Tryd.ntmps3
  go_wp2_with fail
  refine (new_no 15 (by omega) w).mono ?_
  rintro e _ ⟨rfl, rfl⟩
  go_wp2_with fail
  refine (new_no 4112 (by omega) w).mono ?_
  rintro e _ ⟨rfl, rfl⟩
  go_wp2_with fail
  refine (new_no 40 (by omega) w).mono ?_
  rintro e _ ⟨rfl, rfl⟩
  go_wp2_with fail
  refine (new32 w hT).mono ?_
  rintro e w1 ⟨rfl, h1, hb1⟩
  generalize hB : w.heap.size = B at *
  go_wp2_with fail
  refine (known_any w1 h1.tb).mono ?_
  rintro e w2 ⟨rfl, hb2⟩
  have hB2 : Below B w w2 := hb1.trans (hb2.mono (Nat.le_of_lt h1.lt))
  have h2 := h1.below hb2
  clear h1 hb1 hb2
  go_wp2_with fail
  refine (alloc_at ex1.1 ex1.2 ex_ok B w2 h2).mono ?_
  rintro e w3 ⟨rfl, h3, o3, k3⟩
  have hB3 : Below B w w3 := hB2.trans (k3.below (Nat.le_of_lt h2.lt) (fun i hi => by show ¬ (i = B); omega))
  clear h2 hB2 k3
  go_wp2_with fail
  refine (alloc_at ex2.1 ex2.2 o3 B w3 h3).mono ?_
  rintro e w4 ⟨rfl, h4, o4, k4⟩
  have hB4 : Below B w w4 := hB3.trans (k4.below (Nat.le_of_lt h3.lt) (fun i hi => by show ¬ (i = B); omega))
  clear h3 o3 hB3 k4
  go_wp2_with fail
  refine (alloc_at ex3.1 ex3.2 o4 B w4 h4).mono ?_
  rintro e w5 ⟨rfl, h5, o5, k5⟩
  have hB5 : Below B w w5 := hB4.trans (k5.below (Nat.le_of_lt h4.lt) (fun i hi => by show ¬ (i = B); omega))
  clear h4 o4 hB4 k5
  go_wp2_with fail
  refine (blocks_any B _ w5 h5).mono ?_
  rintro e w6 ⟨rfl, hr6, hb6⟩
  have hB6 : Below B w w6 := hB5.trans (hb6.mono (Nat.le_of_lt h5.lt))
  have h6 := h5.below hb6
  have hg := h5.lt
  generalize w5.heap.size = g at *
  clear h5 hB5 hb6
  rw [show ([⟨4, 3⟩, ⟨16, 1⟩] : List Bk).length = 2 from rfl]
  go_wp2_with fail
  refine (class_at (show classN 3 = 4 by kernel_rfl) _).mono ?_
  rintro e _ ⟨rfl, rfl⟩
  go_wp2_with fail
  refine (class_at (show classN 17 = 0 by kernel_rfl) _).mono ?_
  rintro e _ ⟨rfl, rfl⟩
  go_wp2_with fail
  refine (class_at (show classN 0 = 0 by kernel_rfl) _).mono ?_
  rintro e _ ⟨rfl, rfl⟩
  go_wp2_with fail
  refine (room_at ku1 o5 B _ h6).mono ?_
  rintro e w7 ⟨rfl, hb7⟩
  have hB7 : Below B w w7 := hB6.trans (hb7.mono (Nat.le_of_lt h6.lt))
  have h7 := h6.below hb7
  have hr7 := hr6.below hb7
  clear h6 hB6 hr6 hb7
  go_wp2_with fail
  refine (room_at ku2 o5 B _ h7).mono ?_
  rintro e w8 ⟨rfl, hb8⟩
  have hB8 : Below B w w8 := hB7.trans (hb8.mono (Nat.le_of_lt h7.lt))
  have h8 := h7.below hb8
  have hr8 := hr7.below hb8
  clear h7 hB7 hr7 hb8
  have c0 : w8.cell? ⟨g, 0, none⟩ = some (.int .i64 4) := hr8.cell 0 (by simp)
  have c1 : w8.cell? ⟨g, 1, none⟩ = some (.int .i64 16) := hr8.cell 1 (by simp)
  go_wp2_with fail
  refine (used_at ku3 o5 B _ h8).mono ?_
  rintro e w9 ⟨rfl, hb9⟩
  have hB9 : Below B w w9 := hB8.trans (hb9.mono (Nat.le_of_lt h8.lt))
  have h9 := h8.below hb9
  clear h8 hB8 hr8 hb9 c0 c1
  go_wp2_with fail
  refine (free_at ku4 ku5 o5 B _ h9).mono ?_
  rintro e w10 ⟨rfl, h10, o10, k10⟩
  have hB10 : Below B w w10 := hB9.trans (k10.below (Nat.le_of_lt h9.lt) (fun i hi => by show ¬ (i = B); omega))
  clear h9 hB9 k10
  go_wp2_with fail
  refine (free_at ku6 ku7 o10 B _ h10).mono ?_
  rintro e w11 ⟨rfl, h11, o11, k11⟩
  have hB11 : Below B w w11 := hB10.trans (k11.below (Nat.le_of_lt h10.lt) (fun i hi => by show ¬ (i = B); omega))
  clear h10 hB10 k11
  go_wp2_with fail
  refine (at_at ku8 o11 B _ h11).mono ?_
  rintro e w12 ⟨rfl, hb12⟩
  have hB12 : Below B w w12 := hB11.trans (hb12.mono (Nat.le_of_lt h11.lt))
  have h12 := h11.below hb12
  clear h11 hB11 hb12
  go_wp2_with fail
  refine (at_at ku9 o11 B _ h12).mono ?_
  rintro e w13 ⟨rfl, hb13⟩
  have hB13 : Below B w w13 := hB12.trans (hb13.mono (Nat.le_of_lt h12.lt))
  go_wp2
  go_ret
  exact ⟨rfl, by rw [hB]; exact hB13⟩

end Go.Proofs.YtolgncehfblpbaaDoor
