/- The law's own known. -/
import Derived.Test.YteaoafdedjenaaaMlC
namespace Go.Proofs.Yteaoafdedjenaaa
open Go.RowKit Go.Conc

theorem putI_room (bx c cap : Nat) (q : List Value) (x : Int) (w : World) (h : BX w 49 bx c cap q) (hr : q.length < cap) :
    Calls Try.prog 15 #[bp bx, .int .i64 x] w fun e w' => e = .returned (.bool true) ∧ BX w' 49 bx c cap (q ++ [.int .i64 x]) ∧ Kept w w' (fun k => k = c) ∧ w'.heap.size = w.heap.size :=
  (putI_any bx c cap q x w h).mono fun e w' ⟨h1, h2, h3, h4⟩ => ⟨by rw [h1]; simp [hr], by rwa [if_pos hr] at h2, h3, h4⟩
theorem putI_full (bx c cap : Nat) (q : List Value) (x : Int) (w : World) (h : BX w 49 bx c cap q) (hr : cap ≤ q.length) :
    Calls Try.prog 15 #[bp bx, .int .i64 x] w fun e w' => e = .returned (.bool false) ∧ BX w' 49 bx c cap q ∧ Kept w w' (fun k => k = c) ∧ w'.heap.size = w.heap.size :=
  (putI_any bx c cap q x w h).mono fun e w' ⟨h1, h2, h3, h4⟩ => ⟨by rw [h1]; simp [hr], by rwa [if_neg (by omega)] at h2, h3, h4⟩
theorem putS_room (bx c cap : Nat) (q : List Value) (x : ByteArray) (w : World) (h : BX w 52 bx c cap q) (hr : q.length < cap) :
    Calls Try.prog 10 #[bp bx, .string x] w fun e w' => e = .returned (.bool true) ∧ BX w' 52 bx c cap (q ++ [.string x]) ∧ Kept w w' (fun k => k = c) ∧ w'.heap.size = w.heap.size :=
  (putS_any bx c cap q x w h).mono fun e w' ⟨h1, h2, h3, h4⟩ => ⟨by rw [h1]; simp [hr], by rwa [if_pos hr] at h2, h3, h4⟩

set_option maxRecDepth 20000 in
set_option maxHeartbeats 1000000 in
theorem mknown_any (w : World) : Calls Try.prog 9 #[] w fun e w' => e = .returned (.bool true) ∧ Below w.heap.size w w' := by
  go_enter Try.func9, Try.ntmps9
  go_wp2_with (first
    | (go_at_call 7; refine (newI_ok 2 (by omega) (by omega) _).mono ?_; rintro e w1 ⟨rfl, h1, hb1, hs1⟩; clear hs1; generalize hG : w.heap.size = g at *; have hg1 : g ≤ w1.heap.size := Nat.le_of_lt h1.lt.2)
    | (go_at_call 16; refine (takeI_none _ _ _ _ h1).mono ?_; rintro e _ ⟨rfl, rfl⟩)
    | (go_at_call 15; refine (putI_room _ _ _ _ 5 _ h1 (by decide)).mono ?_; rintro e w2 ⟨rfl, h2, hk2, hs2⟩; clear h1)
    | (go_at_call 15; refine (putI_room _ _ _ _ 6 _ h2 (by decide)).mono ?_; rintro e w3 ⟨rfl, h3, hk3, hs3⟩; clear h2)
    | (go_at_call 15; refine (putI_full _ _ _ _ 7 _ h3 (by decide)).mono ?_; rintro e w4 ⟨rfl, h4, hk4, hs4⟩; clear h3)
    | (go_at_call 16; refine (takeI_some _ _ _ 5 _ _ h4).mono ?_; rintro e w5 ⟨rfl, h5, hk5, hs5⟩; clear h4)
    | (go_at_call 17; refine (lenI_any _ _ _ _ _ h5).mono ?_; rintro e _ ⟨rfl, rfl⟩))
  go_ret
  refine ⟨by simp, ?_⟩
  have n2 : ∀ i, i < g → ¬ (i = g) := fun i h => by omega
  rw [hG]
  exact (((hb1.trans (hk2.below hg1 n2)).trans (hk3.below (by omega) n2)).trans (hk4.below (by omega) n2)).trans (hk5.below (by omega) n2)

set_option maxRecDepth 20000 in
set_option maxHeartbeats 200000 in
theorem mailKnown_any (w : World) : Calls Try.prog 3 #[] w fun e w' => e = .returned (.bool true) ∧ Below w.heap.size w w' := by
  have t1 : True := trivial
  have t2 : True := trivial
  go_enter Try.func3, Try.ntmps3
  go_wp2_with (first
    | (go_at_call 7; clear t1; refine (newI_no 0 (by omega) _).mono ?_; rintro e _ ⟨rfl, rfl⟩)
    | (go_at_call 8; clear t2; refine (newS_no 17 (by omega) _).mono ?_; rintro e _ ⟨rfl, rfl⟩)
    | (go_at_call 8; refine (newS_ok 2 (by omega) (by omega) _).mono ?_; rintro e w1 ⟨rfl, h1, hb1, hs1⟩; generalize hG : w.heap.size = g at *; have hg1 : g ≤ w1.heap.size := Nat.le_of_lt h1.lt.2)
    | (go_at_call 9; refine (mknown_any _).mono ?_; rintro e w2 ⟨rfl, hb2⟩; have h2 := h1.kept (kept_of_below hb2 (fun _ => False)) id id; have hs2 := hb2.size; clear h1)
    | (go_at_call 10; refine (putS_room _ _ _ _ _ _ h2 (by decide)).mono ?_; rintro e w3 ⟨rfl, h3, hk3, hx⟩; clear hx; clear h2)
    | (go_at_call 10; refine (putS_room _ _ _ _ _ _ h3 (by decide)).mono ?_; rintro e w4 ⟨rfl, h4, hk4, hx⟩; clear hx; have hgl := h4.lt; have hp4 := hk4.size; have hp3 := hk3.size; clear h3)
    | (go_at_call 11; refine (allS_any _ _ _ [⟨#[97]⟩, ⟨#[98]⟩] _ h4 (by decide) (by decide)).mono ?_; rintro e w5 ⟨rfl, hr5, h5, hk5, hx⟩; clear hx; have hne5 : w4.heap.size ≠ g := by { omega }; have hp5 := hk5.size; generalize hG4 : w4.heap.size = g5 at *; clear h4)
    | (go_at_call 12; refine (takeS_some _ _ _ _ _ _ h5).mono ?_; rintro e w6 ⟨rfl, h6, hk6, hx⟩; clear hx; have hp6 := hk6.size; have hr6 := hr5.kept hk6 hne5; clear h5 hr5)
    | (go_at_call 12; refine (takeS_some _ _ _ _ _ _ h6).mono ?_; rintro e w7 ⟨rfl, h7, hk7, hx⟩; clear hx; have hp7 := hk7.size; have hr7 := hr6.kept hk7 hne5; clear h6 hr6; have r0 := hr7.cell 0 (by decide); have r1 := hr7.cell 1 (by decide))
    | (go_at_call 12; refine (takeS_none _ _ _ _ h7).mono ?_; rintro e _ ⟨rfl, rfl⟩)
    | (go_at_call 13; refine (roomS_any _ _ _ _ _ h7 (by decide) (by decide)).mono ?_; rintro e _ ⟨rfl, n, rfl⟩))
  go_ret
  refine ⟨by simp, ?_⟩
  rw [hG]
  have n2 : ∀ i, i < g → ¬ (i = g) := fun i h => by omega
  exact ((((((hb1.trans (hb2.mono hg1)).trans (hk3.below (by omega) n2)).trans (hk4.below (by omega) n2)).trans (hk5.below (by omega) n2)).trans (hk6.below (by omega) n2)).trans (hk7.below (by omega) n2)).trans ((below_drewN0 _ _).mono (by omega))

end Go.Proofs.Yteaoafdedjenaaa
