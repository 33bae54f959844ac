/- ArenaRoom, walked. -/
import Derived.Test.YtolgncehfblpbaaDoorArP
import Derived.Test.YtolgncehfblpbaaDoorWsl
import Derived.Deep.CutRange
import Derived.Deep.CutBlock
namespace Go.Proofs.YtolgncehfblpbaaDoor
open Go.RowKit

set_option maxRecDepth 20000 in
set_option maxHeartbeats 2000000 in
theorem arenaRoom_any (nb : Int) (xs : List Int) (sz : Int) (v : Value) (w : World) (hT : TB w) (hv : WS w v 1 cInt xs) :
    Calls Tryd.prog 8 #[.int .i64 nb, v, .int .i64 sz] w fun e w' => e = .returned (.bool true) ∧ Below w.heap.size w w' := by
  obtain ⟨ao, cap, rfl, _, _⟩ := hv.slice
  have hP := pickN_lt nb 10 (by omega)
  obtain ⟨N, hN⟩ : ∃ N, N = 1 + pickN nb 10 := ⟨_, rfl⟩
  have hNi : (1 : Int) + (pickN nb 10 : Int) = (N : Int) := by omega
  have hN1 : 1 ≤ N := by omega
  have hN2 : N ≤ 10 := by omega
  have hP2 := pickN_lt sz 16 (by omega)
  obtain ⟨s, hs⟩ : ∃ s, s = 1 + pickN sz 16 := ⟨_, rfl⟩
  have hsi : (1 : Int) + (pickN sz 16 : Int) = (s : Int) := by omega
  have hs1 : 1 ≤ s := by omega
  have hs2 : s ≤ 16 := by omega
  clear hN hP hP2 hs
  go_enter Tryd.func8, Tryd.ntmps8
  go_wp2_with fail
  refine (pick_any nb 10 (by omega) (by omega) _).mono ?_
  rintro e _ ⟨rfl, rfl⟩
  go_wp2_with fail
  refine (pick_any sz 16 (by omega) (by omega) _).mono ?_
  rintro e _ ⟨rfl, rfl⟩
  go_wp2_with fail
  refine (new_mul N hN1 (by omega) _ hT).mono ?_
  rintro e w1 ⟨rfl, h1, hb1⟩
  generalize hG : w.heap.size = g at *
  have hs1 := AS.new h1 hb1
  clear h1 hb1
  go_upto_block 0 with (go_at_call 10; refine (known_any _ hs1.ar.tb).mono ?_; rintro e w2 ⟨rfl, hb2⟩; have hs2 := hs1.read hb2; clear hb2 hs1)
  go_cut [9] from 38 to 55 (fun _ wc => ∃ bs, AS w wc g N bs)
  case first =>
    go_wp2
    go_loopw [9] (fun i wr => ∃ (k : Nat) (bs : List Bk), i = .int .i64 (k : Int) ∧ k ≤ 100 ∧ AS w wr g N bs) (fun i _ => 100 - (intOf i).toNat)
    case atStart => exact ⟨0, _, rfl, by omega, hs2⟩
    case round =>
      obtain ⟨k, bs, rfl, hk, hs3⟩ := hrel
      clear hs2
      by_cases hlt : k < xs.length ∧ k < 100
      · obtain ⟨hlt, h100⟩ := hlt
        have hk0 : (k : Int) < (xs.length : Int) := by omega
        have hk5 : (k : Int) < 100 := by omega
        obtain ⟨b, off, hao, hbl, hc⟩ := (hv.below (by rw [hG]; exact hs3.bel)).c1 (g := Value.int .i64) (fun _ => rfl) k hlt
        subst hao
        have hp16 := pickN_lt xs[k] 16 (by omega)
        generalize xs[k] = x at *
        go_wp2_with (first
          | (go_at_call 20; refine (pick_any x 16 (by omega) (by omega) _).mono ?_; rintro e _ ⟨rfl, rfl⟩)
          | (go_at_call 11; refine (hs3.alloc _).mono ?_; rintro e w4 ⟨rfl, hs4, _⟩))
        go_roundw
        case rel => exact ⟨k + 1, _, by go_num, by omega, hs4⟩
        case measure => simp [intOf]; omega
      · by_cases hk1 : (k : Int) < (xs.length : Int)
        · have hk2 : ¬ ((k : Int) < 100) := by omega
          go_wp2
          go_meet
          exact ⟨bs, hs3⟩
        · go_wp2
          go_meet
          exact ⟨bs, hs3⟩
  case rest =>
    obtain ⟨bs, hs3⟩ := hcut
    obtain ⟨wy, hwy⟩ : ∃ x, x = wc := ⟨_, rfl⟩
    subst hwy
    clear hs2
    have hR := room_le bs s
    rw [hs3.len] at hR
    generalize hRn : roomB bs s = R at *
    have hRC : ∀ wr, AS w wr g N bs → Calls Tryd.prog 14 #[.pointer (some ⟨g, 0, none⟩), .int .i64 (s : Int)] wr fun e w' => e = .returned (.int .i64 (R : Int)) ∧ AS w w' g N bs ∧ Below wr.heap.size wr w' := fun wr h => by
      have := h.room (s : Int)
      rwa [hRn] at this
    have HR : Hid (roomB bs s = R) := hRn
    clear hRn
    go_wp2_with (go_at_call 14; refine (hRC _ hs3).mono ?_; rintro e w4 ⟨rfl, hs4, _⟩; clear hs3)
    go_loopw [11] (fun i wr => ∃ (k : Nat) (bs : List Bk), i = .int .i64 (k : Int) ∧ k ≤ R ∧ roomB bs s + k = R ∧ AS w wr g N bs) (fun i _ => R - (intOf i).toNat)
    case atStart => exact ⟨0, bs, rfl, by omega, by rw [HR.out]; rfl, hs4⟩
    case round =>
      clear hs4 HR hRC
      obtain ⟨k, bs, rfl, hk, hRk, hs5⟩ := hrel
      by_cases hlt : k < R
      · have hk0 : (k : Int) < (R : Int) := by omega
        obtain ⟨hE, hL⟩ := room_some (s := (s : Int)) hs5.ok (by omega)
        have hA : ∀ wr, AS w wr g N bs → Calls Tryd.prog 11 #[.pointer (some ⟨g, 0, none⟩), .int .i64 (s : Int)] wr fun e w' => e = .returned (.tuple #[.int .i64 ((allocR bs s).1 : Int), .int .i64 0]) ∧ AS w w' g N (allocL bs s) ∧ Kept wr w' (fun k => k = g) := fun wr h => by
          have := h.alloc (s : Int)
          rwa [hE] at this
        obtain ⟨r, hr⟩ : ∃ r, r = R - k - 1 := ⟨_, rfl⟩
        have hri : (R : Int) - (k : Int) - 1 = (r : Int) := by omega
        have hB : ∀ wr, AS w wr g N (allocL bs s) → Calls Tryd.prog 14 #[.pointer (some ⟨g, 0, none⟩), .int .i64 (s : Int)] wr fun e w' => e = .returned (.int .i64 (r : Int)) ∧ AS w w' g N (allocL bs s) ∧ Below wr.heap.size wr w' := fun wr h => by
          have := h.room (s : Int)
          rwa [show roomB (allocL bs s) s = r by omega] at this
        have HL : Hid (roomB (allocL bs s) s + (k + 1) = R) := by
          have e : roomB (allocL bs s) s + (k + 1) = R := by omega
          exact e
        have HK : Hid (k + 1 ≤ R) := by
          have e : k + 1 ≤ R := by omega
          exact e
        generalize (allocR bs s).1 = c at *
        generalize allocL bs s = bs' at *
        clear hE hL hr hRk
        go_wp2_with (first
          | (go_at_call 11; refine (hA _ hs5).mono ?_; rintro e w6 ⟨rfl, hs6, _⟩)
          | (go_at_call 14; refine (hB _ hs6).mono ?_; rintro e w7 ⟨rfl, hs7, _⟩))
        go_roundw
        case rel => exact ⟨k + 1, bs', by go_num, HK.out, HL.out, hs7⟩
        case measure => simp [intOf]; omega
      · have hk0 : ¬ (k : Int) < (R : Int) := by omega
        have hE := room_none (bs := bs) (s := (s : Int)) (by omega) (by omega) (by omega)
        have hA : ∀ wr, AS w wr g N bs → Calls Tryd.prog 11 #[.pointer (some ⟨g, 0, none⟩), .int .i64 (s : Int)] wr fun e w' => e = .returned (.tuple #[.int .i64 ((allocR bs s).1 : Int), .int .i64 2]) ∧ AS w w' g N (allocL bs s) ∧ Kept wr w' (fun k => k = g) := fun wr h => by
          have := h.alloc (s : Int)
          rwa [hE] at this
        have hRi : (R : Int) ≤ 16 * (N : Int) := by omega
        generalize (allocR bs s).1 = c at *
        clear hE hRk
        go_wp2_with (go_at_call 11; refine (hA _ hs5).mono ?_; rintro e w6 ⟨rfl, hs6, _⟩)
        go_ret
        exact ⟨rfl, by rw [hG]; exact hs6.bel⟩
end Go.Proofs.YtolgncehfblpbaaDoor
