/- HeapKnown, walked. -/
import Derived.Test.YthjbbghmmikmmaaDoorHpQ
namespace Go.Proofs.YthjbbghmmikmmaaDoor
open Go.RowKit

/-- What came behind it is fenced off. -/
theorem HH.fence {w0 w w' : World} {B hb : Nat} {h : HSt} {X : Nat → Prop} (x : HH w0 B w hb h X) (hB : Below w.heap.size w w') : HH w0 B w' hb h (fun k => X k ∨ (w.heap.size ≤ k ∧ k < w'.heap.size)) := by
  obtain ⟨F, hp, hF⟩ := x.ex
  have hlt := hp.lt
  refine ⟨⟨F, hp.below hB, fun k hk => ⟨(hF k hk).1, fun e => ?_⟩⟩, x.bel.trans (hB.mono x.le), Nat.le_trans x.le hB.size, fun k e => ?_⟩
  · rcases e with e | e
    · exact (hF k hk).2 e
    · have := hlt k hk
      omega
  · rcases e with e | e
    · exact Nat.lt_of_lt_of_le (x.xs k e) hB.size
    · exact e.2
def gs0 : HSt := ⟨1, 1, 72057594037927935, List.replicate 1 bk0, []⟩
theorem st_g1 : gs0.makeR 0 0 = (0, 7) := by kernel_rfl
theorem st_m8 : (st0.makeS 1 1).makeR 8 0 = (0, 1) ∧ (st0.makeS 1 1).makeS 8 0 = st0.makeS 1 1 := makeR_no (by omega)
theorem st_m0 : (st0.makeS 1 1).makeR 0 0 = (0, 2) := by kernel_rfl
theorem makeS_no {h : HSt} {r v : Int} (hE : ¬ (h.makeR r v).2 = 0) : h.makeS r v = h := if_neg hE
theorem st_m0s : (st0.makeS 1 1).makeS 0 0 = st0.makeS 1 1 := makeS_no (by rw [st_m0]; simp)
theorem st_r1 : refR (st0.makeS 1 1).cs 6 1 = ((0, 0), 5) := by kernel_rfl
theorem st_len : (st0.makeS 1 1).cs.length = 1 := by kernel_rfl
theorem st_last : (st0.makeS 1 1).last = 6 := by kernel_rfl
theorem st_node : (st0.makeS 1 1).node = 1 := by kernel_rfl
theorem st_used : usedB (st0.makeS 1 1).bs = 4 := by kernel_rfl

set_option maxRecDepth 20000 in
set_option maxHeartbeats 2000000 in
theorem heapKnown_any (w : World) (hT : TB w) :
    Calls Tryd.prog 3 #[] w fun e w' => e = .returned (.bool true) ∧ Below w.heap.size w w' := by
  have n1 : ∀ w, Calls Tryd.prog 9 #[.int .i64 0, .int .i64 16, .int .i64 1, .int .u64 0] w fun e w' => e = .returned (.tuple #[.pointer none, .int .i64 1]) ∧ w = w' := fun w => hnew_no 0 16 1 0 (by omega) w
  have n2 : ∀ w, Calls Tryd.prog 9 #[.int .i64 1, .int .i64 17, .int .i64 1, .int .u64 0] w fun e w' => e = .returned (.tuple #[.pointer none, .int .i64 1]) ∧ w = w' := fun w => hnew_no 1 17 1 0 (by omega) w
  have n3 : ∀ w, Calls Tryd.prog 9 #[.int .i64 1, .int .i64 16, .int .i64 65, .int .u64 0] w fun e w' => e = .returned (.tuple #[.pointer none, .int .i64 1]) ∧ w = w' := fun w => hnew_no 1 16 65 0 (by omega) w
  have n4 : ∀ w, Calls Tryd.prog 9 #[.int .i64 1, .int .i64 16, .int .i64 1, .int .u64 72057594037927936] w fun e w' => e = .returned (.tuple #[.pointer none, .int .i64 1]) ∧ w = w' := fun w => hnew_no 1 16 1 72057594037927936 (by omega) w
  have hN : Calls Tryd.prog 9 #[.int .i64 1, .int .i64 16, .int .i64 2, .int .u64 5] w fun e w' => ∃ hb, e = .returned (.tuple #[.pointer (some ⟨hb, 0, none⟩), .int .i64 0]) ∧ HH w w.heap.size w' hb st0 (fun _ => False) := HH.new 1 1 2 5 (by omega) (by omega) (by omega) (by omega) w hT
  have hG : ∀ w, TB w → Calls Tryd.prog 9 #[.int .i64 1, .int .i64 16, .int .i64 1, .int .u64 72057594037927935] w fun e w' => ∃ hb F, e = .returned (.tuple #[.pointer (some ⟨hb, 0, none⟩), .int .i64 0]) ∧ HP w' hb F gs0 ∧ (∀ k, F k → w.heap.size ≤ k) ∧ Below w.heap.size w w' := fun w hT => hnew_ok 1 1 1 72057594037927935 (by omega) (by omega) (by omega) (by omega) w hT
  have hGM : ∀ w hb F, HP w hb F gs0 → Calls Tryd.prog 11 #[.pointer (some ⟨hb, 0, none⟩), .int .i64 0, .int .i64 0] w fun e w' => e = .returned (.tuple #[.int .u64 0, .int .i64 7]) ∧ Kept w w' F := fun w hb F x => by
    have := x.make 0 0
    rw [st_g1] at this
    exact this.mono (fun _ _ ⟨h1, h2⟩ => ⟨h1, h2.kept⟩)
  have hM : ∀ w1 hb X, HH w w.heap.size w1 hb st0 X → Calls Tryd.prog 11 #[.pointer (some ⟨hb, 0, none⟩), .int .i64 1, .int .i64 1] w1 fun e w' => e = .returned (.tuple #[.int .u64 6, .int .i64 0]) ∧ HH w w.heap.size w' hb (st0.makeS 1 1) X ∧ Kept w1 w' (Its w.heap.size X) := fun w1 hb X x => by
    have := x.make 1 1
    rw [st_k1] at this
    exact this
  have hM8 : ∀ w1 hb X, HH w w.heap.size w1 hb (st0.makeS 1 1) X → Calls Tryd.prog 11 #[.pointer (some ⟨hb, 0, none⟩), .int .i64 8, .int .i64 0] w1 fun e w' => e = .returned (.tuple #[.int .u64 0, .int .i64 1]) ∧ HH w w.heap.size w' hb (st0.makeS 1 1) X ∧ Kept w1 w' (Its w.heap.size X) := fun w1 hb X x => by
    have := x.make 8 0
    rw [st_m8.1, st_m8.2] at this
    exact this
  have hM0 : ∀ w1 hb X, HH w w.heap.size w1 hb (st0.makeS 1 1) X → Calls Tryd.prog 11 #[.pointer (some ⟨hb, 0, none⟩), .int .i64 0, .int .i64 0] w1 fun e w' => e = .returned (.tuple #[.int .u64 0, .int .i64 2]) ∧ HH w w.heap.size w' hb (st0.makeS 1 1) X ∧ Kept w1 w' (Its w.heap.size X) := fun w1 hb X x => by
    have := x.make 0 0
    rw [st_m0, st_m0s] at this
    exact this
  have hR : ∀ w1 hb X, HH w w.heap.size w1 hb (st0.makeS 1 1) X → Calls Tryd.prog 12 #[.pointer (some ⟨hb, 0, none⟩), .int .u64 6, .int .i64 1] w1 fun e w' => e = .returned (.tuple #[.agg #[.int .i64 0, .int .u64 0], .int .i64 5]) ∧ HH w w.heap.size w' hb (st0.makeS 1 1) X ∧ Kept w1 w' (Its w.heap.size X) := fun w1 hb X x => by
    have := x.ref 6 (by omega) 1
    rw [st_r1] at this
    exact this
  have hL : ∀ w1 hb X, HH w w.heap.size w1 hb (st0.makeS 1 1) X → Calls Tryd.prog 13 #[.pointer (some ⟨hb, 0, none⟩)] w1 fun e w' => e = .returned (.int .i64 1) ∧ w1 = w' := fun w1 hb X x => by
    obtain ⟨F, hp, _⟩ := x.ex
    have := hp.len
    rw [st_len] at this
    exact this
  have hLa : ∀ w1 hb X, HH w w.heap.size w1 hb (st0.makeS 1 1) X → Calls Tryd.prog 14 #[.pointer (some ⟨hb, 0, none⟩)] w1 fun e w' => e = .returned (.int .u64 6) ∧ w1 = w' := fun w1 hb X x => by
    have := x.last
    rw [st_last] at this
    exact this
  have hNo : ∀ w1 hb X, HH w w.heap.size w1 hb (st0.makeS 1 1) X → Calls Tryd.prog 15 #[.pointer (some ⟨hb, 0, none⟩)] w1 fun e w' => e = .returned (.int .i64 1) ∧ w1 = w' := fun w1 hb X x => by
    obtain ⟨F, hp, _⟩ := x.ex
    have := hp.node
    rw [st_node] at this
    exact this
  have hU : ∀ w1 hb X, HH w w.heap.size w1 hb (st0.makeS 1 1) X → Calls Tryd.prog 16 #[.pointer (some ⟨hb, 0, none⟩)] w1 fun e w' => e = .returned (.int .i64 4) ∧ Below w1.heap.size w1 w' := fun w1 hb X x => by
    obtain ⟨F, hp, _⟩ := x.ex
    have := hp.used
    rw [st_used] at this
    exact this
  generalize st0.makeS 1 1 = s1 at *
  generalize st0 = s0 at *
  generalize gs0 = g0 at *
  have hA : ∀ (W : World) o, Below W.heap.size W (W.alloc o) := fun W o => (Below.refl _ _).alloc (Nat.le_refl _) o
  have hBpos := hT.size
  go_enter Tryd.func3, Tryd.ntmps3
  go_wp2_with fail
  refine (n1 _).mono ?_
  rintro e _ ⟨rfl, rfl⟩
  go_wp2_with fail
  refine (n2 _).mono ?_
  rintro e _ ⟨rfl, rfl⟩
  go_wp2_with fail
  refine (n3 _).mono ?_
  rintro e _ ⟨rfl, rfl⟩
  go_wp2_with fail
  refine (n4 _).mono ?_
  rintro e _ ⟨rfl, rfl⟩
  go_wp2_with fail
  refine hN.mono ?_
  rintro e w1 ⟨hb, rfl, x1⟩
  go_wp2_with fail
  refine (hG _ x1.tb).mono ?_
  rintro e w2 ⟨gb, G, rfl, y2, hG2, hb2⟩
  have x2 := x1.fence hb2
  have hlt2 := y2.lt
  go_wp2_with fail
  refine (hknown_any _ x2.tb).mono ?_
  rintro e w3 ⟨rfl, hb3⟩
  have x3 := x2.read hb3
  have y3 := y2.below hb3
  go_wp2_with fail
  refine (hGM _ _ _ y3).mono ?_
  rintro e w4 ⟨rfl, k4⟩
  have x4 := x3.other k4 (fun k hk => ⟨Or.inr ⟨hG2 k hk, hlt2 k hk⟩, Nat.le_trans x1.le (hG2 k hk)⟩) hBpos
  clear x1 x2 x3 y2 y3 k4 hlt2 hG2 hb2 hb3 n1 n2 n3 n4 hN hG hGM
  go_wp2_with fail
  refine (hM _ _ _ x4).mono ?_
  rintro e w5 ⟨rfl, x5, _⟩
  go_wp2_with fail
  refine (hM8 _ _ _ x5).mono ?_
  rintro e w6 ⟨rfl, x6, _⟩
  go_wp2_with fail
  refine (hM0 _ _ _ x6).mono ?_
  rintro e w7 ⟨rfl, x7, _⟩
  go_wp2_with fail
  refine (hR _ _ _ x7).mono ?_
  rintro e w8 ⟨rfl, x8, _⟩
  have x9 := fun o => x8.read (hA _ o)
  clear x4 x5 x6 x7 x8
  go_wp2_with (first
    | (go_at_call 13; refine (hL _ _ _ (x9 _)).mono ?_; rintro e _ ⟨rfl, rfl⟩)
    | (go_at_call 14; refine (hLa _ _ _ (x9 _)).mono ?_; rintro e _ ⟨rfl, rfl⟩)
    | (go_at_call 15; refine (hNo _ _ _ (x9 _)).mono ?_; rintro e _ ⟨rfl, rfl⟩)
    | (go_at_call 16; refine (hU _ _ _ (x9 _)).mono ?_; rintro e w9 ⟨rfl, hb9⟩))
  go_ret
  exact ⟨rfl, ((x9 _).read hb9).bel⟩

end Go.Proofs.YthjbbghmmikmmaaDoor
