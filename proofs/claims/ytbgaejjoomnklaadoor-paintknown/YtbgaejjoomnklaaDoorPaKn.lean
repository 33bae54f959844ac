/- The law's own example; PaintKnown. -/
import Derived.Test.YtbgaejjoomnklaaDoorPaP
namespace Go.Proofs.YtbgaejjoomnklaaDoor
open Go.RowKit

/-- The example's heaps and paints. -/
def hk0 : HSt := ⟨1, 4, 0, List.replicate 4 bk0, []⟩
def hk1 : HSt := hk0.makeS 1 0
def hk2 : HSt := hk1.makeS 1 0
def hk3 : HSt := hk2.setRefS 1 0 (1, 2)
def hk4 : HSt := hk3.setRefS 2 0 (2, 7)
def pk1 : PSt := (PSt.new 4).turn
def pk2 : PSt := pk1.shade hk4 (1, 1) 3
def pk3 : PSt := pk2.scan hk4 1
theorem kk1 : hk0.makeR 1 0 = (1, 0) := by kernel_rfl
theorem kk2 : hk1.makeR 1 0 = (2, 0) := by kernel_rfl
theorem kk3 : hk2.setRefR 1 0 (1, 2) = ((0, 0), 0) := by kernel_rfl
theorem kk4 : hk3.setRefR 2 0 (2, 7) = ((0, 0), 0) := by kernel_rfl
theorem kk5 : markR hk4 pk2 1 = (3, true, true) := by kernel_rfl
theorem kk6 : scanR hk4 pk2 1 = true := by kernel_rfl
theorem kk7 : markR hk4 pk3 2 = (3, true, true) := by kernel_rfl
theorem kk8 : pk3.stk.length = 2 := by kernel_rfl

theorem TB.pos {w : World} (h : TB w) : 0 < w.heap.size := h.size

set_option maxRecDepth 20000 in
set_option maxHeartbeats 1000000 in
theorem pknown_any (w : World) (hT : TB w) :
    Calls Tryd.prog 8 #[] w fun e w' => e = .returned (.bool true) ∧ Below w.heap.size w w' := by
  have hpos : 0 < w.heap.size := hT.pos
  have hN : Calls Tryd.prog 7 #[.int .i64 1, .int .i64 64, .int .i64 4, .int .u64 0] w fun e w' => ∃ hb, e = .returned (.tuple #[.pointer (some ⟨hb, 0, none⟩), .int .i64 0]) ∧ HH w w.heap.size w' hb hk0 (fun _ => False) := HH.new 1 4 4 0 (by omega) (by omega) (by omega) (by omega) w hT
  have hM1 : ∀ w1 hb, HH w w.heap.size w1 hb hk0 (fun _ => False) → Calls Tryd.prog 9 #[.pointer (some ⟨hb, 0, none⟩), .int .i64 1, .int .i64 0] w1 fun e w' => e = .returned (.tuple #[.int .u64 1, .int .i64 0]) ∧ HH w w.heap.size w' hb hk1 (fun _ => False) ∧ Kept w1 w' (Its w.heap.size (fun _ => False)) := fun w1 hb x => by
    have := x.make 1 0
    rw [kk1] at this
    exact this
  have hM2 : ∀ w1 hb, HH w w.heap.size w1 hb hk1 (fun _ => False) → Calls Tryd.prog 9 #[.pointer (some ⟨hb, 0, none⟩), .int .i64 1, .int .i64 0] w1 fun e w' => e = .returned (.tuple #[.int .u64 2, .int .i64 0]) ∧ HH w w.heap.size w' hb hk2 (fun _ => False) ∧ Kept w1 w' (Its w.heap.size (fun _ => False)) := fun w1 hb x => by
    have := x.make 1 0
    rw [kk2] at this
    exact this
  have hS1 : ∀ w1 hb, HH w w.heap.size w1 hb hk2 (fun _ => False) → Calls Tryd.prog 10 #[.pointer (some ⟨hb, 0, none⟩), .int .u64 1, .int .i64 0, .agg #[.int .i64 1, .int .u64 2]] w1 fun e w' => e = .returned (.tuple #[.agg #[.int .i64 0, .int .u64 0], .int .i64 0]) ∧ HH w w.heap.size w' hb hk3 (fun _ => False) ∧ Kept w1 w' (Its w.heap.size (fun _ => False)) := fun w1 hb x => by
    have := x.setRef 1 (by omega) 0 1 2
    rw [kk3] at this
    exact this
  have hS2 : ∀ w1 hb, HH w w.heap.size w1 hb hk3 (fun _ => False) → Calls Tryd.prog 10 #[.pointer (some ⟨hb, 0, none⟩), .int .u64 2, .int .i64 0, .agg #[.int .i64 2, .int .u64 7]] w1 fun e w' => e = .returned (.tuple #[.agg #[.int .i64 0, .int .u64 0], .int .i64 0]) ∧ HH w w.heap.size w' hb hk4 (fun _ => False) ∧ Kept w1 w' (Its w.heap.size (fun _ => False)) := fun w1 hb x => by
    have := x.setRef 2 (by omega) 0 2 7
    rw [kk4] at this
    exact this
  have hP := fun w1 hb (x : HH w w.heap.size w1 hb hk4 (fun _ => False)) => x.paint hpos 4 (by omega) (by omega)
  have hTu := fun w1 pb hb (x : PH w w.heap.size w1 pb hb hk4 (PSt.new 4) (fun _ => False)) => x.turn (by show 0 < 1000000; omega)
  have hSh : ∀ w1 pb hb, PH w w.heap.size w1 pb hb hk4 pk1 (fun _ => False) → Calls Tryd.prog 12 #[.pointer (some ⟨pb, 0, none⟩), .agg #[.int .i64 1, .int .u64 1], .int .i64 3] w1 fun e w' => e = .returned (.tuple #[]) ∧ PH w w.heap.size w' pb hb hk4 pk2 (fun _ => False) ∧ Kept w1 w' (Its w.heap.size (fun _ => False)) := fun w1 pb hb x => x.shade 1 1 3
  have hMa : ∀ w1 pb hb, PH w w.heap.size w1 pb hb hk4 pk2 (fun _ => False) → Calls Tryd.prog 13 #[.pointer (some ⟨pb, 0, none⟩), .int .u64 1] w1 fun e w' => e = .returned (.tuple #[.int .i64 3, .bool true, .bool true]) ∧ Below w1.heap.size w1 w' := fun w1 pb hb x => by
    have := x.mark 1 (by omega)
    rw [kk5] at this
    exact this
  have hSc : ∀ w1 pb hb, PH w w.heap.size w1 pb hb hk4 pk2 (fun _ => False) → Calls Tryd.prog 14 #[.pointer (some ⟨pb, 0, none⟩), .int .u64 1] w1 fun e w' => e = .returned (.bool true) ∧ PH w w.heap.size w' pb hb hk4 pk3 (fun _ => False) ∧ Kept w1 w' (Its w.heap.size (fun _ => False)) := fun w1 pb hb x => by
    have := x.scan 1 (by omega)
    rw [kk6] at this
    exact this
  have hMb : ∀ w1 pb hb, PH w w.heap.size w1 pb hb hk4 pk3 (fun _ => False) → Calls Tryd.prog 13 #[.pointer (some ⟨pb, 0, none⟩), .int .u64 2] w1 fun e w' => e = .returned (.tuple #[.int .i64 3, .bool true, .bool true]) ∧ Below w1.heap.size w1 w' := fun w1 pb hb x => by
    have := x.mark 2 (by omega)
    rw [kk7] at this
    exact this
  have hW : ∀ w1 pb hb, PH w w.heap.size w1 pb hb hk4 pk3 (fun _ => False) → Calls Tryd.prog 21 #[.pointer (some ⟨pb, 0, none⟩)] w1 fun e w' => e = .returned (.int .i64 2) ∧ w1 = w' := fun w1 pb hb x => by
    have := x.waiting
    rw [kk8] at this
    exact this
  have HPT : Hid (∀ w1 pb hb, PH w w.heap.size w1 pb hb hk4 (PSt.new 4).turn (fun _ => False) → PH w w.heap.size w1 pb hb hk4 pk1 (fun _ => False)) := fun _ _ _ x => x
  generalize pk3 = p3 at *
  generalize pk2 = p2 at *
  generalize pk1 = p1 at *
  generalize PSt.turn (PSt.new 4) = p1' at *
  generalize PSt.new 4 = p0 at *
  generalize hk4 = h4 at *
  generalize hk3 = h3 at *
  generalize hk2 = h2 at *
  generalize hk1 = h1 at *
  generalize hk0 = h0 at *
  go_enter Tryd.func8, Tryd.ntmps8
  go_wp2_with fail
  refine hN.mono ?_
  rintro e w1 ⟨hb, rfl, x1⟩
  go_wp2_with fail
  refine (hM1 _ _ x1).mono ?_
  rintro e w2 ⟨rfl, x2, k2⟩
  clear x1 k2 hM1 hN
  go_wp2_with fail
  refine (hM2 _ _ x2).mono ?_
  rintro e w3 ⟨rfl, x3, k3⟩
  clear x2 k3 hM2
  go_wp2_with fail
  refine (hS1 _ _ x3).mono ?_
  rintro e w4 ⟨rfl, x4, k4⟩
  clear x3 k4 hS1
  go_wp2_with fail
  refine (hS2 _ _ x4).mono ?_
  rintro e w5 ⟨rfl, x5, k5⟩
  clear x4 k5 hS2
  go_wp2_with fail
  refine (hP _ _ x5).mono ?_
  rintro e w6 ⟨pb, rfl, x6, b6⟩
  clear x5 b6 hP
  go_wp2_with fail
  refine (hTu _ _ _ x6).mono ?_
  rintro e w7 ⟨rfl, x7, k7⟩
  have y7 := HPT.out _ _ _ x7
  clear x6 x7 k7 hTu HPT
  go_wp2_with fail
  refine (hSh _ _ _ y7).mono ?_
  rintro e w8 ⟨rfl, x8, k8⟩
  clear y7 k8 hSh
  go_wp2_with fail
  refine (hMa _ _ _ x8).mono ?_
  rintro e w9 ⟨rfl, b9⟩
  have x9 := x8.read b9
  clear x8 b9 hMa
  go_wp2_with fail
  refine (hSc _ _ _ x9).mono ?_
  rintro e w10 ⟨rfl, x10, k10⟩
  clear x9 k10 hSc
  go_wp2_with fail
  refine (hMb _ _ _ x10).mono ?_
  rintro e w11 ⟨rfl, b11⟩
  have x11 := x10.read b11
  clear x10 b11 hMb
  go_wp2_with fail
  refine (hW _ _ _ x11).mono ?_
  rintro e _ ⟨rfl, rfl⟩
  have HB : Hid _ := hidden x11.bel
  clear x11 hW
  go_wp2
  go_ret
  exact ⟨rfl, HB.out⟩

def hq2 : HSt := hk1.setRefS 1 0 (2, 7)
def pq1 : PSt := (PSt.new 1).shade hq2 (1, 1) 99
def pq2 : PSt := pq1.scan hq2 1
def pq3 : PSt := pq2.shade hq2 (1, 9) 0
theorem qq1 : hk1.setRefR 1 0 (2, 7) = ((0, 0), 0) := by kernel_rfl
theorem qq2 : markR hq2 pq1 1 = (40, true, true) := by kernel_rfl
theorem qq3 : scanR hq2 pq1 1 = true := by kernel_rfl
theorem qq4 : metR pq2 (2, 7) = (40, true) := by kernel_rfl
theorem qq5 : markR hq2 pq3 9 = (0, false, false) := by kernel_rfl
theorem qq6 : pq3.me = [((2, 7), 40)] := by kernel_rfl
theorem qq7 : pq3.turns = 0 := by kernel_rfl
set_option maxRecDepth 20000 in
set_option maxHeartbeats 1000000 in
theorem paintKnown_any (w : World) (hT : TB w) :
    Calls Tryd.prog 3 #[] w fun e w' => e = .returned (.bool true) ∧ Below w.heap.size w w' := by
  have hpos : 0 < w.heap.size := hT.pos
  have hN : Calls Tryd.prog 7 #[.int .i64 1, .int .i64 64, .int .i64 4, .int .u64 0] w fun e w' => ∃ hb, e = .returned (.tuple #[.pointer (some ⟨hb, 0, none⟩), .int .i64 0]) ∧ HH w w.heap.size w' hb hk0 (fun _ => False) := HH.new 1 4 4 0 (by omega) (by omega) (by omega) (by omega) w hT
  have hM1 : ∀ w1 hb, HH w w.heap.size w1 hb hk0 (fun _ => False) → Calls Tryd.prog 9 #[.pointer (some ⟨hb, 0, none⟩), .int .i64 1, .int .i64 0] w1 fun e w' => e = .returned (.tuple #[.int .u64 1, .int .i64 0]) ∧ HH w w.heap.size w' hb hk1 (fun _ => False) ∧ Kept w1 w' (Its w.heap.size (fun _ => False)) := fun w1 hb x => by
    have := x.make 1 0
    rw [kk1] at this
    exact this
  have hS1 : ∀ w1 hb, HH w w.heap.size w1 hb hk1 (fun _ => False) → Calls Tryd.prog 10 #[.pointer (some ⟨hb, 0, none⟩), .int .u64 1, .int .i64 0, .agg #[.int .i64 2, .int .u64 7]] w1 fun e w' => e = .returned (.tuple #[.agg #[.int .i64 0, .int .u64 0], .int .i64 0]) ∧ HH w w.heap.size w' hb hq2 (fun _ => False) ∧ Kept w1 w' (Its w.heap.size (fun _ => False)) := fun w1 hb x => by
    have := x.setRef 1 (by omega) 0 2 7
    rw [qq1] at this
    exact this
  have hP : ∀ w1 hb, HH w w.heap.size w1 hb hq2 (fun _ => False) → Calls Tryd.prog 11 #[.pointer (some ⟨hb, 0, none⟩), .int .i64 1] w1 fun e w' => ∃ pb, e = .returned (.tuple #[.pointer (some ⟨pb, 0, none⟩), .int .i64 0]) ∧ PH w w.heap.size w' pb hb hq2 (PSt.new 1) (fun _ => False) ∧ Below w1.heap.size w1 w' := fun w1 hb x => x.paint hpos 1 (by omega) (by omega)
  have hPn := fun w1 => pnew_nil 1 w1
  have hPo := fun w1 hb => pnew_no hb 0 (by omega) w1
  have hSh : ∀ w1 pb hb, PH w w.heap.size w1 pb hb hq2 (PSt.new 1) (fun _ => False) → Calls Tryd.prog 12 #[.pointer (some ⟨pb, 0, none⟩), .agg #[.int .i64 1, .int .u64 1], .int .i64 99] w1 fun e w' => e = .returned (.tuple #[]) ∧ PH w w.heap.size w' pb hb hq2 pq1 (fun _ => False) ∧ Kept w1 w' (Its w.heap.size (fun _ => False)) := fun w1 pb hb x => x.shade 1 1 99
  have hMa : ∀ w1 pb hb, PH w w.heap.size w1 pb hb hq2 pq1 (fun _ => False) → Calls Tryd.prog 13 #[.pointer (some ⟨pb, 0, none⟩), .int .u64 1] w1 fun e w' => e = .returned (.tuple #[.int .i64 40, .bool true, .bool true]) ∧ Below w1.heap.size w1 w' := fun w1 pb hb x => by
    have := x.mark 1 (by omega)
    rw [qq2] at this
    exact this
  have hSc : ∀ w1 pb hb, PH w w.heap.size w1 pb hb hq2 pq1 (fun _ => False) → Calls Tryd.prog 14 #[.pointer (some ⟨pb, 0, none⟩), .int .u64 1] w1 fun e w' => e = .returned (.bool true) ∧ PH w w.heap.size w' pb hb hq2 pq2 (fun _ => False) ∧ Kept w1 w' (Its w.heap.size (fun _ => False)) := fun w1 pb hb x => by
    have := x.scan 1 (by omega)
    rw [qq3] at this
    exact this
  have hMe : ∀ w1 pb hb, PH w w.heap.size w1 pb hb hq2 pq2 (fun _ => False) → Calls Tryd.prog 15 #[.pointer (some ⟨pb, 0, none⟩), .agg #[.int .i64 2, .int .u64 7]] w1 fun e w' => e = .returned (.tuple #[.int .i64 40, .bool true]) ∧ Below w1.heap.size w1 w' := fun w1 pb hb x => by
    have := x.met 2 7
    rw [qq4] at this
    exact this
  have hS9 : ∀ w1 pb hb, PH w w.heap.size w1 pb hb hq2 pq2 (fun _ => False) → Calls Tryd.prog 12 #[.pointer (some ⟨pb, 0, none⟩), .agg #[.int .i64 1, .int .u64 9], .int .i64 0] w1 fun e w' => e = .returned (.tuple #[]) ∧ PH w w.heap.size w' pb hb hq2 pq3 (fun _ => False) ∧ Kept w1 w' (Its w.heap.size (fun _ => False)) := fun w1 pb hb x => x.shade 1 9 0
  have hM9 : ∀ w1 pb hb, PH w w.heap.size w1 pb hb hq2 pq3 (fun _ => False) → Calls Tryd.prog 13 #[.pointer (some ⟨pb, 0, none⟩), .int .u64 9] w1 fun e w' => e = .returned (.tuple #[.int .i64 0, .bool false, .bool false]) ∧ Below w1.heap.size w1 w' := fun w1 pb hb x => by
    have := x.mark 9 (by omega)
    rw [qq5] at this
    exact this
  have hOu : ∀ w1 pb hb, PH w w.heap.size w1 pb hb hq2 pq3 (fun _ => False) → Calls Tryd.prog 16 #[.pointer (some ⟨pb, 0, none⟩)] w1 fun e w' => ∃ g cap, e = .returned (.slice (some ⟨g, 0, none⟩) 1 cap) ∧ w'.cell? ⟨g, 2, none⟩ = some (.int .i64 40) ∧ g < w'.heap.size ∧ Below w1.heap.size w1 w' := fun w1 pb hb x => by
    refine (x.outs (by rw [qq6]; intro e he; rw [List.mem_singleton] at he; subst he; decide) (by rw [qq6]; simp)).mono ?_
    rintro e w' ⟨r, L, he, ho, hl, hb⟩
    rw [qq6] at ho
    have hL : L = [((2, 7), 40)] := List.perm_singleton.1 ho.1
    subst hL
    obtain ⟨ao, cap, hr, h0⟩ := hl.ex
    obtain ⟨g, e1, _, hg, hc⟩ := h0 (by simp)
    subst e1
    exact ⟨g, cap, by rw [he, hr]; rfl, hc 2 _ rfl, hg, hb⟩
  have hTs : ∀ w1 pb hb, PH w w.heap.size w1 pb hb hq2 pq3 (fun _ => False) → Calls Tryd.prog 17 #[.pointer (some ⟨pb, 0, none⟩)] w1 fun e w' => e = .returned (.int .u64 0) ∧ w1 = w' := fun w1 pb hb x => by
    have := x.turns
    rw [qq7] at this
    exact this
  generalize pq3 = p3 at *
  generalize pq2 = p2 at *
  generalize pq1 = p1 at *
  generalize PSt.new 1 = p0 at *
  generalize hq2 = h2 at *
  generalize hk1 = h1 at *
  generalize hk0 = h0 at *
  go_enter Tryd.func3, Tryd.ntmps3
  go_wp2_with fail
  refine hN.mono ?_
  rintro e w1 ⟨hb, rfl, x1⟩
  go_wp2_with fail
  refine (pknown_any _ x1.tb).mono ?_
  rintro e w2 ⟨rfl, b2⟩
  have x2 := x1.read b2
  clear x1 b2 hN
  go_wp2_with fail
  refine (hM1 _ _ x2).mono ?_
  rintro e w3 ⟨rfl, x3, k3⟩
  clear x2 k3 hM1
  go_wp2_with fail
  refine (hS1 _ _ x3).mono ?_
  rintro e w4 ⟨rfl, x4, k4⟩
  clear x3 k4 hS1
  go_wp2_with fail
  refine (hP _ _ x4).mono ?_
  rintro e w5 ⟨pb, rfl, x5, b5⟩
  clear x4 b5 hP
  go_wp2_with fail
  refine (hPn _).mono ?_
  rintro e w6 ⟨rfl, b6⟩
  have x6 := x5.read b6
  clear x5 b6 hPn
  go_wp2_with fail
  refine (hPo _ _).mono ?_
  rintro e _ ⟨rfl, rfl⟩
  clear hPo
  go_wp2_with fail
  refine (hSh _ _ _ x6).mono ?_
  rintro e w8 ⟨rfl, x8, k8⟩
  clear x6 k8 hSh
  go_wp2_with fail
  refine (hMa _ _ _ x8).mono ?_
  rintro e w9 ⟨rfl, b9⟩
  have x9 := x8.read b9
  clear x8 b9 hMa
  go_wp2_with fail
  refine (hSc _ _ _ x9).mono ?_
  rintro e w10 ⟨rfl, x10, k10⟩
  clear x9 k10 hSc
  go_wp2_with fail
  refine (hMe _ _ _ x10).mono ?_
  rintro e w11 ⟨rfl, b11⟩
  have x11 := x10.read b11
  clear x10 b11 hMe
  go_wp2_with fail
  refine (hS9 _ _ _ x11).mono ?_
  rintro e w12 ⟨rfl, x12, k12⟩
  clear x11 k12 hS9
  go_wp2_with fail
  refine (hM9 _ _ _ x12).mono ?_
  rintro e w13 ⟨rfl, b13⟩
  have x13 := x12.read b13
  clear x12 b13 hM9
  go_wp2_with fail
  refine (hOu _ _ _ x13).mono ?_
  rintro e w14 ⟨g, cap, rfl, c14, hg14, b14⟩
  have x14 := x13.read b14
  clear x13 b14 hOu
  go_wp2_with fail
  refine (hTs _ _ _ x14).mono ?_
  rintro e _ ⟨rfl, rfl⟩
  have HB : Hid _ := hidden x14.bel
  clear x14 hTs
  go_wp2
  go_ret
  exact ⟨rfl, HB.out⟩

end Go.Proofs.YtbgaejjoomnklaaDoor
