/- The Reader's calls. -/
import Derived.Test.YtcpegfjjdojinaaWalkH
import Derived.Deep.QuietTactic
import Derived.BigQuiet
namespace Go.Proofs.Ytcpegfjjdojinaa
open Go.RowKit

/-- A Reader lies at the head of block rb; the bytes L lie in block g; its place is p; e is what was wrong first. -/
structure RD (w : World) (rb g : Nat) (L : List UInt8) (p e : Nat) : Prop where
  box : w.heap[rb]? = some (.cells #[.slice (some ⟨g, 0, none⟩) L.length L.length, .int .i64 (p : Int), .int .i64 (e : Int)] 81 (0, 0))
  row : w.heap[g]? = some (.cells (L.map bv).toArray 5 (0, 0))
  lt : g < rb
  le : p ≤ L.length
  len : L.length ≤ 140737488355328

section
variable {w w' : World} {rb g : Nat} {L : List UInt8} {p e : Nat}
theorem RD.size (h : RD w rb g L p e) : rb < w.heap.size := (Array.getElem?_eq_some_iff.1 h.box).1
theorem RD.c0 (h : RD w rb g L p e) : w.cell? ⟨rb, 0, none⟩ = some (.slice (some ⟨g, 0, none⟩) L.length L.length) := by rw [cell_of_row w rb 0 _ _ _ h.box]; rfl
theorem RD.c1 (h : RD w rb g L p e) : w.cell? ⟨rb, 1, none⟩ = some (.int .i64 (p : Int)) := by rw [cell_of_row w rb 1 _ _ _ h.box]; rfl
theorem RD.c2 (h : RD w rb g L p e) : w.cell? ⟨rb, 2, none⟩ = some (.int .i64 (e : Int)) := by rw [cell_of_row w rb 2 _ _ _ h.box]; rfl
theorem RD.free (h : RD w rb g L p e) (j : Nat) : w.frozen? ⟨rb, j, none⟩ = false := frozen_of_row w rb j _ _ h.box
theorem RD.bs (h : RD w rb g L p e) : Bs w (.slice (some ⟨g, 0, none⟩) L.length L.length) L := Bs.ofBlock h.row (List.take_of_length_le (by simp)) (Nat.le_refl _)
theorem RD.keep {S : Nat → Prop} (h : RD w rb g L p e) (hk : Kept w w' S) (h1 : ¬ S rb) (h2 : ¬ S g) : RD w' rb g L p e :=
  ⟨(hk.block rb h.size h1).trans h.box, (hk.block g (Nat.lt_trans h.lt h.size) h2).trans h.row, h.lt, h.le, h.len⟩
theorem RD.below (h : RD w rb g L p e) (hb : Below w.heap.size w w') : RD w' rb g L p e := h.keep (kept_of_below hb (fun _ => False)) (fun x => x) (fun x => x)
/-- What was wrong is kept. -/
theorem RD.setWrong (h : RD w rb g L p e) (n : Nat) (x : Int) (hx : x = (n : Int)) : RD (w.setCell ⟨rb, 2, none⟩ (.int .i64 x)) rb g L p n ∧ Kept w (w.setCell ⟨rb, 2, none⟩ (.int .i64 x)) (fun k => k = rb) := by
  subst hx
  refine ⟨⟨?_, ?_, h.lt, h.le, h.len⟩, Kept.setCell w _ _⟩
  · rw [heap_setCell_same w rb 2 _ _ _ h.box]; rfl
  · rw [heap_setCell_other w _ g _ (by have := h.lt; simp; omega)]; exact h.row
/-- The place goes on. -/
theorem RD.setPlace (h : RD w rb g L p e) (n : Nat) (x : Int) (hx : x = (n : Int)) (hn : n ≤ L.length) : RD (w.setCell ⟨rb, 1, none⟩ (.int .i64 x)) rb g L n e ∧ Kept w (w.setCell ⟨rb, 1, none⟩ (.int .i64 x)) (fun k => k = rb) := by
  subst hx
  refine ⟨⟨?_, ?_, h.lt, hn, h.len⟩, Kept.setCell w _ _⟩
  · rw [heap_setCell_same w rb 1 _ _ _ h.box]; rfl
  · rw [heap_setCell_other w _ g _ (by have := h.lt; simp; omega)]; exact h.row
end

set_option maxRecDepth 20000 in
set_option maxHeartbeats 400000 in
theorem newReader_any (v : Value) (l : List UInt8) (w : World) (hv : Bs w v l) (hl : l.length ≤ 140737488355328) :
    Calls Try.prog 27 #[v] w fun e w' => ∃ rb, w.heap.size < rb ∧ e = .returned (.pointer (some ⟨rb, 0, none⟩)) ∧ RD w' rb w.heap.size l 0 0 ∧ Below w.heap.size w w' := by
  obtain ⟨ao, cap, rfl, hc, hx⟩ := id hv
  clear hx
  go_enter Try.func27, Try.ntmps27
  go_wp2_with (go_at_call 53; refine (fresh_any _ l _ hv hl).mono ?_; rintro e w1 ⟨rfl, hg1, hb1, hlt1⟩)
  go_ret
  refine ⟨w1.heap.size, hlt1, rfl, ⟨heap_alloc_new w1 _, ?_, hlt1, Nat.zero_le _, hl⟩, hb1.alloc (Nat.le_of_lt hlt1) _⟩
  exact (Below.heap_alloc w1 _ _ hlt1).trans hg1

theorem below_drewN (w : World) (n : Nat) : Below w.heap.size w (w.drewN n) := ⟨rfl, rfl, rfl, Nat.le_refl _, fun _ _ => rfl⟩

theorem left_bs {w : World} {rb g : Nat} {L : List UInt8} {p e : Nat} (h : RD w rb g L p e) : Bs w (.slice (some ⟨g, p, none⟩) (L.length - p) (L.length - p)) (L.drop p) := by
  have := h.bs.post p h.le
  simpa [Addr.add_at] using this

set_option maxRecDepth 20000 in
set_option maxHeartbeats 400000 in
/-- What is left to be read. -/
theorem left_any (w : World) (rb g : Nat) (L : List UInt8) (p e : Nat) (h : RD w rb g L p e) :
    Calls Try.prog 57 #[.pointer (some ⟨rb, 0, none⟩)] w fun r w' => ∃ q, r = .returned (.slice (some ⟨g, q, none⟩) (L.length - p) (L.length - p)) ∧ Bs w' (.slice (some ⟨g, q, none⟩) (L.length - p) (L.length - p)) (L.drop p) ∧ Below w.heap.size w w' := by
  have h0 := h.c0
  have h1 := h.c1
  have hp := h.le
  have hlen := h.len
  have hp1 : (0 : Int) ≤ (p : Int) := by omega
  have hp2 : (p : Int) ≤ (L.length : Int) := by omega
  by_cases hlt : p = L.length
  · subst hlt
    go_enter Try.func57, Try.ntmps57
    go_wp2
    go_quiet (fail)
    go_wp2
    go_ret
    refine ⟨0, by simp, ?_, below_drewN _ _⟩
    rw [List.drop_length, Nat.sub_self]
    exact ⟨_, 0, rfl, ⟨by simp, fun h => by cases h⟩, fun h => absurd rfl h⟩
  · have hlt2 : ¬ L.length = p := fun e => hlt e.symm
    go_enter Try.func57, Try.ntmps57
    go_wp2
    go_quiet (fail)
    go_wp2
    go_ret
    exact ⟨p, rfl, (left_bs h).below (below_drewN _ _), below_drewN _ _⟩

theorem Bs.head {w : World} {g q n c : Nat} {l r : List UInt8} {x : UInt8} (h : Bs w (.slice (some ⟨g, q, none⟩) n c) l) (hl : l = x :: r) : w.cell? ⟨g, q, none⟩ = some (.int .u8 (x.toNat : Int)) := by
  subst hl
  obtain ⟨ao', cap', e, hc, hx⟩ := h
  simp only [Value.slice.injEq] at e
  obtain ⟨rfl, rfl, rfl⟩ := e
  obtain ⟨b, off, e, _, hs⟩ := hx (by simp)
  simp only [Option.some.injEq, Addr.mk.injEq, and_true] at e
  obtain ⟨rfl, rfl⟩ := e
  exact hs 0 x rfl

/-! what the calls come to -/
def rByte (L : List UInt8) (p e most : Nat) : Nat × Nat × Nat :=
  if e ≠ 0 then (0, p, e) else
  match L.drop p with
  | [] => (0, p, 20)
  | x :: _ => if most < x.toNat then (0, p, 22) else (x.toNat, p + 1, 0)
theorem rByte_wrong {L : List UInt8} {p e most : Nat} (h : e ≠ 0) : rByte L p e most = (0, p, e) := by rw [rByte, if_pos h]
theorem rByte_short {L : List UInt8} {p most : Nat} (h : L.drop p = []) : rByte L p 0 most = (0, p, 20) := by rw [rByte, if_neg (by simp), h]
theorem rByte_long {L r : List UInt8} {p most : Nat} {x : UInt8} (h : L.drop p = x :: r) (h2 : most < x.toNat) : rByte L p 0 most = (0, p, 22) := by
  rw [rByte, if_neg (by simp), h]; simp [h2]
theorem rByte_ok {L r : List UInt8} {p most : Nat} {x : UInt8} (h : L.drop p = x :: r) (h2 : ¬ most < x.toNat) : rByte L p 0 most = (x.toNat, p + 1, 0) := by
  rw [rByte, if_neg (by simp), h]; simp [h2]
def rNum (L : List UInt8) (p e most : Nat) : Nat × Nat × Nat :=
  if e ≠ 0 then (0, p, e) else
  if (nm (L.drop p) 0 0).2.2 ≠ 0 then (0, p, (nm (L.drop p) 0 0).2.2) else
  if most < (nm (L.drop p) 0 0).1 then (0, p, 22) else ((nm (L.drop p) 0 0).1, p + (nm (L.drop p) 0 0).2.1, 0)

/-- How far a Reader has come since w. -/
structure RTo (w w' : World) (rb g : Nat) (L : List UInt8) (p e : Nat) : Prop where
  rd : RD w' rb g L p e
  kept : Kept w w' (fun k => k = rb)
theorem RTo.refl {w : World} {rb g : Nat} {L : List UInt8} {p e : Nat} (h : RD w rb g L p e) : RTo w w rb g L p e := ⟨h, Kept.refl _ _⟩
theorem RTo.trans {w w1 w2 : World} {rb g : Nat} {L : List UInt8} {p e p' e' : Nat} (h : RTo w w1 rb g L p e) (k : RTo w1 w2 rb g L p' e') : RTo w w2 rb g L p' e' :=
  ⟨k.rd, h.kept.trans k.kept (fun _ _ x => x)⟩
theorem RTo.ofBelow {w w' : World} {rb g : Nat} {L : List UInt8} {p e : Nat} (h : RD w rb g L p e) (hb : Below w.heap.size w w') : RTo w w' rb g L p e := ⟨h.below hb, kept_of_below hb _⟩

theorem RTo.bel {w w' : World} {rb g : Nat} {L : List UInt8} {p e B : Nat} (h : RTo w w' rb g L p e) (hB : B ≤ rb) (hs : B ≤ w.heap.size) : Below B w w' := h.kept.below hs (fun i hi e => by omega)
/-- Another Reader stays as it is. -/
theorem RTo.other {w w' : World} {rb g rb2 g2 : Nat} {L L2 : List UInt8} {p e p2 e2 : Nat} (h : RTo w w' rb g L p e) (k : RD w rb2 g2 L2 p2 e2) (h1 : rb2 ≠ rb) (h2 : g2 ≠ rb) : RD w' rb2 g2 L2 p2 e2 := k.keep h.kept h1 h2

theorem ret_u8 {a : Nat} {r : Nat × Nat × Nat} {x : Nat × Nat} (h : r = (a, x)) : Ending.returned (.int .u8 (a : Int)) = .returned (.int .u8 (r.1 : Int)) := by subst h; rfl

set_option maxRecDepth 20000 in
set_option maxHeartbeats 1000000 in
theorem rbyte_any (w : World) (rb g : Nat) (L : List UInt8) (p e : Nat) (most : Nat) (h : RD w rb g L p e) :
    Calls Try.prog 55 #[.pointer (some ⟨rb, 0, none⟩), .int .u8 (most : Int)] w fun r w' => r = .returned (.int .u8 ((rByte L p e most).1 : Int)) ∧ RTo w w' rb g L (rByte L p e most).2.1 (rByte L p e most).2.2 := by
  have h2 := h.c2
  by_cases he : e = 0
  · subst he
    have hlen := h.len
    have hp := h.le
    cases hd : L.drop p with
    | nil =>
      have hpl : p = L.length := by
        have := congrArg List.length hd
        simp at this
        omega
      subst hpl
      have E := rByte_short (most := most) hd
      rw [E]
      clear E hd
      go_enter Try.func55, Try.ntmps55
      go_wp2_with (go_at_call 57; refine (left_any _ rb g L _ 0 h).mono ?_; rintro e w1 ⟨q, rfl, hq, hb1⟩; have h1 := h.below hb1; have c2 := h1.c2; have f2 := h1.free 2)
      go_ret
      exact ⟨rfl, (RTo.ofBelow h hb1).trans ⟨(h1.setWrong 20 _ rfl).1, (h1.setWrong 20 _ rfl).2⟩⟩
    | cons x r =>
      have hlt : p < L.length := by
        have := congrArg List.length hd
        simp at this
        omega
      have hx := x.toNat_lt
      have HD : Hid (L.drop p = x :: r) := hd
      clear hd
      have hne : g ≠ rb := by have := h.lt; omega
      have hpos : ((L.length - p : Nat) : Int) ≠ 0 := by omega
      by_cases hm2 : most < x.toNat
      · have E := rByte_long HD.out hm2
        rw [E]
        clear E
        go_enter Try.func55, Try.ntmps55
        go_wp2_with (go_at_call 57; refine (left_any _ rb g L _ 0 h).mono ?_; rintro e w1 ⟨q, rfl, hq, hb1⟩; have h1 := h.below hb1; have c2 := h1.c2; have f2 := h1.free 2; have hh := hq.head HD.out)
        go_ret
        exact ⟨rfl, (RTo.ofBelow h hb1).trans ⟨(h1.setWrong 22 _ rfl).1, (h1.setWrong 22 _ rfl).2⟩⟩
      · have E := rByte_ok HD.out hm2
        rw [E]
        clear E
        go_enter Try.func55, Try.ntmps55
        go_wp2_with (go_at_call 57; refine (left_any _ rb g L _ 0 h).mono ?_; rintro e w1 ⟨q, rfl, hq, hb1⟩; have h1 := h.below hb1; have c1 := h1.c1; have f1 := h1.free 1; have hh := hq.head HD.out)
        go_ret
        have hs := h1.setPlace (p + 1) ((p : Int) + 1) (by omega) (by omega)
        exact ⟨rfl, (RTo.ofBelow h hb1).trans ⟨hs.1, hs.2⟩⟩
  · have t : ((e : Int) != 0) = true := by rw [bne_iff_ne]; omega
    have E := rByte_wrong (L := L) (p := p) (most := most) he
    rw [E]
    clear he E
    go_enter Try.func55, Try.ntmps55
    go_wp2
    go_ret
    exact ⟨rfl, RTo.refl h⟩

theorem rNum_wrong {L : List UInt8} {p e most : Nat} (h : e ≠ 0) : rNum L p e most = (0, p, e) := by rw [rNum, if_pos h]
theorem rNum_bad {L : List UInt8} {p most : Nat} (h : (nm (L.drop p) 0 0).2.2 ≠ 0) : rNum L p 0 most = (0, p, (nm (L.drop p) 0 0).2.2) := by rw [rNum, if_neg (by simp), if_pos h]
theorem rNum_long {L : List UInt8} {p most : Nat} (h : (nm (L.drop p) 0 0).2.2 = 0) (h2 : most < (nm (L.drop p) 0 0).1) : rNum L p 0 most = (0, p, 22) := by rw [rNum, if_neg (by simp), if_neg (by simp [h]), if_pos h2]
theorem rNum_ok {L : List UInt8} {p most : Nat} (h : (nm (L.drop p) 0 0).2.2 = 0) (h2 : ¬ most < (nm (L.drop p) 0 0).1) : rNum L p 0 most = ((nm (L.drop p) 0 0).1, p + (nm (L.drop p) 0 0).2.1, 0) := by
  rw [rNum, if_neg (by simp), if_neg (by simp [h]), if_neg h2]

set_option maxRecDepth 20000 in
set_option maxHeartbeats 1000000 in
theorem rnum_any (w : World) (rb g : Nat) (L : List UInt8) (p e : Nat) (most : Nat) (h : RD w rb g L p e) :
    Calls Try.prog 81 #[.pointer (some ⟨rb, 0, none⟩), .int .u64 (most : Int)] w fun r w' => r = .returned (.int .u64 ((rNum L p e most).1 : Int)) ∧ RTo w w' rb g L (rNum L p e most).2.1 (rNum L p e most).2.2 := by
  have h2 := h.c2
  by_cases he : e = 0
  · subst he
    have hlen := h.len
    have hp := h.le
    have hsp := nm_spec (L.drop p) 0 0 (by omega) (by simp)
    have hdl : (L.drop p).length = L.length - p := by simp
    rw [hdl] at hsp
    have hdl2 : (L.drop p).length ≤ 140737488355328 := by omega
    by_cases hb : (nm (L.drop p) 0 0).2.2 = 0
    · have tb : (((nm (L.drop p) 0 0).2.2 : Int) == 0) = true := by rw [beq_iff_eq]; omega
      have HB : Hid ((nm (L.drop p) 0 0).2.2 = 0) := hb
      by_cases hl : most < (nm (L.drop p) 0 0).1
      · rw [rNum_long hb hl]
        clear hb
        go_enter Try.func81, Try.ntmps81
        go_wp2_with (first
          | (go_at_call 57; refine (left_any _ rb g L _ 0 h).mono ?_; rintro e w1 ⟨q, rfl, hq, hb1⟩; have h1 := h.below hb1; have c2 := h1.c2; have f2 := h1.free 2; have c1 := h1.c1; have f1 := h1.free 1)
          | (go_at_call 83; refine (number_any _ _ _ hq hdl2).mono ?_; rintro e w2 ⟨rfl, rfl⟩))
        go_ret
        exact ⟨rfl, (RTo.ofBelow h hb1).trans ⟨(h1.setWrong 22 _ rfl).1, (h1.setWrong 22 _ rfl).2⟩⟩
      · rw [rNum_ok hb hl]
        have tb2 : (((nm (L.drop p) 0 0).2.2 : Int) != 0) = false := by rw [bne_eq_false_iff_eq]; omega
        clear hb
        go_enter Try.func81, Try.ntmps81
        go_wp2_with (first
          | (go_at_call 57; refine (left_any _ rb g L _ 0 h).mono ?_; rintro e w1 ⟨q, rfl, hq, hb1⟩; have h1 := h.below hb1; have c2 := h1.c2; have f2 := h1.free 2; have c1 := h1.c1; have f1 := h1.free 1)
          | (go_at_call 83; refine (number_any _ _ _ hq hdl2).mono ?_; rintro e w2 ⟨rfl, rfl⟩))
        go_ret
        have hs := h1.setPlace (p + (nm (L.drop p) 0 0).2.1) ((p : Int) + ((nm (L.drop p) 0 0).2.1 : Int)) (by omega) (by omega)
        have e0 := HB.out
        exact ⟨rfl, (RTo.ofBelow h hb1).trans ⟨hs.1, hs.2⟩⟩
    · rw [rNum_bad hb]
      have tb : (((nm (L.drop p) 0 0).2.2 : Int) == 0) = false := by rw [beq_eq_false_iff_ne]; omega
      have tb2 : (((nm (L.drop p) 0 0).2.2 : Int) != 0) = true := by rw [bne_iff_ne]; omega
      clear hb
      go_enter Try.func81, Try.ntmps81
      go_wp2_with (first
        | (go_at_call 57; refine (left_any _ rb g L _ 0 h).mono ?_; rintro e w1 ⟨q, rfl, hq, hb1⟩; have h1 := h.below hb1; have c2 := h1.c2; have f2 := h1.free 2; have c1 := h1.c1; have f1 := h1.free 1)
        | (go_at_call 83; refine (number_any _ _ _ hq hdl2).mono ?_; rintro e w2 ⟨rfl, rfl⟩))
      go_ret
      exact ⟨rfl, (RTo.ofBelow h hb1).trans ⟨(h1.setWrong _ _ rfl).1, (h1.setWrong _ _ rfl).2⟩⟩
  · have t : ((e : Int) != 0) = true := by rw [bne_iff_ne]; omega
    rw [rNum_wrong (L := L) (p := p) (most := most) he]
    clear he
    go_enter Try.func81, Try.ntmps81
    go_wp2
    go_ret
    exact ⟨rfl, RTo.refl h⟩

end Go.Proofs.Ytcpegfjjdojinaa
