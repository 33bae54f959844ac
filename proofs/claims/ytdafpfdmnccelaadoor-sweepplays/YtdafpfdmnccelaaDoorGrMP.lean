import Derived.Test.YtdafpfdmnccelaaDoorRows
import Derived.Test.YtdafpfdmnccelaaDoorTbL
import Derived.Test.YtdafpfdmnccelaaDoorArOP
import Derived.Deep.CutRange
import Derived.Deep.CutBlock
import Derived.Deep.QuietTactic
import Derived.BigQuiet
/- A stack in memory (the program's, of numbers or of texts, or the plain one): a struct of three cells, and its list. -/
/- grey.Stack[uint64]: New, Len, Over, Rest, Clear, Push, Pop, All. -/
namespace Go.Proofs.YtdafpfdmnccelaaDoor
open Go.RowKit

theorem bel_alloc (w : World) (o : Obj) : Below w.heap.size w (w.alloc o) := (Below.refl _ _).alloc (Nat.le_refl _) o
theorem cell_lt {w : World} {a : Addr} {v : Value} (h : w.cell? a = some v) : a.block < w.heap.size := World.block_lt_of_cell? w _ h
theorem cell_kept {w w' : World} {P : Nat → Prop} {b i : Nat} {v : Value} (h : w.cell? ⟨b, i, none⟩ = some v) (hk : Kept w w' P) (hP : ¬ P b) : w'.cell? ⟨b, i, none⟩ = some v :=
  (World.cell?_of_block (a := ⟨b, i, none⟩) (hk.block b (cell_lt h) hP)).trans h

/-- A stack: the struct at sb, its list v of the elements l (the lowest first), whose block lies from base on; M may be on it. -/
structure SK (w : World) (sb base : Nat) (T E : TypeId) (v : Value) (M : Nat) (l : List Value) (ov : Bool) : Prop where
  box : Row w sb T [.int .i64 (M : Int), v, .bool ov]
  own : w.ownsRow base E 1 v l.length l
  off : v.ownBlock ≠ some sb
  one : ∀ u ∈ l, u.oneCell' = true
  few : l.length ≤ M ∧ 1 ≤ M ∧ M ≤ 64
/-- Its blocks. -/
def sBl (sb : Nat) (v : Value) (k : Nat) : Prop := k = sb ∨ v.ownBlock = some k
/-- What became of a stack. -/
structure Go1 (w w' : World) (sb base : Nat) (T E : TypeId) (v v' : Value) (M : Nat) (l : List Value) (ov : Bool) : Prop where
  x : SK w' sb base T E v' M l ov
  k : Kept w w' (sBl sb v)
  m : Moved w v v'

section
variable {w w' : World} {sb base : Nat} {T E : TypeId} {v : Value} {M : Nat} {l : List Value} {ov : Bool} {P : Nat → Prop}
theorem own_lt (h : w.ownsRow base E 1 v l.length l) : ∀ k, v.ownBlock = some k → base ≤ k ∧ k < w.heap.size := by
  intro k hk
  rcases h.2 with ⟨rfl, _⟩ | ⟨g, cap, cur, rfl, h2, h3, _⟩
  · cases hk
  · have e : g = k := by simpa [Value.ownBlock] using hk
    subst e
    exact ⟨h2, (Array.getElem?_eq_some_iff.1 h3).1⟩
theorem SK.kept (x : SK w sb base T E v M l ov) (hk : Kept w w' P) (hP : ∀ k, sBl sb v k → ¬ P k) : SK w' sb base T E v M l ov :=
  ⟨x.box.kept hk (hP _ (Or.inl rfl)), own_kept x.own hk (fun k h => hP k (Or.inr h)), x.off, x.one, x.few⟩
theorem SK.below (x : SK w sb base T E v M l ov) (hb : Below w.heap.size w w') : SK w' sb base T E v M l ov := x.kept (kept_of_below hb (fun _ => False)) (fun _ _ => id)
theorem SK.lt (x : SK w sb base T E v M l ov) : ∀ k, sBl sb v k → k < w.heap.size := by
  intro k hk
  rcases hk with rfl | hk
  · exact x.box.lt
  · exact (own_lt x.own k hk).2
theorem SK.c0 (x : SK w sb base T E v M l ov) : w.cell? ⟨sb, 0, none⟩ = some (.int .i64 (M : Int)) := x.box.cell 0 (by simp)
theorem SK.c1 (x : SK w sb base T E v M l ov) : w.cell? ⟨sb, 1, none⟩ = some v := x.box.cell 1 (by simp)
theorem SK.c2 (x : SK w sb base T E v M l ov) : w.cell? ⟨sb, 2, none⟩ = some (.bool ov) := x.box.cell 2 (by simp)
theorem SK.slice (x : SK w sb base T E v M l ov) : ∃ ao cap, v = .slice ao l.length cap ∧ l.length ≤ cap ∧ cap ≤ maxLen ∧ (ao = none → cap = 0) := own_slice x.own
theorem Go1.refl (x : SK w sb base T E v M l ov) (hb : Below w.heap.size w w') : Go1 w w' sb base T E v v M l ov := ⟨x.below hb, kept_of_below hb _, Moved.refl _ _⟩
/-- Over, or at rest. -/
theorem SK.over (x : SK w sb base T E v M l ov) (b : Bool) (hb : Below w.heap.size w w') : Go1 w (w'.setCell ⟨sb, 2, none⟩ (.bool b)) sb base T E v v M l b := by
  have y := x.below hb
  have hk : Kept w' (w'.setCell ⟨sb, 2, none⟩ (.bool b)) (fun k => k = sb) := Kept.setCell _ _ _
  refine ⟨⟨y.box.set 2 (.bool b), own_kept y.own hk (fun k h e => ?_), y.off, y.one, y.few⟩, (kept_of_below hb _).trans hk (fun i _ e => Or.inl e), Moved.refl _ _⟩
  have e' : k = sb := e
  subst e'
  exact y.off h
/-- Its list is another one. -/
theorem SK.turn (x : SK w sb base T E v M l ov) {w1 : World} {v1 : Value} {l1 : List Value} (hk : Kept w w1 (fun k => v.ownBlock = some k)) (ho : w1.ownsRow base E 1 v1 l1.length l1) (hm : Moved w v v1) (h1 : ∀ u ∈ l1, u.oneCell' = true) (hf : l1.length ≤ M) :
    Go1 w (w1.setCell ⟨sb, 1, none⟩ v1) sb base T E v v1 M l1 ov := by
  have hoff : v1.ownBlock ≠ some sb := by
    intro e
    rcases hm sb e with h | h
    · exact x.off h
    · have := x.box.lt
      omega
  have hk1 : Kept w1 (w1.setCell ⟨sb, 1, none⟩ v1) (fun k => k = sb) := Kept.setCell _ _ _
  refine ⟨⟨(x.box.kept hk x.off).set 1 v1, own_kept ho hk1 (fun k h e => ?_), hoff, h1, hf, x.few.2⟩, (hk.mono (fun i _ e => Or.inr e)).trans hk1 (fun i _ e => Or.inl e), hm⟩
  have e' : k = sb := e
  subst e'
  exact hoff h
theorem SK.clear (x : SK w sb base T E v M l ov) : Go1 w ((w.setCell ⟨sb, 1, none⟩ (.slice none 0 0)).setCell ⟨sb, 2, none⟩ (.bool false)) sb base T E v (.slice none 0 0) M [] false := by
  have h1 := x.turn (w1 := w) (v1 := .slice none 0 0) (l1 := []) (Kept.refl _ _) ⟨rfl, Or.inl ⟨rfl, rfl⟩⟩ (fun _ h => by cases h) (by simp) (Nat.zero_le _)
  have h2 := h1.x.over false (Below.refl _ _)
  exact ⟨h2.x, h1.k.trans h2.k (fun i _ e => by rcases e with e | e; exact Or.inl e; cases e), h1.m⟩
/-- What is on top. -/
theorem SK.top {a : Value} (x : SK w sb base T E v M (l ++ [a]) ov) : ∃ g cap, v = .slice (some ⟨g, 0, none⟩) (l.length + 1) cap ∧ l.length + 1 ≤ cap ∧ cap ≤ maxLen ∧ g ≠ sb ∧ g < w.heap.size ∧ w.cell? ⟨g, l.length, none⟩ = some a ∧ w.frozen? ⟨g, l.length, none⟩ = false ∧
    (∀ w1 : World, Kept w w1 (fun k => k = g) → (w1.heap = w.heap ∨ ∃ z, w1.heap = (w.setCell ⟨g, l.length, none⟩ z).heap) → Go1 w (w1.setCell ⟨sb, 1, none⟩ (.slice (some ⟨g, 0, none⟩) l.length cap)) sb base T E v (.slice (some ⟨g, 0, none⟩) l.length cap) M l ov) := by
  have hl : (l ++ [a]).length = l.length + 1 := by simp
  rcases x.own.2 with ⟨_, h0⟩ | ⟨g, cap, cur, hv, hb, hg, hn, hm, hs, ht⟩
  · rw [hl] at h0; omega
  · rw [hl] at hv hn ht
    rw [Nat.mul_one] at hs ht
    have hgs : g ≠ sb := by intro e; subst e; exact x.off (by rw [hv]; rfl)
    have hat : cur.toList[l.length]? = some a := by
      have h2 : (cur.toList.take (l.length + 1))[l.length]? = some a := by rw [ht]; simp
      rwa [List.getElem?_take_of_lt (by omega)] at h2
    refine ⟨g, cap, hv, hn, hm, hgs, (Array.getElem?_eq_some_iff.1 hg).1, ?_, frozen_of_row w g _ _ _ hg, fun w1 hk1 hw1 => ?_⟩
    · rw [cell_of_row w g _ _ _ _ hg]
      simpa using hat
    · have htl : cur.toList.take l.length = l := by
        have h2 : (cur.toList.take (l.length + 1)).take l.length = l := by rw [ht]; simp
        rwa [List.take_take, Nat.min_eq_left (by omega)] at h2
      refine x.turn (hk1.mono (fun k _ e => ?_)) ⟨by simp, Or.inr ?_⟩ (fun k h => Or.inl ?_) (fun u hu => x.one u (List.mem_append_left _ hu)) (by have := x.few.1; rw [hl] at this; omega)
      · have e' : k = g := e
        rw [hv, e']
        rfl
      · rcases hw1 with h | ⟨z, h⟩
        · exact ⟨g, cap, cur, rfl, hb, by rw [h]; exact hg, by omega, hm, by rw [Nat.mul_one]; exact hs, by rw [Nat.mul_one]; exact htl⟩
        · refine ⟨g, cap, cur.setIfInBounds l.length z, rfl, hb, by rw [h]; exact heap_setCell_same w g l.length _ _ z hg, by omega, hm, by rw [Nat.mul_one]; simpa using hs, ?_⟩
          rw [Nat.mul_one]
          have e : (cur.setIfInBounds l.length z).toList = cur.toList.set l.length z := by simp
          rw [e, List.take_set_of_le (Nat.le_refl _)]
          exact htl
      · rw [hv]
        exact h
end
theorem sk_new (w : World) (T E : TypeId) (base M : Nat) (h1 : 1 ≤ M) (h2 : M ≤ 64) : SK (w.alloc (.cells #[.int .i64 (M : Int), .slice none 0 0, .bool false] T)) w.heap.size base T E (.slice none 0 0) M [] false :=
  ⟨heap_alloc_new w _, ⟨rfl, Or.inl ⟨rfl, rfl⟩⟩, (fun h => by cases h), by simp, Nat.zero_le _, h1, h2⟩
/-- One value in a block, as append lays it. -/
theorem sr_val (w : World) (u : Value) (h1 : u.oneCell' = true) (T : TypeId) : Sr (w.alloc (.cells #[u] T)) (.slice (some ⟨w.heap.size, 0, none⟩) 1 1) 1 1 [u] := by
  have h := heap_alloc_new w (.cells #[u] T)
  refine ⟨rfl, Or.inr ⟨⟨w.heap.size, 0, none⟩, 1, rfl, fun j x hx => ?_⟩, by simpa using h1⟩
  rw [Addr.add_at, Nat.zero_add, cell_of_row _ _ _ _ _ _ h]
  simpa using hx

end Go.Proofs.YtdafpfdmnccelaaDoor

namespace Go.Proofs.YtdafpfdmnccelaaDoor
open Go.RowKit

theorem Tryd.infoU : (Tryd.prog.info? 39).map (fun i => (i.zero, i.size, i.bytes)) = some (some (.int .u64 0), 1, 8) := by kernel_rfl
@[reducible] def SKU (w : World) (sb base : Nat) (v : Value) (M : Nat) (xs : List (Int)) (ov : Bool) : Prop := SK w sb base 131 39 v M (xs.map ((Value.int .u64))) ov
@[reducible] def GoU (w w' : World) (sb base : Nat) (v v' : Value) (M : Nat) (xs : List (Int)) (ov : Bool) : Prop := Go1 w w' sb base 131 39 v v' M (xs.map ((Value.int .u64))) ov

set_option maxRecDepth 20000 in
set_option maxHeartbeats 400000 in
theorem newU_no (n : Int) (h : n < 1 ∨ 64 < n) (w : World) :
    Calls Tryd.prog 35 #[.int .i64 n] w fun e w' => e = .returned (.tuple #[.pointer none, .int .i64 1]) ∧ w = w' := by
  by_cases h1 : n < 1
  · go_enter Tryd.func35, Tryd.ntmps35
    go_wp2
    go_ret2
    exact ⟨rfl, rfl⟩
  · have h2 : 64 < n := by omega
    go_enter Tryd.func35, Tryd.ntmps35
    go_wp2
    go_ret2
    exact ⟨rfl, rfl⟩
set_option maxRecDepth 20000 in
set_option maxHeartbeats 400000 in
theorem newU_ok (base M : Nat) (h1 : 1 ≤ M) (h2 : M ≤ 64) (w : World) :
    Calls Tryd.prog 35 #[.int .i64 (M : Int)] w fun e w' => e = .returned (.tuple #[.pointer (some ⟨w.heap.size, 0, none⟩), .int .i64 0]) ∧ SKU w' w.heap.size base (.slice none 0 0) M [] false ∧ Below w.heap.size w w' := by
  have hd1 : ¬ ((M : Int) < 1) := by omega
  have hd2 : ¬ ((64 : Int) < (M : Int)) := by omega
  go_enter Tryd.func35, Tryd.ntmps35
  go_wp2
  go_ret2
  exact ⟨rfl, sk_new w _ _ base M h1 h2, bel_alloc _ _⟩

section
variable {w : World} {sb base : Nat} {v : Value} {M : Nat} {xs : List (Int)} {ov : Bool}
set_option maxRecDepth 20000 in
set_option maxHeartbeats 400000 in
theorem pushU_full (x : SKU w sb base v M xs ov) (h : xs.length = M) (a : Int) :
    Calls Tryd.prog 68 #[.pointer (some ⟨sb, 0, none⟩), ((Value.int .u64) a)] w fun e w' => e = .returned (.bool false) ∧ GoU w w' sb base v v M xs true := by
  subst h
  have c0 := x.c0
  have c1 := x.c1
  have c2 := x.c2
  have f2 := x.box.frozen 2
  have hf := x.few
  have HX : Hid (∀ w', Below w.heap.size w w' → _) := hidden (fun w' (hb : Below w.heap.size w w') => x.over true hb)
  obtain ⟨ao, cap, rfl, _⟩ := x.slice
  rw [List.length_map] at c1
  clear x
  generalize xs.length = n at *
  go_enter Tryd.func68, Tryd.ntmps68
  go_wp2
  go_quiet (fail)
  go_wp2
  go_ret
  exact ⟨rfl, HX.out _ (below_drewN0 _ _)⟩
set_option maxRecDepth 20000 in
set_option maxHeartbeats 1000000 in
theorem pushU_room (x : SKU w sb base v M xs ov) (h : xs.length < M) (a : Int) (hbase : base ≤ w.heap.size) :
    Calls Tryd.prog 68 #[.pointer (some ⟨sb, 0, none⟩), ((Value.int .u64) a)] w fun e w' => e = .returned (.bool true) ∧ ∃ v', GoU w w' sb base v v' M (xs ++ [a]) ov := by
  have c0 := x.c0
  have c1 := x.c1
  have hl := x.box.lt
  have hf := x.few
  have hfz := x.box.frozen 1
  have ho := x.own
  have hne : ((xs.length : Int) == (M : Int)) = false := by rw [beq_eq_false_iff_ne]; omega
  obtain ⟨ao, cap, hv, _⟩ := x.slice
  obtain ⟨i, hi, hz0, hz1, hz2⟩ := info_parts Tryd.infoU
  have HT : Hid (∀ (w0 : World), Below w.heap.size w w0 → ∀ v1 w1, w1.ownsRow base 39 1 v1 ((xs.map ((Value.int .u64))).length + 1) (xs.map ((Value.int .u64)) ++ [((Value.int .u64) a)]) → Kept w0 w1 (fun k => v.ownBlock = some k) → Moved w0 v v1 → GoU w (w1.setCell ⟨sb, 1, none⟩ v1) sb base v v1 M (xs ++ [a]) ov ∧ w1.cell? ⟨sb, 1, none⟩ = some v ∧ w1.frozen? ⟨sb, 1, none⟩ = false) := by
    intro w0 hb0 v1 w1 ho1 hk1 hm1
    have hk := (kept_of_below hb0 (fun k => v.ownBlock = some k)).trans hk1 (fun _ _ e => e)
    have hm : Moved w v v1 := fun k hk => by
      rcases hm1 k hk with h | h
      · exact Or.inl h
      · exact Or.inr (Nat.le_trans hb0.size h)
    have e : (xs ++ [a]).map ((Value.int .u64)) = xs.map ((Value.int .u64)) ++ [((Value.int .u64) a)] := by simp
    have r1 := x.box.kept hk x.off
    refine ⟨?_, r1.cell 1 (by simp), r1.frozen 1⟩
    unfold GoU
    rw [e]
    refine x.turn hk (by rw [List.length_append]; exact ho1) hm (fun u hu => ?_) (by simp; omega)
    rw [List.mem_append, List.mem_singleton] at hu
    rcases hu with hu | rfl
    · exact x.one u hu
    · rfl
  have HOW : Hid (∀ W : World, Below w.heap.size w W → W.ownsRow base 39 1 v (xs.map ((Value.int .u64))).length (xs.map ((Value.int .u64)))) := fun W hW => own_kept ho (kept_of_below hW (fun _ => False)) (fun _ _ => id)
  have HL : Hid ((xs.map ((Value.int .u64))).length + 1 ≤ 1000000000) := by
    have : (xs.map ((Value.int .u64))).length + 1 ≤ 1000000000 := by simp; omega
    exact this
  clear x ho
  rw [List.length_map] at hv
  subst hv
  have hnat : xs.length ≤ 64 := by omega
  clear h hf
  generalize xs.length = n at *
  go_enter Tryd.func68, Tryd.ntmps68
  go_wp2
  go_cut [14] from 5 to 14 (fun t wc => t = .bool false ∧ Below w.heap.size w wc)
  case first =>
    go_quiet (fail)
    go_wp2
    go_meet
    exact ⟨rfl, below_drewN0 _ _⟩
  case rest =>
    obtain ⟨rfl, hbc⟩ := hcut
    have d1 := (hbc.cell (p := ⟨sb, 1, none⟩) hl).trans c1
    have HB : Hid _ := hidden hbc
    have hbz := hbc.size
    clear c0 c1 hfz hbc
    go_wp2_with (at_builtin; refine wpList_append_sr rfl (.tmp 22) (.tmp 24) 42 rfl 39 i (.int .u64 0) 1 8 Tryd.underlying42 hi hz0 hz1 hz2 rfl (by omega) base _ (xs.map ((Value.int .u64))).length (xs.map ((Value.int .u64))) rfl (HOW.out _ (HB.out.trans ((bel_alloc _ _).mono hbz))) _ 1 [((Value.int .u64) a)] rfl (sr_val _ _ rfl _) HL.out (by omega) (by simp; omega) ?_; intro v5 w5 ho5 hk5 hm5; obtain ⟨g5, e5, e6⟩ := HT.out _ (HB.out.trans ((bel_alloc _ _).mono hbz)) v5 w5 ho5 hk5 hm5; have HG : Hid _ := hidden g5; clear g5 hk5 hm5; obtain ⟨ao5, n5, c5, hv5⟩ := own_form ho5; subst hv5; clear ho5)
    go_ret
    exact ⟨rfl, _, HG.out⟩
end

end Go.Proofs.YtdafpfdmnccelaaDoor
