/- Stacks that are new; the law's own example; GreyKnown. -/
import Derived.Test.YtjbhlfoaklfpeaaGrI
import Derived.Test.YtjbhlfoaklfpeaaGrS
namespace Go.Proofs.Ytjbhlfoaklfpeaa
open Go.RowKit

/-- A stack whose blocks lie from B on; below B all is as it was in w0. -/
structure LK (w0 : World) (B : Nat) (w : World) (sb : Nat) (T E : TypeId) (v : Value) (M : Nat) (l : List Value) (ov : Bool) : Prop where
  x : SK w sb B T E v M l ov
  bel : Below B w0 w
  le : B ≤ w.heap.size
  ge : B ≤ sb
section
variable {w0 w w' : World} {B sb M : Nat} {T E : TypeId} {v v' : Value} {l l' : List Value} {ov ov' : Bool}
theorem LK.read (x : LK w0 B w sb T E v M l ov) (hb : Below w.heap.size w w') : LK w0 B w' sb T E v M l ov :=
  ⟨x.x.below hb, x.bel.trans (hb.mono x.le), Nat.le_trans x.le hb.size, x.ge⟩
theorem LK.bl (x : LK w0 B w sb T E v M l ov) : ∀ k, sBl sb v k → B ≤ k := by
  intro k hk
  rcases hk with rfl | hk
  · exact x.ge
  · exact (own_lt x.x.own k hk).1
theorem LK.go (x : LK w0 B w sb T E v M l ov) (h : Go1 w w' sb B T E v v' M l' ov') : LK w0 B w' sb T E v' M l' ov' :=
  ⟨h.x, x.bel.trans (h.k.below x.le (fun i hi e => by have := x.bl i e; omega)), Nat.le_trans x.le h.k.size, x.ge⟩
end
@[reducible] def LI (w0 : World) (B : Nat) (w : World) (sb : Nat) (v : Value) (M : Nat) (xs : List Int) (ov : Bool) : Prop := LK w0 B w sb 49 3 v M (xs.map (Value.int .i64)) ov
@[reducible] def LS (w0 : World) (B : Nat) (w : World) (sb : Nat) (v : Value) (M : Nat) (xs : List ByteArray) (ov : Bool) : Prop := LK w0 B w sb 51 9 v M (xs.map Value.string) ov

set_option maxRecDepth 20000 in
set_option maxHeartbeats 1000000 in
theorem gknown_any (w : World) :
    Calls Try.prog 8 #[] w fun e w' => e = .returned (.bool true) ∧ Below w.heap.size w w' := by
  have hN := newI_ok w.heap.size 2 (by omega) (by omega) w
  have h1 := fun W sb v (y : LI w w.heap.size W sb v 2 [] false) => pushI_room y.x (by simp) 1 y.le
  have h2 := fun W sb v (y : LI w w.heap.size W sb v 2 [1] false) => pushI_room y.x (by simp) 2 y.le
  have h3 := fun W sb v (y : LI w w.heap.size W sb v 2 [1, 2] false) => pushI_full y.x (by simp) 3
  have h4 := fun W sb v (y : LI w w.heap.size W sb v 2 [1, 2] true) => overI_any y.x
  have h5 := fun W sb v (y : LI w w.heap.size W sb v 2 [1, 2] true) => popI_some (xs := [1]) (a := 2) y.x
  have h6 := fun W sb v (y : LI w w.heap.size W sb v 2 [1] true) => lenI_any y.x
  go_enter Try.func8, Try.ntmps8
  go_wp2_with fail
  refine hN.mono ?_
  rintro e w1 ⟨rfl, x1, b1⟩
  have y1 : LI w w.heap.size w1 w.heap.size (.slice none 0 0) 2 [] false := ⟨x1, b1, b1.size, Nat.le_refl _⟩
  clear x1 b1
  go_wp2_with fail
  refine (h1 _ _ _ y1).mono ?_
  rintro e w2 ⟨rfl, v2, g2⟩
  have y2 : LI w w.heap.size w2 w.heap.size v2 2 [1] false := y1.go g2
  clear y1 g2
  go_wp2_with fail
  refine (h2 _ _ _ y2).mono ?_
  rintro e w3 ⟨rfl, v3, g3⟩
  have y3 : LI w w.heap.size w3 w.heap.size v3 2 [1, 2] false := y2.go g3
  clear y2 g3
  go_wp2_with fail
  refine (h3 _ _ _ y3).mono ?_
  rintro e w4 ⟨rfl, g4⟩
  have y4 : LI w w.heap.size w4 w.heap.size v3 2 [1, 2] true := y3.go g4
  clear y3 g4
  go_wp2_with fail
  refine (h4 _ _ _ y4).mono ?_
  rintro e _ ⟨rfl, rfl⟩
  go_wp2_with fail
  refine (h5 _ _ _ y4).mono ?_
  rintro e w5 ⟨rfl, v5, g5⟩
  have y5 : LI w w.heap.size w5 w.heap.size v5 2 [1] true := y4.go g5
  clear y4 g5
  go_wp2_with fail
  refine (h6 _ _ _ y5).mono ?_
  rintro e _ ⟨rfl, rfl⟩
  have HB : Hid _ := hidden y5.bel
  clear h1 h2 h3 h4 h5 h6 hN y5
  go_wp2
  go_ret
  exact ⟨rfl, HB.out⟩

set_option maxRecDepth 20000 in
set_option maxHeartbeats 2000000 in
theorem greyKnown_any (w : World) :
    Calls Try.prog 3 #[] w fun e w' => e = .returned (.bool true) ∧ Below w.heap.size w w' := by
  have hNo1 := fun W => newI_no 0 (by omega) W
  have hNo2 := fun W => newS_no 65 (by omega) W
  have hN := newS_ok w.heap.size 1 (by omega) (by omega) w
  have h1 := fun W sb v (y : LS w w.heap.size W sb v 1 [] false) => pushS_room y.x (by simp) ⟨#[97]⟩ y.le
  have h2 := fun W sb v (y : LS w w.heap.size W sb v 1 [⟨#[97]⟩] false) => pushS_full y.x (by simp) ⟨#[98]⟩
  have h3 := fun W sb v (y : LS w w.heap.size W sb v 1 [⟨#[97]⟩] true) => overS_any y.x
  have h4 := fun W sb v (y : LS w w.heap.size W sb v 1 [⟨#[97]⟩] true) => restS_any y.x
  have h5 := fun W sb v (y : LS w w.heap.size W sb v 1 [⟨#[97]⟩] false) => overS_any y.x
  have h6 := fun W sb v (y : LS w w.heap.size W sb v 1 [⟨#[97]⟩] false) => allS_any y.x
  have h7 := fun W sb v (y : LS w w.heap.size W sb v 1 [⟨#[97]⟩] false) => clearS_any y.x
  have h8 := fun W sb v (y : LS w w.heap.size W sb v 1 [] false) => popS_none y.x
  have h9 := fun W sb v (y : LS w w.heap.size W sb v 1 [] false) => lenS_any y.x
  go_enter Try.func3, Try.ntmps3
  go_wp2_with fail
  refine (hNo1 _).mono ?_
  rintro e _ ⟨rfl, rfl⟩
  go_wp2_with fail
  refine (hNo2 _).mono ?_
  rintro e _ ⟨rfl, rfl⟩
  go_wp2_with fail
  refine hN.mono ?_
  rintro e w1 ⟨rfl, x1, b1⟩
  have y1 : LS w w.heap.size w1 w.heap.size (.slice none 0 0) 1 [] false := ⟨x1, b1, b1.size, Nat.le_refl _⟩
  clear x1 b1 hNo1 hNo2 hN
  go_wp2_with fail
  refine (gknown_any _).mono ?_
  rintro e w2 ⟨rfl, b2⟩
  have y2 := y1.read b2
  clear y1 b2
  go_wp2_with fail
  refine (h1 _ _ _ y2).mono ?_
  rintro e w3 ⟨rfl, v3, g3⟩
  have y3 : LS w w.heap.size w3 w.heap.size v3 1 [⟨#[97]⟩] false := y2.go g3
  clear y2 g3 h1
  go_wp2_with fail
  refine (h2 _ _ _ y3).mono ?_
  rintro e w4 ⟨rfl, g4⟩
  have y4 : LS w w.heap.size w4 w.heap.size v3 1 [⟨#[97]⟩] true := y3.go g4
  clear y3 g4 h2
  go_wp2_with fail
  refine (h3 _ _ _ y4).mono ?_
  rintro e _ ⟨rfl, rfl⟩
  clear h3
  go_wp2_with fail
  refine (h4 _ _ _ y4).mono ?_
  rintro e w5 ⟨rfl, g5⟩
  have y5 : LS w w.heap.size w5 w.heap.size v3 1 [⟨#[97]⟩] false := y4.go g5
  clear y4 g5 h4
  go_wp2_with fail
  refine (h5 _ _ _ y5).mono ?_
  rintro e _ ⟨rfl, rfl⟩
  clear h5
  go_wp2_with fail
  refine (h6 _ _ _ y5).mono ?_
  rintro e w6 ⟨rfl, r6, b6⟩
  have y6 : LS w w.heap.size w6 w.heap.size v3 1 [⟨#[97]⟩] false := y5.read b6
  have hgl := y5.x.lt
  generalize w5.heap.size = ga at *
  clear y5 b6 h6
  go_wp2_with fail
  refine (h7 _ _ _ y6).mono ?_
  rintro e w7 ⟨rfl, g7⟩
  have r7 := r6.kept g7.k (fun e => by have := hgl _ e; omega)
  have y7 : LS w w.heap.size w7 w.heap.size (.slice none 0 0) 1 [] false := y6.go g7
  clear y6 g7 h7 r6 hgl
  go_wp2_with fail
  refine (h8 _ _ _ y7).mono ?_
  rintro e _ ⟨rfl, rfl⟩
  have c0 := r7.cell 0 (by simp)
  simp only [List.map_cons, List.map_nil, List.getElem_cons_zero] at c0
  clear h8 r7
  go_wp2_with fail
  refine (h9 _ _ _ y7).mono ?_
  rintro e _ ⟨rfl, rfl⟩
  have HB : Hid _ := hidden y7.bel
  clear h9 y7
  go_wp2
  go_ret
  exact ⟨rfl, HB.out⟩

end Go.Proofs.Ytjbhlfoaklfpeaa
