/- Next and Object of a heap that is all that is new; the law's steps. -/
import Derived.Test.YthjbbghmmikmmaaDoorHpQ
import Derived.Test.YthjbbghmmikmmaaDoorHpO
namespace Go.Proofs.YthjbbghmmikmmaaDoor
open Go.ChangeShapes Go.WideShapes Go.ChangeAt Go.RowKit Go.Deep

section
variable {w : World} {hb : Nat} {h : HSt} {F : Nat → Prop}
theorem HP.next (x : HP w hb F h) (s : Nat) :
    Calls Tryd.prog 23 #[.pointer (some ⟨hb, 0, none⟩), .int .u64 (s : Int)] w fun e w' => e = .returned (.tuple #[.int .u64 ((nextR h.cs s).1 : Int), .bool (nextR h.cs s).2]) ∧ Below w.heap.size w w' := by
  obtain ⟨ab, mb, L, hx, hF⟩ := x.ex
  exact hnext_any hx s
theorem HP.objNo (x : HP w hb F h) (s : Nat) (hs : s < 18446744073709551616) (hg : getC h.cs s = none) :
    Calls Tryd.prog 22 #[.pointer (some ⟨hb, 0, none⟩), .int .u64 (s : Int)] w fun e w' => e = .returned (.tuple #[zO, .bool false]) ∧ Below w.heap.size w w' := by
  obtain ⟨ab, mb, L, hx, hF⟩ := x.ex
  exact hobj_no hx s hs hg
theorem HP.objOk (x : HP w hb F h) (s : Nat) (hs : s < 18446744073709551616) (o : Oc) (hg : getC h.cs s = some o) :
    Calls Tryd.prog 22 #[.pointer (some ⟨hb, 0, none⟩), .int .u64 (s : Int)] w fun e w' => ∃ g1 g2, e = .returned (.tuple #[Pl.v ⟨o, 0, g1, g2⟩, .bool true]) ∧ Row w' g1 31 (idsV o.rf) ∧ Row w' g2 26 (o.vl.map uV) ∧ w.heap.size ≤ g1 ∧ g1 < g2 ∧ Below w.heap.size w w' := by
  obtain ⟨ab, mb, L, hx, hF⟩ := x.ex
  exact hobj_ok hx s hs o hg
end
section
variable {w0 w w' : World} {B hb : Nat} {h h' : HSt} {X : Nat → Prop}
theorem HH.next (x : HH w0 B w hb h X) (s : Nat) :
    Calls Tryd.prog 23 #[.pointer (some ⟨hb, 0, none⟩), .int .u64 (s : Int)] w fun e w' => e = .returned (.tuple #[.int .u64 ((nextR h.cs s).1 : Int), .bool (nextR h.cs s).2]) ∧ HH w0 B w' hb h X ∧ Below w.heap.size w w' := by
  obtain ⟨F, hp, _⟩ := x.ex
  exact (hp.next s).mono (fun _ _ ⟨h1, h2⟩ => ⟨h1, x.read h2, h2⟩)
theorem HH.objOk (x : HH w0 B w hb h X) (s : Nat) (hs : s < 18446744073709551616) (o : Oc) (hg : getC h.cs s = some o) :
    Calls Tryd.prog 22 #[.pointer (some ⟨hb, 0, none⟩), .int .u64 (s : Int)] w fun e w' => ∃ g1 g2, e = .returned (.tuple #[Pl.v ⟨o, 0, g1, g2⟩, .bool true]) ∧ Row w' g1 31 (idsV o.rf) ∧ Row w' g2 26 (o.vl.map uV) ∧ w.heap.size ≤ g1 ∧ g1 < g2 ∧ Below w.heap.size w w' := by
  obtain ⟨F, hp, _⟩ := x.ex
  exact hp.objOk s hs o hg
end
theorem makeR_bad {h : HSt} {r v : Int} (hE : ¬ (h.makeR r v).2 = 0) : (h.makeR r v).1 = 0 := by
  unfold HSt.makeR at hE ⊢
  by_cases h1 : 0 ≤ r ∧ r ≤ 7 ∧ 0 ≤ v ∧ v ≤ 7
  · rw [if_pos h1] at hE ⊢
    by_cases h2 : h.most ≤ h.cs.length
    · rw [if_pos h2]
    rw [if_neg h2] at hE ⊢
    by_cases h3 : 72057594037927935 ≤ h.last
    · rw [if_pos h3]
    rw [if_neg h3] at hE ⊢
    by_cases h4 : (allocR h.bs (1 + r + v)).2 = 0
    · rw [if_pos h4] at hE
      exact absurd rfl hE
    · rw [if_neg h4]
  · rw [if_neg h1]
theorem nextR_get {cs : List Oc} {s : Nat} (h : (nextR cs s).2 = true) : (getC cs (nextR cs s).1).isSome = true := by
  unfold nextR at h ⊢
  cases hf : cs.find? (fun o => decide (s < o.s)) with
  | none => rw [hf] at h; cases h
  | some o =>
    have hm := List.mem_of_find?_eq_some hf
    simp only
    cases hg : getC cs o.s with
    | some p => rfl
    | none => exact absurd rfl (getC_none hg o hm)
theorem nextR_le {h : HSt} (H : h.Ok) (s : Nat) : (nextR h.cs s).1 ≤ 72057594037927935 := by
  unfold nextR
  cases hf : h.cs.find? (fun o => decide (s < o.s)) with
  | none => simp
  | some o =>
    have := H.le o (List.mem_of_find?_eq_some hf)
    have := H.last
    simp only
    omega

/-- A step. -/
structure StepH where
  what : Int
  a : Int
  b : Int
  ser : Nat
  v : Nat
  xn : Int
  xs : Nat
  near : Bool
def cStepH (s : StepH) : List Value := [.int .i64 s.what, .int .i64 s.a, .int .i64 s.b, .int .u64 (s.ser : Int), .int .u64 (s.v : Int), .int .i64 s.xn, .int .u64 (s.xs : Int), .bool s.near]
def StepH.Ok (s : StepH) : Prop := s.ser < 18446744073709551616 ∧ s.v < 18446744073709551616 ∧ s.xs < 18446744073709551616
theorem list8 {α : Type} {l : List α} (h : l.length = 8) : ∃ a b c d e f g i, l = [a, b, c, d, e, f, g, i] := by
  match l, h with
  | [a, b, c, d, e, f, g, i], _ => exact ⟨a, b, c, d, e, f, g, i, rfl⟩
theorem list2 {α : Type} {l : List α} (h : l.length = 2) : ∃ a b, l = [a, b] := by
  match l, h with
  | [a, b], _ => exact ⟨a, b, rfl⟩
theorem trod_u64 {H : Type} {enc : TypeId × Value → H} {W : World} {n : Nat} {u : List Value} {y : DataW H × List MemPlace} (h : DataW.trod enc Tryd.prog W 0 (fun _ => true) true n 26 u = some y) : ∃ x : Nat, u = [.int .u64 (x : Int)] ∧ x < 18446744073709551616 := by
  obtain ⟨x, h1, h2⟩ := trod_nat (K := .u64) rfl Tryd.underlying26 h
  have hm : IntKind.u64.max = 18446744073709551615 := rfl
  exact ⟨x, h1, by omega⟩
theorem ews_stepH {H : Type} {enc : TypeId × Value → H} {W : World} : ∀ n cs (y : DataW H × List MemPlace), DataW.trod enc Tryd.prog W 0 (fun _ => true) true n 41 cs = some y → ∃ x : StepH, cs = cStepH x ∧ x.Ok := by
  intro n cs y h
  obtain ⟨hlen, k, hf⟩ := trod_fields 8 Tryd.underlying41 (by kernel_rfl) h
  obtain ⟨v0, v1, v2, v3, v4, v5, v6, v7, rfl⟩ := list8 hlen
  obtain ⟨y0, g0⟩ := hf 0 3 0 1 rfl (by kernel_rfl)
  obtain ⟨y1, g1⟩ := hf 1 3 1 1 rfl (by kernel_rfl)
  obtain ⟨y2, g2⟩ := hf 2 3 2 1 rfl (by kernel_rfl)
  obtain ⟨y3, g3⟩ := hf 3 26 3 1 rfl (by kernel_rfl)
  obtain ⟨y4, g4⟩ := hf 4 26 4 1 rfl (by kernel_rfl)
  obtain ⟨y5, g5⟩ := hf 5 31 5 2 rfl (by kernel_rfl)
  obtain ⟨y7, g7⟩ := hf 6 4 7 1 rfl (by kernel_rfl)
  obtain ⟨_, k5, hf5⟩ := trod_fields 2 Tryd.underlying31 (by kernel_rfl) g5
  obtain ⟨y50, g50⟩ := hf5 0 3 0 1 rfl (by kernel_rfl)
  obtain ⟨y51, g51⟩ := hf5 1 26 1 1 rfl (by kernel_rfl)
  obtain ⟨z0, e0, _, _⟩ := DataW.trod_int Tryd.underlying3 g0
  obtain ⟨z1, e1, _, _⟩ := DataW.trod_int Tryd.underlying3 g1
  obtain ⟨z2, e2, _, _⟩ := DataW.trod_int Tryd.underlying3 g2
  obtain ⟨z3, e3, b3⟩ := trod_u64 g3
  obtain ⟨z4, e4, b4⟩ := trod_u64 g4
  obtain ⟨z5, e5, _, _⟩ := DataW.trod_int Tryd.underlying3 g50
  obtain ⟨z6, e6, b6⟩ := trod_u64 g51
  obtain ⟨z7, e7, _⟩ := DataW.trod_bool Tryd.underlying4 g7
  simp only [List.drop_succ_cons, List.drop_zero, List.take_succ_cons, List.take_zero, List.cons.injEq, and_true] at e0 e1 e2 e3 e4 e5 e6 e7
  subst e0 e1 e2 e3 e4 e5 e6 e7
  exact ⟨⟨z0, z1, z2, z3, z4, z5, z6, z7⟩, rfl, b3, b4, b6⟩
theorem WS.stepH {w : World} {ao : Option Addr} {n cap : Nat} {xs : List StepH} (h : WS w (.slice ao n cap) 8 cStepH xs) (i : Nat) (hi : i < xs.length) : ∃ b off, ao = some ⟨b, off, none⟩ ∧ b < w.heap.size ∧
    w.cell? ⟨b, off + i * 8, none⟩ = some (.int .i64 xs[i].what) ∧ w.cell? ⟨b, off + i * 8 + 1, none⟩ = some (.int .i64 xs[i].a) ∧ w.cell? ⟨b, off + i * 8 + 2, none⟩ = some (.int .i64 xs[i].b) ∧ w.cell? ⟨b, off + i * 8 + 3, none⟩ = some (.int .u64 (xs[i].ser : Int)) ∧
    w.cell? ⟨b, off + i * 8 + 4, none⟩ = some (.int .u64 (xs[i].v : Int)) ∧ w.cell? ⟨b, off + i * 8 + 5, none⟩ = some (.int .i64 xs[i].xn) ∧ w.cell? ⟨b, off + i * 8 + 6, none⟩ = some (.int .u64 (xs[i].xs : Int)) ∧ w.cell? ⟨b, off + i * 8 + 7, none⟩ = some (.bool xs[i].near) := by
  obtain ⟨b, off, h1, h2, h3⟩ := h.at i hi
  exact ⟨b, off, h1, h2, h3 0 _ rfl, h3 1 _ rfl, h3 2 _ rfl, h3 3 _ rfl, h3 4 _ rfl, h3 5 _ rfl, h3 6 _ rfl, h3 7 _ rfl⟩

end Go.Proofs.YthjbbghmmikmmaaDoor
