/- Next and Object of a heap that is all that is new; the law's steps. -/
import Derived.Test.YtlabdbfmfejkaaaDoorHpQ
import Derived.Test.YtlabdbfmfejkaaaDoorHpO
namespace Go.Proofs.YtlabdbfmfejkaaaDoor
open Go.ChangeShapes Go.WideShapes Go.ChangeAt Go.RowKit Go.Deep

section
variable {w : World} {hb : Nat} {h : HSt} {F : Nat → Prop}
theorem HP.next (x : HP w hb F h) (s : Nat) :
    Calls Tryd.prog 84 #[.pointer (some ⟨hb, 0, none⟩), .int .u64 (s : Int)] w fun e w' => e = .returned (.tuple #[.int .u64 ((nextR h.cs s).1 : Int), .bool (nextR h.cs s).2]) ∧ Below w.heap.size w w' := by
  obtain ⟨ab, mb, L, hx, hF⟩ := x.ex
  exact hnext_any hx s
theorem HP.objNo (x : HP w hb F h) (s : Nat) (hs : s < 18446744073709551616) (hg : getC h.cs s = none) :
    Calls Tryd.prog 76 #[.pointer (some ⟨hb, 0, none⟩), .int .u64 (s : Int)] w fun e w' => e = .returned (.tuple #[zO, .bool false]) ∧ Below w.heap.size w w' := by
  obtain ⟨ab, mb, L, hx, hF⟩ := x.ex
  exact hobj_no hx s hs hg
theorem HP.objOk (x : HP w hb F h) (s : Nat) (hs : s < 18446744073709551616) (o : Oc) (hg : getC h.cs s = some o) :
    Calls Tryd.prog 76 #[.pointer (some ⟨hb, 0, none⟩), .int .u64 (s : Int)] w fun e w' => ∃ g1 g2, e = .returned (.tuple #[Pl.v ⟨o, 0, g1, g2⟩, .bool true]) ∧ Row w' g1 47 (idsV o.rf) ∧ Row w' g2 32 (o.vl.map uV) ∧ w.heap.size ≤ g1 ∧ g1 < g2 ∧ Below w.heap.size w w' := by
  obtain ⟨ab, mb, L, hx, hF⟩ := x.ex
  exact hobj_ok hx s hs o hg
end
section
variable {w0 w w' : World} {B hb : Nat} {h h' : HSt} {X : Nat → Prop}
theorem HH.next (x : HH w0 B w hb h X) (s : Nat) :
    Calls Tryd.prog 84 #[.pointer (some ⟨hb, 0, none⟩), .int .u64 (s : Int)] w fun e w' => e = .returned (.tuple #[.int .u64 ((nextR h.cs s).1 : Int), .bool (nextR h.cs s).2]) ∧ HH w0 B w' hb h X ∧ Below w.heap.size w w' := by
  obtain ⟨F, hp, _⟩ := x.ex
  exact (hp.next s).mono (fun _ _ ⟨h1, h2⟩ => ⟨h1, x.read h2, h2⟩)
theorem HH.objOk (x : HH w0 B w hb h X) (s : Nat) (hs : s < 18446744073709551616) (o : Oc) (hg : getC h.cs s = some o) :
    Calls Tryd.prog 76 #[.pointer (some ⟨hb, 0, none⟩), .int .u64 (s : Int)] w fun e w' => ∃ g1 g2, e = .returned (.tuple #[Pl.v ⟨o, 0, g1, g2⟩, .bool true]) ∧ Row w' g1 47 (idsV o.rf) ∧ Row w' g2 32 (o.vl.map uV) ∧ w.heap.size ≤ g1 ∧ g1 < g2 ∧ Below w.heap.size w w' := by
  obtain ⟨F, hp, _⟩ := x.ex
  exact hp.objOk s hs o hg
end
theorem makeR_bad {h : HSt} {r v : Int} (hE : ¬ (h.makeR r v).2 = 0) : (h.makeR r v).1 = 0 := by
  unfold HSt.makeR at hE ⊢
  by_cases h1 : 0 ≤ r ∧ r ≤ 7 ∧ 0 ≤ v ∧ v ≤ 7
  · rw [if_pos h1] at hE ⊢
    by_cases h2 : h.most ≤ h.cs.length
    · rw [if_pos h2]
    rw [if_neg h2] at hE ⊢
    by_cases h3 : 72057594037927935 ≤ h.last
    · rw [if_pos h3]
    rw [if_neg h3] at hE ⊢
    by_cases h4 : (allocR h.bs (1 + r + v)).2 = 0
    · rw [if_pos h4] at hE
      exact absurd rfl hE
    · rw [if_neg h4]
  · rw [if_neg h1]
theorem nextR_get {cs : List Oc} {s : Nat} (h : (nextR cs s).2 = true) : (getC cs (nextR cs s).1).isSome = true := by
  unfold nextR at h ⊢
  cases hf : cs.find? (fun o => decide (s < o.s)) with
  | none => rw [hf] at h; cases h
  | some o =>
    have hm := List.mem_of_find?_eq_some hf
    simp only
    cases hg : getC cs o.s with
    | some p => rfl
    | none => exact absurd rfl (getC_none hg o hm)
theorem nextR_le {h : HSt} (H : h.Ok) (s : Nat) : (nextR h.cs s).1 ≤ 72057594037927935 := by
  unfold nextR
  cases hf : h.cs.find? (fun o => decide (s < o.s)) with
  | none => simp
  | some o =>
    have := H.le o (List.mem_of_find?_eq_some hf)
    have := H.last
    simp only
    omega

/-- A step. -/
structure StepH where
  what : Int
  a : Int
  b : Int
  ser : Nat
  v : Nat
  xn : Int
  xs : Nat
  near : Bool
def cStepH (s : StepH) : List Value := [.int .i64 s.what, .int .i64 s.a, .int .i64 s.b, .int .u64 (s.ser : Int), .int .u64 (s.v : Int), .int .i64 s.xn, .int .u64 (s.xs : Int), .bool s.near]
def StepH.Ok (s : StepH) : Prop := s.ser < 18446744073709551616 ∧ s.v < 18446744073709551616 ∧ s.xs < 18446744073709551616
theorem list8 {α : Type} {l : List α} (h : l.length = 8) : ∃ a b c d e f g i, l = [a, b, c, d, e, f, g, i] := by
  match l, h with
  | [a, b, c, d, e, f, g, i], _ => exact ⟨a, b, c, d, e, f, g, i, rfl⟩
theorem list2 {α : Type} {l : List α} (h : l.length = 2) : ∃ a b, l = [a, b] := by
  match l, h with
  | [a, b], _ => exact ⟨a, b, rfl⟩
theorem trod_u64 {H : Type} {enc : TypeId × Value → H} {W : World} {n : Nat} {u : List Value} {y : DataW H × List MemPlace} (h : DataW.trod enc Tryd.prog W 0 (fun _ => true) true n 32 u = some y) : ∃ x : Nat, u = [.int .u64 (x : Int)] ∧ x < 18446744073709551616 := by
  obtain ⟨x, h1, h2⟩ := trod_nat (K := .u64) rfl Tryd.underlying32 h
  have hm : IntKind.u64.max = 18446744073709551615 := rfl
  exact ⟨x, h1, by omega⟩
theorem WS.stepH {w : World} {ao : Option Addr} {n cap : Nat} {xs : List StepH} (h : WS w (.slice ao n cap) 8 cStepH xs) (i : Nat) (hi : i < xs.length) : ∃ b off, ao = some ⟨b, off, none⟩ ∧ b < w.heap.size ∧
    w.cell? ⟨b, off + i * 8, none⟩ = some (.int .i64 xs[i].what) ∧ w.cell? ⟨b, off + i * 8 + 1, none⟩ = some (.int .i64 xs[i].a) ∧ w.cell? ⟨b, off + i * 8 + 2, none⟩ = some (.int .i64 xs[i].b) ∧ w.cell? ⟨b, off + i * 8 + 3, none⟩ = some (.int .u64 (xs[i].ser : Int)) ∧
    w.cell? ⟨b, off + i * 8 + 4, none⟩ = some (.int .u64 (xs[i].v : Int)) ∧ w.cell? ⟨b, off + i * 8 + 5, none⟩ = some (.int .i64 xs[i].xn) ∧ w.cell? ⟨b, off + i * 8 + 6, none⟩ = some (.int .u64 (xs[i].xs : Int)) ∧ w.cell? ⟨b, off + i * 8 + 7, none⟩ = some (.bool xs[i].near) := by
  obtain ⟨b, off, h1, h2, h3⟩ := h.at i hi
  exact ⟨b, off, h1, h2, h3 0 _ rfl, h3 1 _ rfl, h3 2 _ rfl, h3 3 _ rfl, h3 4 _ rfl, h3 5 _ rfl, h3 6 _ rfl, h3 7 _ rfl⟩

end Go.Proofs.YtlabdbfmfejkaaaDoor
