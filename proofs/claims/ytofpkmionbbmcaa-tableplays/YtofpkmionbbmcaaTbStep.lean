/- The law's steps, as they came in; two tables beside one another. -/
import Derived.Test.YtofpkmionbbmcaaWsl
import Derived.Test.YtofpkmionbbmcaaTbTUI
import Derived.Test.YtofpkmionbbmcaaTbK
import Derived.Test.YtofpkmionbbmcaaPick
namespace Go.Proofs.Ytofpkmionbbmcaa
open Go.ChangeShapes Go.WideShapes Go.ChangeAt Go.RowKit Go.Deep

structure StepT where
  what : Int
  k : Nat
  v : Int
  near : Bool
def cStep (s : StepT) : List Value := [.int .i64 s.what, .int .u64 (s.k : Int), .int .i64 s.v, .bool s.near]

theorem ews_step {H : Type} {enc : TypeId × Value → H} {W : World} : ∀ n cs (y : DataW H × List MemPlace), DataW.trod enc Try.prog W 0 (fun _ => true) true n 49 cs = some y → ∃ x : StepT, cs = cStep x ∧ (x.k : Int) ≤ IntKind.u64.max := by
  intro n cs y h
  obtain ⟨hlen, k, hf⟩ := trod_fields 4 Try.underlying49 (by kernel_rfl) h
  obtain ⟨v0, v1, v2, v3, rfl⟩ := list4 hlen
  obtain ⟨y0, g0⟩ := hf 0 3 0 1 rfl (by kernel_rfl)
  obtain ⟨y1, g1⟩ := hf 1 42 1 1 rfl (by kernel_rfl)
  obtain ⟨y2, g2⟩ := hf 2 3 2 1 rfl (by kernel_rfl)
  obtain ⟨y3, g3⟩ := hf 3 4 3 1 rfl (by kernel_rfl)
  obtain ⟨z0, e0, _, _⟩ := DataW.trod_int Try.underlying3 g0
  obtain ⟨z1, e1, hz1⟩ := trod_nat (K := .u64) rfl Try.underlying42 g1
  obtain ⟨z2, e2, _, _⟩ := DataW.trod_int Try.underlying3 g2
  obtain ⟨z3, e3, _⟩ := DataW.trod_bool Try.underlying4 g3
  simp only [List.drop_succ_cons, List.drop_zero, List.take_succ_cons, List.take_zero, List.cons.injEq, and_true] at e0 e1 e2 e3
  subst e0 e1 e2 e3
  exact ⟨⟨z0, z1, z2, z3⟩, rfl, hz1⟩

/-- One step's cells. -/
theorem WS.step {w : World} {ao : Option Addr} {n cap : Nat} {xs : List StepT} (h : WS w (.slice ao n cap) 4 cStep xs) (i : Nat) (hi : i < xs.length) : ∃ b off, ao = some ⟨b, off, none⟩ ∧ b < w.heap.size ∧
    w.cell? ⟨b, off + i * 4, none⟩ = some (.int .i64 xs[i].what) ∧ w.cell? ⟨b, off + i * 4 + 1, none⟩ = some (.int .u64 (xs[i].k : Int)) ∧ w.cell? ⟨b, off + i * 4 + 2, none⟩ = some (.int .i64 xs[i].v) ∧ w.cell? ⟨b, off + i * 4 + 3, none⟩ = some (.bool xs[i].near) := by
  obtain ⟨b, off, h1, h2, h3⟩ := h.at i hi
  exact ⟨b, off, h1, h2, h3 0 _ rfl, h3 1 _ rfl, h3 2 _ rfl, h3 3 _ rfl⟩

end Go.Proofs.Ytofpkmionbbmcaa
