/- A slice of things to be asked for that came in: from its reading to what it holds. -/
import Derived.Test.YtmnajmlfioiboaaReads
import Derived.Test.YtmnajmlfioiboaaOpenL
namespace Go.Proofs.Ytmnajmlfioiboaa
open Go.ChangeShapes Go.WideShapes Go.ChangeAt Go.RowKit Go.Deep

theorem open_ask1 {H : Type} {enc : TypeId × Value → H} {P : Program} {W : World} {e : TypeId} {f0 f1 f2 f3 : Field} {n : Nat} {cs : List Value} {y : DataW H × List MemPlace}
    (he : P.underlying e = some (.struct #[f0, f1, f2, f3])) (ce : P.cellsOf e = 4) (o0 : f0.offset = 0) (o1 : f1.offset = 1) (o2 : f2.offset = 2) (o3 : f3.offset = 3)
    (c0 : P.cellsOf f0.type = 1) (c1 : P.cellsOf f1.type = 1) (c2 : P.cellsOf f2.type = 1) (c3 : P.cellsOf f3.type = 1)
    (u0 : P.underlying f0.type = some (.int .i64)) (u1 : P.underlying f1.type = some (.int .u8)) (u2 : P.underlying f2.type = some (.int .u64)) (u3 : P.underlying f3.type = some (.int .i64))
    (h : DataW.trod enc P W 0 (fun _ => true) true n e cs = some y) :
    ∃ (d : AskD), cs = [.int .i64 d.what, .int .u8 (d.b : Int), .int .u64 (d.n : Int), .int .i64 d.t] ∧ d.t ≤ 9223372036854775807 := by
  obtain ⟨xs, k, _, _, hlen, hxl, hf⟩ := DataW.trod_struct he h
  rw [ce] at hlen
  match xs, hxl, cs, hlen with
  | [y0, y1, y2, y3], _, [v0, v1, v2, v3], _ =>
    have g0 := hf 0 f0 rfl
    have g1 := hf 1 f1 rfl
    have g2 := hf 2 f2 rfl
    have g3 := hf 3 f3 rfl
    simp [o0, o1, o2, o3, c0, c1, c2, c3] at g0 g1 g2 g3
    obtain ⟨z0, e0, _, _⟩ := DataW.trod_int u0 g0
    obtain ⟨z1, e1, _, w1⟩ := DataW.trod_int u1 g1
    obtain ⟨z2, e2, _, w2⟩ := DataW.trod_int u2 g2
    obtain ⟨z3, e3, _, w3⟩ := DataW.trod_int u3 g3
    simp only [List.cons.injEq, and_true] at e0 e1 e2 e3
    subst e0 e1 e2 e3
    have b1 := byte_wf w1
    have b2 := u64_wf w2
    have b3 := i64_wf w3
    refine ⟨⟨z0, z1.toNat, z2.toNat, z3⟩, ?_, b3.2⟩
    simp only [List.cons.injEq, Value.int.injEq, true_and, and_true]
    omega

theorem open_asks {H : Type} {enc : TypeId × Value → H} {P : Program} {W : World} {t e : TypeId} {f0 f1 f2 f3 : Field} {v : Value} {d : DataW H} {p : List MemPlace} (ht : P.underlying t = some (.slice e))
    (he : P.underlying e = some (.struct #[f0, f1, f2, f3])) (ce : P.cellsOf e = 4) (o0 : f0.offset = 0) (o1 : f1.offset = 1) (o2 : f2.offset = 2) (o3 : f3.offset = 3)
    (c0 : P.cellsOf f0.type = 1) (c1 : P.cellsOf f1.type = 1) (c2 : P.cellsOf f2.type = 1) (c3 : P.cellsOf f3.type = 1)
    (u0 : P.underlying f0.type = some (.int .i64)) (u1 : P.underlying f1.type = some (.int .u8)) (u2 : P.underlying f2.type = some (.int .u64)) (u3 : P.underlying f3.type = some (.int .i64))
    (hv : ∃ a len cap, v = .slice a len cap) (h : DataW.Trod enc P W 0 (fun _ => true) true t v d p) :
    ∃ ds : List AskD, Asks W v ds ∧ ((d = .nil ∧ ds = []) ∨ ∃ elems spare, d = .slice elems spare ∧ elems.length = ds.length) := by
  obtain ⟨a0, len0, cap0, rfl⟩ := hv
  obtain ⟨fuel, hf⟩ := h
  rcases open_slice ht hf with ⟨hcs, hx⟩ | ⟨a, len, cap, m, n, D, Pl, hcs, _, hl, hm, hmm, hx, hel⟩
  · simp [Value.cells] at hcs
    obtain ⟨rfl, rfl, rfl⟩ := hcs
    simp only [Prod.mk.injEq] at hx
    exact ⟨[], ⟨none, 0, rfl, fun h => absurd rfl h⟩, Or.inl ⟨hx.1, rfl⟩⟩
  · simp [Value.cells] at hcs
    obtain ⟨rfl, rfl, rfl⟩ := hcs
    simp only [Prod.mk.injEq] at hx
    obtain ⟨rfl, _⟩ := hx
    simp only [if_true] at hmm
    rw [ce] at hel
    have hat : ∀ i, i < len0 → ∃ d : AskD, (∀ b off, a = ⟨b, off, none⟩ → AskAt W b (off + i * 4) d) ∧ (∃ cs', W.cell? (a.add (i * 4)) = some cs') := by
      intro i hi
      obtain ⟨cs', h1, h2⟩ := hel i (by omega)
      obtain ⟨_, hlen, hcell⟩ := World.cells?_some h1
      obtain ⟨d, rfl, hdt⟩ := open_ask1 he ce o0 o1 o2 o3 c0 c1 c2 c3 u0 u1 u2 u3 h2
      have k0 := hcell 0 (by omega)
      have k1 := hcell 1 (by omega)
      have k2 := hcell 2 (by omega)
      have k3 := hcell 3 (by omega)
      rw [add_add] at k0 k1 k2 k3
      refine ⟨d, ?_, ⟨_, by simpa using k0⟩⟩
      rintro b off rfl
      rw [Addr.add_at] at k0 k1 k2 k3
      exact ⟨by simpa using k0, by simpa [Nat.add_assoc] using k1, by simpa [Nat.add_assoc] using k2, by simpa [Nat.add_assoc] using k3, hdt⟩
    obtain ⟨ds, hdl, hds⟩ := list_of len0 hat
    refine ⟨ds, ⟨some a, cap0, by rw [hdl], fun hne => ?_⟩, Or.inr ⟨_, _, rfl, by simp [hdl]⟩⟩
    have hpos : 0 < ds.length := List.length_pos_iff.2 hne
    obtain ⟨b, off, spot⟩ := a
    obtain ⟨u, hu⟩ := (hds 0 hpos).2
    have hspot : spot = none := by simpa [Addr.add] using World.cell?_spot hu
    subst hspot
    rw [Addr.add_at] at hu
    exact ⟨b, off, rfl, World.block_lt_of_cell? W _ hu, fun i hi => (hds i hi).1 b off rfl⟩

end Go.Proofs.Ytmnajmlfioiboaa
