/- Steps that came in, and how long their bytes may be. -/
import Derived.Test.YtibgpbflchfbnaaNtOpen
namespace Go.Proofs.Ytibgpbflchfbnaa
open Go.ChangeShapes Go.WideShapes Go.ChangeAt Go.RowKit Go.Deep

theorem weights_all {H : Type} {P : Program} {e : TypeId} {d : DataW H} : ∀ {l : List (DataW H)}, d ∈ l → ∀ n ∈ d.weights P e, n ∈ DataW.weightsAll P e l := by
  intro l
  induction l with
  | nil => intro h; simp at h
  | cons x r ih =>
    intro h n hn
    simp only [DataW.weightsAll]
    rcases List.mem_cons.1 h with rfl | h
    · exact List.mem_append_left _ hn
    · exact List.mem_append_right _ (ih h n hn)

/-- Three cells that hold one datagram. -/
theorem open_dg1w {H : Type} {enc : TypeId × Value → H} {P : Program} {W : World} {e e3 : TypeId} {f0 f1 f2 : Field} {n : Nat} {cs : List Value} {y : DataW H × List MemPlace}
    (he : P.underlying e = some (.struct #[f0, f1, f2])) (ce : P.cellsOf e = 3) (o0 : f0.offset = 0) (o1 : f1.offset = 1) (o2 : f2.offset = 2)
    (c0 : P.cellsOf f0.type = 1) (c1 : P.cellsOf f1.type = 1) (c2 : P.cellsOf f2.type = 1)
    (u0 : P.underlying f0.type = some (.int .i64)) (u1 : P.underlying f1.type = some (.int .i64)) (u2 : P.underlying f2.type = some (.slice e3)) (ue : P.underlying e3 = some (.int .u8)) (ce3 : P.cellsOf e3 = 1) (be3 : P.bytesOf e3 = 1)
    (h : DataW.trod enc P W 0 (fun _ => true) true n e cs = some y) :
    ∃ (d : Dg) (v : Value), cs = [.int .i64 d.frm, .int .i64 d.to, v] ∧ Bs W v d.b ∧ ∀ B, (y.1.weights P e).all (· ≤ B) = true → d.b.length ≤ B := by
  obtain ⟨xs, k, _, hxy, hlen, hxl, hf⟩ := DataW.trod_struct he h
  rw [ce] at hlen
  match xs, hxl, cs, hlen with
  | [y0, y1, y2], _, [v0, v1, v2], _ =>
    have g0 := hf 0 f0 rfl
    have g1 := hf 1 f1 rfl
    have g2 := hf 2 f2 rfl
    simp [o0, o1, o2, c0, c1, c2] at g0 g1 g2
    obtain ⟨z0, e0, _, _⟩ := DataW.trod_int u0 g0
    obtain ⟨z1, e1, _, _⟩ := DataW.trod_int u1 g1
    obtain ⟨l, ht, hlen⟩ := open_bytes1 u2 ue ce3 g2
    simp only [List.cons.injEq, and_true] at e0 e1
    subst e0 e1
    refine ⟨⟨z0, z1, l⟩, v2, rfl, ht, fun B hB => ?_⟩
    subst hxy
    simp only [List.map_cons, List.map_nil, DataW.weights, he] at hB
    have hmem : ∀ n ∈ y2.1.weights P f2.type, n ≤ B := fun n hn => by
      have := List.all_eq_true.1 hB n (DataW.weights_mem_each (j := 2) rfl rfl n hn)
      simpa using this
    rcases hlen with ⟨_, rfl⟩ | ⟨elems, spare, he2, hl2⟩
    · simp
    · have := hmem ((elems.length + spare.length) * P.bytesOf e3) (by rw [he2]; simp [DataW.weights, u2])
      rw [be3] at this
      show l.length ≤ B
      omega

/-- Five cells that hold one step. -/
theorem open_step1w {H : Type} {enc : TypeId × Value → H} {P : Program} {W : World} {e e3 : TypeId} {f0 f1 f2 g0 g1 g2 : Field} {n : Nat} {cs : List Value} {y : DataW H × List MemPlace}
    (he : P.underlying e = some (.struct #[f0, f1, f2])) (ce : P.cellsOf e = 5) (o0 : f0.offset = 0) (o1 : f1.offset = 1) (o2 : f2.offset = 2)
    (c0 : P.cellsOf f0.type = 1) (c1 : P.cellsOf f1.type = 1) (c2 : P.cellsOf f2.type = 3)
    (u0 : P.underlying f0.type = some (.int .i64)) (u1 : P.underlying f1.type = some (.int .i64)) (u2 : P.underlying f2.type = some (.struct #[g0, g1, g2]))
    (p0 : g0.offset = 0) (p1 : g1.offset = 1) (p2 : g2.offset = 2) (d0 : P.cellsOf g0.type = 1) (d1 : P.cellsOf g1.type = 1) (d2 : P.cellsOf g2.type = 1)
    (v0 : P.underlying g0.type = some (.int .i64)) (v1 : P.underlying g1.type = some (.int .i64)) (v2 : P.underlying g2.type = some (.slice e3)) (ue : P.underlying e3 = some (.int .u8)) (ce3 : P.cellsOf e3 = 1) (be3 : P.bytesOf e3 = 1)
    (h : DataW.trod enc P W 0 (fun _ => true) true n e cs = some y) :
    ∃ (s : StepD) (v : Value), cs = [.int .i64 s.what, .int .i64 s.k, .int .i64 s.d.frm, .int .i64 s.d.to, v] ∧ Bs W v s.d.b ∧ ∀ B, (y.1.weights P e).all (· ≤ B) = true → s.d.b.length ≤ B := by
  obtain ⟨xs, k, _, hxy, hlen, hxl, hf⟩ := DataW.trod_struct he h
  rw [ce] at hlen
  match xs, hxl, cs, hlen with
  | [y0, y1, y2], _, [a0, a1, a2, a3, a4], _ =>
    have q0 := hf 0 f0 rfl
    have q1 := hf 1 f1 rfl
    have q2 := hf 2 f2 rfl
    simp [o0, o1, o2, c0, c1, c2] at q0 q1 q2
    obtain ⟨z0, e0, _, _⟩ := DataW.trod_int u0 q0
    obtain ⟨z1, e1, _, _⟩ := DataW.trod_int u1 q1
    obtain ⟨d, v, hcs, hb, hwt⟩ := open_dg1w u2 c2 p0 p1 p2 d0 d1 d2 v0 v1 v2 ue ce3 be3 q2
    simp only [List.cons.injEq, and_true] at e0 e1 hcs
    obtain ⟨rfl, rfl, rfl⟩ := hcs
    subst e0 e1
    refine ⟨⟨z0, z1, d⟩, _, rfl, hb, fun B hB => hwt B ?_⟩
    subst hxy
    simp only [List.map_cons, List.map_nil, DataW.weights, he] at hB
    refine List.all_eq_true.2 fun n hn => List.all_eq_true.1 hB n (DataW.weights_mem_each (j := 2) rfl rfl n hn)

theorem open_stepsw {H : Type} {enc : TypeId × Value → H} {P : Program} {W : World} {t e e3 : TypeId} {f0 f1 f2 g0 g1 g2 : Field} {v : Value} {d : DataW H} {p : List MemPlace} (ht : P.underlying t = some (.slice e))
    (he : P.underlying e = some (.struct #[f0, f1, f2])) (ce : P.cellsOf e = 5) (o0 : f0.offset = 0) (o1 : f1.offset = 1) (o2 : f2.offset = 2)
    (c0 : P.cellsOf f0.type = 1) (c1 : P.cellsOf f1.type = 1) (c2 : P.cellsOf f2.type = 3)
    (u0 : P.underlying f0.type = some (.int .i64)) (u1 : P.underlying f1.type = some (.int .i64)) (u2 : P.underlying f2.type = some (.struct #[g0, g1, g2]))
    (p0 : g0.offset = 0) (p1 : g1.offset = 1) (p2 : g2.offset = 2) (d0 : P.cellsOf g0.type = 1) (d1 : P.cellsOf g1.type = 1) (d2 : P.cellsOf g2.type = 1)
    (v0 : P.underlying g0.type = some (.int .i64)) (v1 : P.underlying g1.type = some (.int .i64)) (v2 : P.underlying g2.type = some (.slice e3)) (ue : P.underlying e3 = some (.int .u8)) (ce3 : P.cellsOf e3 = 1) (be3 : P.bytesOf e3 = 1)
    (hv : ∃ a len cap, v = .slice a len cap) (h : DataW.Trod enc P W 0 (fun _ => true) true t v d p) :
    ∃ ss : List StepD, Steps W v ss ∧ (∀ B, (d.weights P t).all (· ≤ B) = true → ∀ s ∈ ss, s.d.b.length ≤ B) ∧ ((d = .nil ∧ ss = []) ∨ ∃ elems spare, d = .slice elems spare ∧ elems.length = ss.length) := by
  obtain ⟨a0, len0, cap0, rfl⟩ := hv
  obtain ⟨fuel, hf⟩ := h
  rcases open_slice ht hf with ⟨hcs, hx⟩ | ⟨a, len, cap, m, n, D, Pl, hcs, _, hl, hm, hmm, hx, hel⟩
  · simp [Value.cells] at hcs
    obtain ⟨rfl, rfl, rfl⟩ := hcs
    simp only [Prod.mk.injEq] at hx
    exact ⟨[], ⟨none, 0, rfl, fun h => absurd rfl h⟩, by simp, Or.inl ⟨hx.1, rfl⟩⟩
  · simp [Value.cells] at hcs
    obtain ⟨rfl, rfl, rfl⟩ := hcs
    simp only [Prod.mk.injEq] at hx
    obtain ⟨rfl, _⟩ := hx
    simp only [if_true] at hmm
    rw [ce] at hel
    have hat : ∀ i, i < len0 → ∃ s : StepD, (∀ b off, a = ⟨b, off, none⟩ → StepAt W b (off + i * 5) s) ∧ (∃ cs', W.cell? (a.add (i * 5)) = some cs') ∧ ∀ B, ((D i).weights P e).all (· ≤ B) = true → s.d.b.length ≤ B := by
      intro i hi
      obtain ⟨cs', h1, h2⟩ := hel i (by omega)
      obtain ⟨_, hlen, hcell⟩ := World.cells?_some h1
      obtain ⟨s, tv, rfl, htv, hwt⟩ := open_step1w he ce o0 o1 o2 c0 c1 c2 u0 u1 u2 p0 p1 p2 d0 d1 d2 v0 v1 v2 ue ce3 be3 h2
      have k0 := hcell 0 (by omega)
      have k1 := hcell 1 (by omega)
      have k2 := hcell 2 (by omega)
      have k3 := hcell 3 (by omega)
      have k4 := hcell 4 (by omega)
      rw [add_add] at k0 k1 k2 k3 k4
      refine ⟨s, ?_, ⟨_, by simpa using k0⟩, hwt⟩
      rintro b off rfl
      rw [Addr.add_at] at k0 k1 k2 k3 k4
      exact ⟨by simpa using k0, by simpa [Nat.add_assoc] using k1, by simpa [Nat.add_assoc] using k2, by simpa [Nat.add_assoc] using k3, tv, by simpa [Nat.add_assoc] using k4, htv⟩
    obtain ⟨ss, hdl, hds⟩ := list_of len0 hat
    have hw : ∀ B, (DataW.weights P t (.slice ((List.range len0).map D) ((List.range (m - len0)).map (fun i => D (len0 + i)))) : List Nat).all (· ≤ B) = true → ∀ s ∈ ss, s.d.b.length ≤ B := fun B hB s hs => by
      obtain ⟨i, hi, rfl⟩ := List.getElem_of_mem hs
      refine (hds i hi).2.2 B ?_
      simp only [DataW.weights, ht] at hB
      refine List.all_eq_true.2 fun n hn => List.all_eq_true.1 hB n ?_
      exact List.mem_cons_of_mem _ (List.mem_append_left _ (weights_all (List.mem_map.2 ⟨i, by simp; omega, rfl⟩) n hn))
    refine ⟨ss, ⟨some a, cap0, by rw [hdl], fun hne => ?_⟩, hw, Or.inr ⟨_, _, rfl, by simp [hdl]⟩⟩
    have hpos : 0 < ss.length := List.length_pos_iff.2 hne
    obtain ⟨b, off, spot⟩ := a
    obtain ⟨u, hu⟩ := (hds 0 hpos).2.1
    have hspot : spot = none := by simpa [Addr.add] using World.cell?_spot hu
    subst hspot
    rw [Addr.add_at] at hu
    exact ⟨b, off, rfl, World.block_lt_of_cell? W _ hu, fun i hi => (hds i hi).1 b off rfl⟩

end Go.Proofs.Ytibgpbflchfbnaa
