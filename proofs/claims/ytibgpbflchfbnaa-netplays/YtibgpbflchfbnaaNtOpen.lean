/- Slices of datagrams, and of steps, that came in. -/
import Derived.Test.YtibgpbflchfbnaaNtI
import Derived.Test.YtibgpbflchfbnaaOpen
import Derived.Deep.Slices
namespace Go.Proofs.Ytibgpbflchfbnaa
open Go.ChangeShapes Go.WideShapes Go.ChangeAt Go.RowKit Go.Deep

theorem list_of {α : Type} {p : Nat → α → Prop} : ∀ n, (∀ i, i < n → ∃ x, p i x) → ∃ l : List α, l.length = n ∧ ∀ i (hi : i < l.length), p i l[i] := by
  intro n
  induction n with
  | zero => intro _; exact ⟨[], rfl, fun i hi => by simp at hi⟩
  | succ n ih =>
    intro h
    obtain ⟨l, hl, hp⟩ := ih (fun i hi => h i (by omega))
    obtain ⟨x, hx⟩ := h n (by omega)
    refine ⟨l ++ [x], by simp [hl], fun i hi => ?_⟩
    by_cases hil : i < l.length
    · rw [List.getElem_append_left hil]; exact hp i hil
    · have : i = l.length := by simp at hi; omega
      subst this
      simp only [List.getElem_append_right (Nat.le_refl _), Nat.sub_self, List.getElem_cons_zero]
      rw [hl]; exact hx


/-- One cell that holds a slice of bytes. -/
theorem open_bytes1 {H : Type} {enc : TypeId × Value → H} {P : Program} {W : World} {t e : TypeId} {v : Value} {fuel : Nat} {x : DataW H × List MemPlace} (ht : P.underlying t = some (.slice e)) (he : P.underlying e = some (.int .u8)) (hc : P.cellsOf e = 1)
    (h : DataW.trod enc P W 0 (fun _ => true) true fuel t [v] = some x) : ∃ l : List UInt8, Bs W v l ∧ ((x.1 = .nil ∧ l = []) ∨ ∃ elems spare, x.1 = .slice elems spare ∧ elems.length = l.length) := by
  rcases open_ints ht he hc h with ⟨hcs, hx⟩ | ⟨a, len, cap, zs, hcs, _, hl, hm, hz, hx, hcell, hwz⟩
  · simp at hcs
    subst hcs
    subst hx
    exact ⟨[], Bs.nil _, Or.inl ⟨rfl, rfl⟩⟩
  · simp at hcs
    subst hcs
    subst hx
    simp only [if_true] at hz
    have hlen : ((zs.take len).map (fun n => UInt8.ofNat n.toNat)).length = len := by simp; omega
    refine ⟨(zs.take len).map (fun n => UInt8.ofNat n.toNat), ?_, Or.inr ⟨_, _, rfl, by simp [lits]⟩⟩
    refine ⟨some a, cap, by rw [hlen], ⟨by omega, fun h => by cases h⟩, fun hne => ?_⟩
    have hpos : 0 < len := by rw [← hlen]; exact List.length_pos_iff.2 hne
    obtain ⟨b, off, spot⟩ := a
    have h0 := hcell 0 (by omega)
    have hspot : spot = none := by simpa [Addr.add] using World.cell?_spot h0
    subst hspot
    rw [Addr.add_at] at h0
    refine ⟨b, off, rfl, World.block_lt_of_cell? W _ h0, fun i u hu => ?_⟩
    have hi : i < len := by rw [← hlen]; exact (List.getElem?_eq_some_iff.1 hu).1
    have hc2 := hcell i (by omega)
    rw [Addr.add_at] at hc2
    rw [hc2]
    have hzi : i < zs.length := by omega
    simp only [List.getElem?_map, List.getElem?_take, if_pos hi, List.getElem?_eq_getElem hzi, Option.map_some, Option.some.injEq] at hu
    have hw := byte_wf (hwz zs[i] (List.getElem_mem hzi))
    subst hu
    simp only [bv, List.getD_eq_getElem?_getD, List.getElem?_eq_getElem hzi, Option.getD_some, UInt8.toNat_ofNat']
    rw [show ((zs[i].toNat % 2 ^ 8 : Nat) : Int) = zs[i] by omega]

/-- Three cells that hold one datagram. -/
theorem open_dg1 {H : Type} {enc : TypeId × Value → H} {P : Program} {W : World} {e e3 : TypeId} {f0 f1 f2 : Field} {n : Nat} {cs : List Value} {y : DataW H × List MemPlace}
    (he : P.underlying e = some (.struct #[f0, f1, f2])) (ce : P.cellsOf e = 3) (o0 : f0.offset = 0) (o1 : f1.offset = 1) (o2 : f2.offset = 2)
    (c0 : P.cellsOf f0.type = 1) (c1 : P.cellsOf f1.type = 1) (c2 : P.cellsOf f2.type = 1)
    (u0 : P.underlying f0.type = some (.int .i64)) (u1 : P.underlying f1.type = some (.int .i64)) (u2 : P.underlying f2.type = some (.slice e3)) (ue : P.underlying e3 = some (.int .u8)) (ce3 : P.cellsOf e3 = 1)
    (h : DataW.trod enc P W 0 (fun _ => true) true n e cs = some y) :
    ∃ (d : Dg) (v : Value), cs = [.int .i64 d.frm, .int .i64 d.to, v] ∧ Bs W v d.b := by
  obtain ⟨xs, k, _, hxy, hlen, hxl, hf⟩ := DataW.trod_struct he h
  rw [ce] at hlen
  match xs, hxl, cs, hlen with
  | [y0, y1, y2], _, [v0, v1, v2], _ =>
    have g0 := hf 0 f0 rfl
    have g1 := hf 1 f1 rfl
    have g2 := hf 2 f2 rfl
    simp [o0, o1, o2, c0, c1, c2] at g0 g1 g2
    obtain ⟨z0, e0, _, _⟩ := DataW.trod_int u0 g0
    obtain ⟨z1, e1, _, _⟩ := DataW.trod_int u1 g1
    obtain ⟨l, ht, _⟩ := open_bytes1 u2 ue ce3 g2
    simp only [List.cons.injEq, and_true] at e0 e1
    subst e0 e1
    exact ⟨⟨z0, z1, l⟩, v2, rfl, ht⟩

theorem open_dgs {H : Type} {enc : TypeId × Value → H} {P : Program} {W : World} {t e e3 : TypeId} {f0 f1 f2 : Field} {v : Value} {d : DataW H} {p : List MemPlace} (ht : P.underlying t = some (.slice e))
    (he : P.underlying e = some (.struct #[f0, f1, f2])) (ce : P.cellsOf e = 3) (o0 : f0.offset = 0) (o1 : f1.offset = 1) (o2 : f2.offset = 2)
    (c0 : P.cellsOf f0.type = 1) (c1 : P.cellsOf f1.type = 1) (c2 : P.cellsOf f2.type = 1)
    (u0 : P.underlying f0.type = some (.int .i64)) (u1 : P.underlying f1.type = some (.int .i64)) (u2 : P.underlying f2.type = some (.slice e3)) (ue : P.underlying e3 = some (.int .u8)) (ce3 : P.cellsOf e3 = 1)
    (hv : ∃ a len cap, v = .slice a len cap) (h : DataW.Trod enc P W 0 (fun _ => true) true t v d p) :
    ∃ ds : List Dg, Dgs W v ds ∧ ((d = .nil ∧ ds = []) ∨ ∃ elems spare, d = .slice elems spare ∧ elems.length = ds.length) := by
  obtain ⟨a0, len0, cap0, rfl⟩ := hv
  obtain ⟨fuel, hf⟩ := h
  rcases open_slice ht hf with ⟨hcs, hx⟩ | ⟨a, len, cap, m, n, D, Pl, hcs, _, hl, hm, hmm, hx, hel⟩
  · simp [Value.cells] at hcs
    obtain ⟨rfl, rfl, rfl⟩ := hcs
    simp only [Prod.mk.injEq] at hx
    exact ⟨[], ⟨none, 0, rfl, ⟨Nat.zero_le _, fun _ => rfl⟩, fun h => absurd rfl h⟩, Or.inl ⟨hx.1, rfl⟩⟩
  · simp [Value.cells] at hcs
    obtain ⟨rfl, rfl, rfl⟩ := hcs
    simp only [Prod.mk.injEq] at hx
    obtain ⟨rfl, _⟩ := hx
    simp only [if_true] at hmm
    rw [ce] at hel
    have hat : ∀ i, i < len0 → ∃ d : Dg, (∀ b off, a = ⟨b, off, none⟩ → DgAt W b (off + i * 3) d) ∧ (∃ cs', W.cell? (a.add (i * 3)) = some cs') := by
      intro i hi
      obtain ⟨cs', h1, h2⟩ := hel i (by omega)
      obtain ⟨_, hlen, hcell⟩ := World.cells?_some h1
      obtain ⟨d, tv, rfl, htv⟩ := open_dg1 he ce o0 o1 o2 c0 c1 c2 u0 u1 u2 ue ce3 h2
      have k0 := hcell 0 (by omega)
      have k1 := hcell 1 (by omega)
      have k2 := hcell 2 (by omega)
      rw [add_add] at k0 k1 k2
      refine ⟨d, ?_, ⟨_, by simpa using k0⟩⟩
      rintro b off rfl
      rw [Addr.add_at] at k0 k1 k2
      exact ⟨by simpa using k0, by simpa [Nat.add_assoc] using k1, tv, by simpa [Nat.add_assoc] using k2, htv⟩
    obtain ⟨ds, hdl, hds⟩ := list_of len0 hat
    refine ⟨ds, ⟨some a, cap0, by rw [hdl], ⟨by omega, fun h => by cases h⟩, fun hne => ?_⟩, Or.inr ⟨_, _, rfl, by simp [hdl]⟩⟩
    have hpos : 0 < ds.length := List.length_pos_iff.2 hne
    obtain ⟨b, off, spot⟩ := a
    obtain ⟨u, hu⟩ := (hds 0 hpos).2
    have hspot : spot = none := by simpa [Addr.add] using World.cell?_spot hu
    subst hspot
    rw [Addr.add_at] at hu
    exact ⟨b, off, rfl, World.block_lt_of_cell? W _ hu, fun i hi => (hds i hi).1 b off rfl⟩

/-- A step: what is called, with which number, which datagram. -/
structure StepD where
  what : Int
  k : Int
  d : Dg
def StepAt (w : World) (blk o : Nat) (s : StepD) : Prop := w.cell? ⟨blk, o, none⟩ = some (.int .i64 s.what) ∧ w.cell? ⟨blk, o + 1, none⟩ = some (.int .i64 s.k) ∧ w.cell? ⟨blk, o + 2, none⟩ = some (.int .i64 s.d.frm) ∧ w.cell? ⟨blk, o + 3, none⟩ = some (.int .i64 s.d.to) ∧ ∃ v, w.cell? ⟨blk, o + 4, none⟩ = some v ∧ Bs w v s.d.b
def Steps (w : World) (v : Value) (ss : List StepD) : Prop := ∃ ao cap, v = .slice ao ss.length cap ∧ (ss ≠ [] → ∃ blk off, ao = some ⟨blk, off, none⟩ ∧ blk < w.heap.size ∧ ∀ i (hi : i < ss.length), StepAt w blk (off + i * 5) ss[i])
theorem StepAt.below {w w' : World} {blk o : Nat} {s : StepD} {B : Nat} (h : StepAt w blk o s) (hb : Below w.heap.size w w') (hB : blk < B) (hle : B ≤ w.heap.size) : StepAt w' blk o s := by
  obtain ⟨h0, h1, h2, h3, v, h4, h5⟩ := h
  have hlt : blk < w.heap.size := by omega
  exact ⟨(hb.cell (p := ⟨blk, o, none⟩) hlt).trans h0, (hb.cell (p := ⟨blk, o + 1, none⟩) hlt).trans h1, (hb.cell (p := ⟨blk, o + 2, none⟩) hlt).trans h2, (hb.cell (p := ⟨blk, o + 3, none⟩) hlt).trans h3, v, (hb.cell (p := ⟨blk, o + 4, none⟩) hlt).trans h4, h5.below hb⟩

/-- Five cells that hold one step. -/
theorem open_step1 {H : Type} {enc : TypeId × Value → H} {P : Program} {W : World} {e e3 : TypeId} {f0 f1 f2 g0 g1 g2 : Field} {n : Nat} {cs : List Value} {y : DataW H × List MemPlace}
    (he : P.underlying e = some (.struct #[f0, f1, f2])) (ce : P.cellsOf e = 5) (o0 : f0.offset = 0) (o1 : f1.offset = 1) (o2 : f2.offset = 2)
    (c0 : P.cellsOf f0.type = 1) (c1 : P.cellsOf f1.type = 1) (c2 : P.cellsOf f2.type = 3)
    (u0 : P.underlying f0.type = some (.int .i64)) (u1 : P.underlying f1.type = some (.int .i64)) (u2 : P.underlying f2.type = some (.struct #[g0, g1, g2]))
    (p0 : g0.offset = 0) (p1 : g1.offset = 1) (p2 : g2.offset = 2) (d0 : P.cellsOf g0.type = 1) (d1 : P.cellsOf g1.type = 1) (d2 : P.cellsOf g2.type = 1)
    (v0 : P.underlying g0.type = some (.int .i64)) (v1 : P.underlying g1.type = some (.int .i64)) (v2 : P.underlying g2.type = some (.slice e3)) (ue : P.underlying e3 = some (.int .u8)) (ce3 : P.cellsOf e3 = 1)
    (h : DataW.trod enc P W 0 (fun _ => true) true n e cs = some y) :
    ∃ (s : StepD) (v : Value), cs = [.int .i64 s.what, .int .i64 s.k, .int .i64 s.d.frm, .int .i64 s.d.to, v] ∧ Bs W v s.d.b := by
  obtain ⟨xs, k, _, hxy, hlen, hxl, hf⟩ := DataW.trod_struct he h
  rw [ce] at hlen
  match xs, hxl, cs, hlen with
  | [y0, y1, y2], _, [a0, a1, a2, a3, a4], _ =>
    have q0 := hf 0 f0 rfl
    have q1 := hf 1 f1 rfl
    have q2 := hf 2 f2 rfl
    simp [o0, o1, o2, c0, c1, c2] at q0 q1 q2
    obtain ⟨z0, e0, _, _⟩ := DataW.trod_int u0 q0
    obtain ⟨z1, e1, _, _⟩ := DataW.trod_int u1 q1
    obtain ⟨d, v, hcs, hb⟩ := open_dg1 u2 c2 p0 p1 p2 d0 d1 d2 v0 v1 v2 ue ce3 q2
    simp only [List.cons.injEq, and_true] at e0 e1 hcs
    obtain ⟨rfl, rfl, rfl⟩ := hcs
    subst e0 e1
    exact ⟨⟨z0, z1, d⟩, _, rfl, hb⟩

theorem open_steps {H : Type} {enc : TypeId × Value → H} {P : Program} {W : World} {t e e3 : TypeId} {f0 f1 f2 g0 g1 g2 : Field} {v : Value} {d : DataW H} {p : List MemPlace} (ht : P.underlying t = some (.slice e))
    (he : P.underlying e = some (.struct #[f0, f1, f2])) (ce : P.cellsOf e = 5) (o0 : f0.offset = 0) (o1 : f1.offset = 1) (o2 : f2.offset = 2)
    (c0 : P.cellsOf f0.type = 1) (c1 : P.cellsOf f1.type = 1) (c2 : P.cellsOf f2.type = 3)
    (u0 : P.underlying f0.type = some (.int .i64)) (u1 : P.underlying f1.type = some (.int .i64)) (u2 : P.underlying f2.type = some (.struct #[g0, g1, g2]))
    (p0 : g0.offset = 0) (p1 : g1.offset = 1) (p2 : g2.offset = 2) (d0 : P.cellsOf g0.type = 1) (d1 : P.cellsOf g1.type = 1) (d2 : P.cellsOf g2.type = 1)
    (v0 : P.underlying g0.type = some (.int .i64)) (v1 : P.underlying g1.type = some (.int .i64)) (v2 : P.underlying g2.type = some (.slice e3)) (ue : P.underlying e3 = some (.int .u8)) (ce3 : P.cellsOf e3 = 1)
    (hv : ∃ a len cap, v = .slice a len cap) (h : DataW.Trod enc P W 0 (fun _ => true) true t v d p) :
    ∃ ss : List StepD, Steps W v ss ∧ ((d = .nil ∧ ss = []) ∨ ∃ elems spare, d = .slice elems spare ∧ elems.length = ss.length) := by
  obtain ⟨a0, len0, cap0, rfl⟩ := hv
  obtain ⟨fuel, hf⟩ := h
  rcases open_slice ht hf with ⟨hcs, hx⟩ | ⟨a, len, cap, m, n, D, Pl, hcs, _, hl, hm, hmm, hx, hel⟩
  · simp [Value.cells] at hcs
    obtain ⟨rfl, rfl, rfl⟩ := hcs
    simp only [Prod.mk.injEq] at hx
    exact ⟨[], ⟨none, 0, rfl, fun h => absurd rfl h⟩, Or.inl ⟨hx.1, rfl⟩⟩
  · simp [Value.cells] at hcs
    obtain ⟨rfl, rfl, rfl⟩ := hcs
    simp only [Prod.mk.injEq] at hx
    obtain ⟨rfl, _⟩ := hx
    simp only [if_true] at hmm
    rw [ce] at hel
    have hat : ∀ i, i < len0 → ∃ s : StepD, (∀ b off, a = ⟨b, off, none⟩ → StepAt W b (off + i * 5) s) ∧ (∃ cs', W.cell? (a.add (i * 5)) = some cs') := by
      intro i hi
      obtain ⟨cs', h1, h2⟩ := hel i (by omega)
      obtain ⟨_, hlen, hcell⟩ := World.cells?_some h1
      obtain ⟨s, tv, rfl, htv⟩ := open_step1 he ce o0 o1 o2 c0 c1 c2 u0 u1 u2 p0 p1 p2 d0 d1 d2 v0 v1 v2 ue ce3 h2
      have k0 := hcell 0 (by omega)
      have k1 := hcell 1 (by omega)
      have k2 := hcell 2 (by omega)
      have k3 := hcell 3 (by omega)
      have k4 := hcell 4 (by omega)
      rw [add_add] at k0 k1 k2 k3 k4
      refine ⟨s, ?_, ⟨_, by simpa using k0⟩⟩
      rintro b off rfl
      rw [Addr.add_at] at k0 k1 k2 k3 k4
      exact ⟨by simpa using k0, by simpa [Nat.add_assoc] using k1, by simpa [Nat.add_assoc] using k2, by simpa [Nat.add_assoc] using k3, tv, by simpa [Nat.add_assoc] using k4, htv⟩
    obtain ⟨ss, hdl, hds⟩ := list_of len0 hat
    refine ⟨ss, ⟨some a, cap0, by rw [hdl], fun hne => ?_⟩, Or.inr ⟨_, _, rfl, by simp [hdl]⟩⟩
    have hpos : 0 < ss.length := List.length_pos_iff.2 hne
    obtain ⟨b, off, spot⟩ := a
    obtain ⟨u, hu⟩ := (hds 0 hpos).2
    have hspot : spot = none := by simpa [Addr.add] using World.cell?_spot hu
    subst hspot
    rw [Addr.add_at] at hu
    exact ⟨b, off, rfl, World.block_lt_of_cell? W _ hu, fun i hi => (hds i hi).1 b off rfl⟩

/-- The form's own reach, of a slice. -/
theorem len_reach {α H : Type} {P : Program} {ts : List TypeId} {ds : List (DataW H)} (h : (DataW.weightsEach P ts ds).all (· ≤ reachBytes) = true) {j : Nat} {t e : TypeId} {d : DataW H} {l : List α} {c : Nat} (ht : ts[j]? = some t) (hd : ds[j]? = some d) (hu : P.underlying t = some (.slice e)) (hb : P.bytesOf e = c)
    (hl : (d = .nil ∧ l = []) ∨ ∃ elems spare, d = .slice elems spare ∧ elems.length = l.length) : l.length * c ≤ 140737488351232 := by
  rcases hl with ⟨_, rfl⟩ | ⟨elems, spare, rfl, he⟩
  · simp
  · have := sized_slice h ht hd hu
    rw [hb] at this
    simp only [reachBytes] at this
    rw [← he]
    have h2 : elems.length * c ≤ (elems.length + spare.length) * c := Nat.mul_le_mul_right _ (by omega)
    have e2 := Nat.mul_comm c elems.length
    have e3 := Nat.mul_comm c (elems.length + spare.length)
    omega

end Go.Proofs.Ytibgpbflchfbnaa
