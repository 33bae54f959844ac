/- A slice of things to be laid that came in: from its reading to what it holds. -/
import Derived.Test.YtdadbdeeoemfcabLaid
import Derived.Test.YtdadbdeeoemfcabOpen
import Derived.Deep.Slices
namespace Go.Proofs.Ytdadbdeeoemfcab
open Go.ChangeShapes Go.WideShapes Go.ChangeAt Go.RowKit Go.Deep

theorem list_of {α : Type} {p : Nat → α → Prop} : ∀ n, (∀ i, i < n → ∃ x, p i x) → ∃ l : List α, l.length = n ∧ ∀ i (hi : i < l.length), p i l[i] := by
  intro n
  induction n with
  | zero => intro _; exact ⟨[], rfl, fun i hi => by simp at hi⟩
  | succ n ih =>
    intro h
    obtain ⟨l, hl, hp⟩ := ih (fun i hi => h i (by omega))
    obtain ⟨x, hx⟩ := h n (by omega)
    refine ⟨l ++ [x], by simp [hl], fun i hi => ?_⟩
    by_cases hil : i < l.length
    · rw [List.getElem_append_left hil]; exact hp i hil
    · have : i = l.length := by simp at hi; omega
      subst this
      simp only [List.getElem_append_right (Nat.le_refl _), Nat.sub_self, List.getElem_cons_zero]
      rw [hl]; exact hx

/-! what the bulk gives -/
theorem bulk_one {H : Type} (d : DataW H) : 1 ≤ Rows.uptoBulk d := by
  cases d with
  | lit l => cases l <;> simp [Rows.uptoBulk]
  | nil => simp [Rows.uptoBulk]
  | ptr d => simp [Rows.uptoBulk]
  | slice elems spare => simp [Rows.uptoBulk]
  | agg parts => simp [Rows.uptoBulk]
  | iface t d => simp [Rows.uptoBulk]
  | map entries => simp [Rows.uptoBulk]
  | held h => simp [Rows.uptoBulk]
theorem bulk_len {H : Type} (l : List (DataW H)) : l.length ≤ Rows.uptoBulkAll l := by
  induction l with
  | nil => simp [Rows.uptoBulkAll]
  | cons x r ih => have := bulk_one x; simp only [Rows.uptoBulkAll, List.length_cons]; omega
theorem bulk_bound {H : Type} {l : List (DataW H)} (hk : Rows.uptoSmall H l = true) : Rows.uptoBulkAll l ≤ 1048576 := of_decide_eq_true hk

/-- One cell that holds a slice of bytes. -/
theorem open_bytes1 {H : Type} {enc : TypeId × Value → H} {P : Program} {W : World} {t e : TypeId} {v : Value} {fuel : Nat} {x : DataW H × List MemPlace} (ht : P.underlying t = some (.slice e)) (he : P.underlying e = some (.int .u8)) (hc : P.cellsOf e = 1)
    (h : DataW.trod enc P W 0 (fun _ => true) true fuel t [v] = some x) : ∃ l : List UInt8, Bs W v l ∧ l.length + 1 ≤ Rows.uptoBulk x.1 := by
  rcases open_ints ht he hc h with ⟨hcs, hx⟩ | ⟨a, len, cap, zs, hcs, _, hl, hm, hz, hx, hcell, hwz⟩
  · simp at hcs
    subst hcs
    subst hx
    exact ⟨[], Bs.nil _, by simp [Rows.uptoBulk]⟩
  · simp at hcs
    subst hcs
    subst hx
    simp only [if_true] at hz
    have hlen : ((zs.take len).map (fun n => UInt8.ofNat n.toNat)).length = len := by simp; omega
    refine ⟨(zs.take len).map (fun n => UInt8.ofNat n.toNat), ?_, ?_⟩
    · refine ⟨some a, cap, by rw [hlen], ⟨by omega, fun h => by cases h⟩, fun hne => ?_⟩
      have hpos : 0 < len := by rw [← hlen]; exact List.length_pos_iff.2 hne
      obtain ⟨b, off, spot⟩ := a
      have h0 := hcell 0 (by omega)
      have hspot : spot = none := by simpa [Addr.add] using World.cell?_spot h0
      subst hspot
      rw [Addr.add_at] at h0
      refine ⟨b, off, rfl, World.block_lt_of_cell? W _ h0, fun i u hu => ?_⟩
      have hi : i < len := by rw [← hlen]; exact (List.getElem?_eq_some_iff.1 hu).1
      have hc2 := hcell i (by omega)
      rw [Addr.add_at] at hc2
      rw [hc2]
      have hzi : i < zs.length := by omega
      simp only [List.getElem?_map, List.getElem?_take, if_pos hi, List.getElem?_eq_getElem hzi, Option.map_some, Option.some.injEq] at hu
      have hw := byte_wf (hwz zs[i] (List.getElem_mem hzi))
      subst hu
      simp only [bv, List.getD_eq_getElem?_getD, List.getElem?_eq_getElem hzi, Option.getD_some, UInt8.toNat_ofNat']
      rw [show ((zs[i].toNat % 2 ^ 8 : Nat) : Int) = zs[i] by omega]
    · rw [hlen]
      have := bulk_len (lits (H := H) .u8 (zs.take len))
      simp only [Rows.uptoBulk]
      simp only [lits, List.length_map, List.length_take] at this
      simp only [lits]
      omega

theorem u64_wf {n : Int} (h : (Lit.int .u64 n).wf = true) : 0 ≤ n ∧ n < 18446744073709551616 := by
  have h1 : IntKind.u64.min = 0 := rfl
  have h2 : IntKind.u64.max = 18446744073709551615 := rfl
  simp only [Lit.wf, Bool.and_eq_true, decide_eq_true_eq] at h
  omega

theorem i64_wf {n : Int} (h : (Lit.int .i64 n).wf = true) : -9223372036854775808 ≤ n ∧ n ≤ 9223372036854775807 := by
  have h1 : IntKind.i64.min = -9223372036854775808 := rfl
  have h2 : IntKind.i64.max = 9223372036854775807 := rfl
  simp only [Lit.wf, Bool.and_eq_true, decide_eq_true_eq] at h
  omega

theorem length_layOne (d : LayD) : (layOne d).length ≤ 10 + d.t.length := by
  have h1 := length_numB d.n
  have h2 := length_numB d.t.length
  unfold layOne
  split
  · simp; omega
  · split
    · omega
    · rw [List.length_append]; omega

/-- Four cells that hold one thing to be laid. -/
theorem open_lay1 {H : Type} {enc : TypeId × Value → H} {P : Program} {W : World} {e e3 : TypeId} {f0 f1 f2 f3 : Field} {n : Nat} {cs : List Value} {y : DataW H × List MemPlace}
    (he : P.underlying e = some (.struct #[f0, f1, f2, f3])) (ce : P.cellsOf e = 4) (o0 : f0.offset = 0) (o1 : f1.offset = 1) (o2 : f2.offset = 2) (o3 : f3.offset = 3)
    (c0 : P.cellsOf f0.type = 1) (c1 : P.cellsOf f1.type = 1) (c2 : P.cellsOf f2.type = 1) (c3 : P.cellsOf f3.type = 1)
    (u0 : P.underlying f0.type = some (.int .i64)) (u1 : P.underlying f1.type = some (.int .u8)) (u2 : P.underlying f2.type = some (.int .u64)) (u3 : P.underlying f3.type = some (.slice e3)) (ue : P.underlying e3 = some (.int .u8)) (ce3 : P.cellsOf e3 = 1)
    (h : DataW.trod enc P W 0 (fun _ => true) true n e cs = some y) :
    ∃ (d : LayD) (tv : Value), cs = [.int .i64 d.what, .int .u8 (d.b.toNat : Int), .int .u64 (d.n : Int), tv] ∧ Bs W tv d.t ∧ d.n < 18446744073709551616 ∧ d.t.length + 4 ≤ Rows.uptoBulk y.1 := by
  obtain ⟨xs, k, _, hxy, hlen, hxl, hf⟩ := DataW.trod_struct he h
  rw [ce] at hlen
  match xs, hxl, cs, hlen with
  | [y0, y1, y2, y3], _, [v0, v1, v2, v3], _ =>
    have g0 := hf 0 f0 rfl
    have g1 := hf 1 f1 rfl
    have g2 := hf 2 f2 rfl
    have g3 := hf 3 f3 rfl
    simp [o0, o1, o2, o3, c0, c1, c2, c3] at g0 g1 g2 g3
    obtain ⟨z0, e0, _, _⟩ := DataW.trod_int u0 g0
    obtain ⟨z1, e1, _, w1⟩ := DataW.trod_int u1 g1
    obtain ⟨z2, e2, _, w2⟩ := DataW.trod_int u2 g2
    obtain ⟨t, ht, hb⟩ := open_bytes1 u3 ue ce3 g3
    simp only [List.cons.injEq, and_true] at e0 e1 e2
    subst e0 e1 e2
    have b1 := byte_wf w1
    have b2 := u64_wf w2
    refine ⟨⟨z0, UInt8.ofNat z1.toNat, z2.toNat, t⟩, v3, ?_, ht, by simp only; omega, ?_⟩
    · simp only [UInt8.toNat_ofNat', List.cons.injEq, Value.int.injEq, true_and, and_true]
      omega
    · subst hxy
      have q0 := bulk_one y0.1
      have q1 := bulk_one y1.1
      have q2 := bulk_one y2.1
      simp only [List.map_cons, List.map_nil, Rows.uptoBulk, Rows.uptoBulkAll]
      omega

theorem bulk_map {H : Type} (D : Nat → DataW H) (f : Nat → Nat) : ∀ n, (∀ i, i < n → f i ≤ Rows.uptoBulk (D i)) → ((List.range n).map f).sum ≤ Rows.uptoBulkAll ((List.range n).map D) := by
  intro n
  induction n with
  | zero => intro _; simp [Rows.uptoBulkAll]
  | succ n ih =>
    intro h
    have h1 := ih (fun i hi => h i (by omega))
    have h2 := h n (by omega)
    have happ : ∀ (l r : List (DataW H)), Rows.uptoBulkAll (l ++ r) = Rows.uptoBulkAll l + Rows.uptoBulkAll r := by
      intro l r
      induction l with
      | nil => simp [Rows.uptoBulkAll]
      | cons x l ihl => simp only [List.cons_append, Rows.uptoBulkAll, ihl]; omega
    rw [List.range_succ, List.map_append, List.map_append, List.sum_append, happ]
    simp only [List.map_cons, List.map_nil, List.sum_cons, List.sum_nil, Rows.uptoBulkAll]
    omega

theorem length_layAll (f : Nat → Nat) : ∀ (ds : List LayD) (m : Nat), (∀ i (hi : i < ds.length), ds[i].t.length + 4 ≤ f (m + i)) → (layAll ds).length ≤ 10 * ((List.range ds.length).map (fun i => f (m + i))).sum := by
  intro ds
  induction ds with
  | nil => intro m _; simp [layAll_nil]
  | cons d ds ih =>
    intro m h
    have h0 := h 0 (by simp)
    have h1 := ih (m + 1) (fun i hi => by
      have := h (i + 1) (by simpa using hi)
      rw [show m + 1 + i = m + (i + 1) by omega]
      simpa using this)
    have h2 := length_layOne d
    rw [layAll_cons, List.length_append, List.length_cons, List.range_succ_eq_map, List.map_cons, List.sum_cons, List.map_map]
    have e : (List.map ((fun i => f (m + i)) ∘ Nat.succ) (List.range ds.length)) = (List.range ds.length).map (fun i => f (m + 1 + i)) := by
      apply List.map_congr_left
      intro i _
      simp only [Function.comp, Nat.succ_eq_add_one]
      rw [show m + (i + 1) = m + 1 + i by omega]
    rw [e]
    simp only [List.getElem_cons_zero, Nat.add_zero] at h0 ⊢
    omega

theorem open_lays {H : Type} {enc : TypeId × Value → H} {P : Program} {W : World} {t e e3 : TypeId} {f0 f1 f2 f3 : Field} {v : Value} {d : DataW H} {p : List MemPlace} (ht : P.underlying t = some (.slice e))
    (he : P.underlying e = some (.struct #[f0, f1, f2, f3])) (ce : P.cellsOf e = 4) (o0 : f0.offset = 0) (o1 : f1.offset = 1) (o2 : f2.offset = 2) (o3 : f3.offset = 3)
    (c0 : P.cellsOf f0.type = 1) (c1 : P.cellsOf f1.type = 1) (c2 : P.cellsOf f2.type = 1) (c3 : P.cellsOf f3.type = 1)
    (u0 : P.underlying f0.type = some (.int .i64)) (u1 : P.underlying f1.type = some (.int .u8)) (u2 : P.underlying f2.type = some (.int .u64)) (u3 : P.underlying f3.type = some (.slice e3)) (ue : P.underlying e3 = some (.int .u8)) (ce3 : P.cellsOf e3 = 1)
    (hv : ∃ a len cap, v = .slice a len cap) (h : DataW.Trod enc P W 0 (fun _ => true) true t v d p) :
    ∃ ds : List LayD, Lays W v ds ∧ (layAll ds).length ≤ 10 * Rows.uptoBulk d ∧ ds.length ≤ Rows.uptoBulk d := by
  obtain ⟨a0, len0, cap0, rfl⟩ := hv
  obtain ⟨fuel, hf⟩ := h
  rcases open_slice ht hf with ⟨hcs, hx⟩ | ⟨a, len, cap, m, n, D, Pl, hcs, _, hl, hm, hmm, hx, hel⟩
  · simp [Value.cells] at hcs
    obtain ⟨rfl, rfl, rfl⟩ := hcs
    exact ⟨[], ⟨none, 0, rfl, fun h => absurd rfl h⟩, by simp [layAll_nil], by simp⟩
  · simp [Value.cells] at hcs
    obtain ⟨rfl, rfl, rfl⟩ := hcs
    simp only [Prod.mk.injEq] at hx
    obtain ⟨rfl, _⟩ := hx
    simp only [if_true] at hmm
    rw [ce] at hel
    have hat : ∀ i, i < len0 → ∃ d : LayD, (∀ b off, a = ⟨b, off, none⟩ → LayAt W b (off + i * 4) d) ∧ (∃ cs', W.cell? (a.add (i * 4)) = some cs') ∧ d.t.length + 4 ≤ Rows.uptoBulk (D i) := by
      intro i hi
      obtain ⟨cs', h1, h2⟩ := hel i (by omega)
      obtain ⟨_, hlen, hcell⟩ := World.cells?_some h1
      obtain ⟨d, tv, rfl, htv, hdn, hbk⟩ := open_lay1 he ce o0 o1 o2 o3 c0 c1 c2 c3 u0 u1 u2 u3 ue ce3 h2
      have k0 := hcell 0 (by omega)
      have k1 := hcell 1 (by omega)
      have k2 := hcell 2 (by omega)
      have k3 := hcell 3 (by omega)
      rw [add_add] at k0 k1 k2 k3
      refine ⟨d, ?_, ⟨_, by simpa using k0⟩, hbk⟩
      rintro b off rfl
      rw [Addr.add_at] at k0 k1 k2 k3
      exact ⟨by simpa using k0, by simpa [Nat.add_assoc] using k1, by simpa [Nat.add_assoc] using k2, ⟨tv, by simpa [Nat.add_assoc] using k3, htv⟩, hdn⟩
    obtain ⟨ds, hdl, hds⟩ := list_of len0 hat
    refine ⟨ds, ⟨some a, cap0, by rw [hdl], fun hne => ?_⟩, ?_, ?_⟩
    · have hpos : 0 < ds.length := List.length_pos_iff.2 hne
      obtain ⟨b, off, spot⟩ := a
      obtain ⟨u, hu⟩ := (hds 0 hpos).2.1
      have hspot : spot = none := by simpa [Addr.add] using World.cell?_spot hu
      subst hspot
      rw [Addr.add_at] at hu
      exact ⟨b, off, rfl, World.block_lt_of_cell? W _ hu, fun i hi => (hds i hi).1 b off rfl⟩
    · have h1 := length_layAll (fun i => Rows.uptoBulk (D i)) ds 0 (fun i hi => by rw [Nat.zero_add]; exact (hds i hi).2.2)
      have h2 := bulk_map D (fun i => Rows.uptoBulk (D i)) len0 (fun i _ => Nat.le_refl _)
      simp only [Nat.zero_add, hdl] at h1
      simp only [Rows.uptoBulk]
      omega
    · have := bulk_len ((List.range len0).map D)
      simp only [List.length_map, List.length_range] at this
      simp only [Rows.uptoBulk]
      omega

end Go.Proofs.Ytdadbdeeoemfcab
