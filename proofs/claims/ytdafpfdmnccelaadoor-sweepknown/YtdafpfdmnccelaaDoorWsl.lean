/- Slices that came in, of elements of any width. No program's text is in it. -/
import Derived.Test.YtdafpfdmnccelaaDoorBase
import Derived.Deep.Slices
import Derived.ProofKit
import Derived.SizedLaws
import Derived.ChangeArms
namespace Go.Proofs.YtdafpfdmnccelaaDoor
open Go.ChangeShapes Go.WideShapes Go.ChangeAt Go.RowKit Go.Deep

/-- A slice whose elements are xs, each c cells. -/
structure WS {α : Type} (w : World) (v : Value) (c : Nat) (f : α → List Value) (xs : List α) : Prop where
  ex : ∃ ao cap, v = .slice ao xs.length cap ∧ xs.length ≤ cap ∧ (ao = none → cap = 0) ∧ (xs ≠ [] → ∃ b off, ao = some ⟨b, off, none⟩ ∧ b < w.heap.size ∧ ∀ i (hi : i < xs.length) j u, (f xs[i])[j]? = some u → w.cell? ⟨b, off + i * c + j, none⟩ = some u)

section
variable {α : Type} {w w' : World} {v : Value} {c : Nat} {f : α → List Value} {xs : List α}
theorem WS.below (h : WS w v c f xs) (hb : Below w.heap.size w w') : WS w' v c f xs := by
  obtain ⟨ao, cap, rfl, h1, h2, h3⟩ := h.ex
  refine ⟨ao, cap, rfl, h1, h2, fun hne => ?_⟩
  obtain ⟨b, off, rfl, hlt, hc⟩ := h3 hne
  exact ⟨b, off, rfl, Nat.lt_of_lt_of_le hlt hb.size, fun i hi j u hu => (hb.cell (p := ⟨b, off + i * c + j, none⟩) hlt).trans (hc i hi j u hu)⟩
theorem WS.slice (h : WS w v c f xs) : ∃ ao cap, v = .slice ao xs.length cap ∧ xs.length ≤ cap ∧ (ao = none → cap = 0) := by
  obtain ⟨ao, cap, rfl, h1, h2, h3⟩ := h.ex
  exact ⟨ao, cap, rfl, h1, h2⟩
theorem WS.at {ao : Option Addr} {n cap : Nat} (h : WS w (.slice ao n cap) c f xs) (i : Nat) (hi : i < xs.length) : ∃ b off, ao = some ⟨b, off, none⟩ ∧ b < w.heap.size ∧ ∀ j u, (f xs[i])[j]? = some u → w.cell? ⟨b, off + i * c + j, none⟩ = some u := by
  obtain ⟨ao', cap', e, h1, h2, h3⟩ := h.ex
  cases e
  obtain ⟨b, off, rfl, hlt, hc⟩ := h3 (fun e => by subst e; simp at hi)
  exact ⟨b, off, rfl, hlt, hc i hi⟩
theorem WS.take {ao : Option Addr} {n cap : Nat} (h : WS w (.slice ao n cap) c f xs) (k : Nat) (hk : k ≤ xs.length) : WS w (.slice ao k cap) c f (xs.take k) := by
  obtain ⟨ao', cap', e, h1, h2, h3⟩ := h.ex
  cases e
  refine ⟨ao, cap, by rw [List.length_take, Nat.min_eq_left hk], by rw [List.length_take]; omega, h2, fun hne => ?_⟩
  obtain ⟨b, off, rfl, hlt, hc⟩ := h3 (fun e => hne (by simp [e]))
  exact ⟨b, off, rfl, hlt, fun i hi j u hu => hc i (by rw [List.length_take] at hi; omega) j u (by rw [List.getElem_take] at hu; exact hu)⟩
end

theorem list_of {α : Type} {p : Nat → α → Prop} : ∀ n, (∀ i, i < n → ∃ x, p i x) → ∃ l : List α, l.length = n ∧ ∀ i (hi : i < l.length), p i l[i] := by
  intro n
  induction n with
  | zero => intro _; exact ⟨[], rfl, fun i hi => by simp at hi⟩
  | succ n ih =>
    intro h
    obtain ⟨l, hl, hp⟩ := ih (fun i hi => h i (by omega))
    obtain ⟨x, hx⟩ := h n (by omega)
    refine ⟨l ++ [x], by simp [hl], fun i hi => ?_⟩
    by_cases hil : i < l.length
    · rw [List.getElem_append_left hil]; exact hp i hil
    · have : i = l.length := by simp at hi; omega
      subst this
      simp only [List.getElem_append_right (Nat.le_refl _), Nat.sub_self, List.getElem_cons_zero]
      rw [hl]; exact hx

/-- A slice that came in; R: what is known of each element. -/
theorem open_ws {α H : Type} {enc : TypeId × Value → H} {P : Program} {W : World} {t e : TypeId} {v : Value} {d : DataW H} {p : List MemPlace} (c : Nat) (hc0 : 0 < c) (f : α → List Value) (R : α → Prop) (ht : P.underlying t = some (.slice e)) (hc : P.cellsOf e = c)
    (each : ∀ n cs (y : DataW H × List MemPlace), DataW.trod enc P W 0 (fun _ => true) true n e cs = some y → ∃ x, cs = f x ∧ R x)
    (hv : ∃ a len cap, v = .slice a len cap) (h : DataW.Trod enc P W 0 (fun _ => true) true t v d p) :
    ∃ xs : List α, WS W v c f xs ∧ (∀ x ∈ xs, R x) ∧ ((d = .nil ∧ xs = []) ∨ ∃ elems spare, d = .slice elems spare ∧ elems.length = xs.length) := by
  obtain ⟨a0, len0, cap0, rfl⟩ := hv
  obtain ⟨fuel, hf⟩ := h
  rcases open_slice ht hf with ⟨hcs, hx⟩ | ⟨a, len, cap, m, n, D, Pl, hcs, _, hl, hm, hmm, hx, hel⟩
  · simp [Value.cells] at hcs
    obtain ⟨rfl, rfl, rfl⟩ := hcs
    simp only [Prod.mk.injEq] at hx
    exact ⟨[], ⟨none, 0, rfl, Nat.zero_le _, fun _ => rfl, fun h => absurd rfl h⟩, by simp, Or.inl ⟨hx.1, rfl⟩⟩
  · simp [Value.cells] at hcs
    obtain ⟨rfl, rfl, rfl⟩ := hcs
    simp only [Prod.mk.injEq] at hx
    obtain ⟨rfl, _⟩ := hx
    simp only [if_true] at hmm
    rw [hc] at hel
    have hat : ∀ i, i < len0 → ∃ x : α, R x ∧ (∀ b off, a = ⟨b, off, none⟩ → ∀ j u, (f x)[j]? = some u → W.cell? ⟨b, off + i * c + j, none⟩ = some u) ∧ (∃ cs', W.cell? (a.add (i * c)) = some cs') := by
      intro i hi
      obtain ⟨cs', h1, h2⟩ := hel i (by omega)
      obtain ⟨_, hlen, hcell⟩ := World.cells?_some h1
      obtain ⟨x, rfl, hR⟩ := each _ _ _ h2
      have k0 := hcell 0 (by omega)
      rw [add_add] at k0
      have h0 : (f x)[0]? = some ((f x)[0]'(by rw [hlen]; exact hc0)) := List.getElem?_eq_getElem _
      refine ⟨x, hR, ?_, ⟨_, by rw [h0] at k0; simpa using k0⟩⟩
      rintro b off rfl j u hu
      have hj : j < (f x).length := (List.getElem?_eq_some_iff.1 hu).1
      have k1 := hcell j (by omega)
      rw [add_add, Addr.add_at] at k1
      rw [hu] at k1
      rw [Nat.add_assoc]
      exact k1
    obtain ⟨xs, hdl, hds⟩ := list_of len0 hat
    refine ⟨xs, ⟨some a, cap0, by rw [hdl], by omega, (fun h => by cases h), fun hne => ?_⟩, fun x hx => ?_, Or.inr ⟨_, _, rfl, by simp [hdl]⟩⟩
    · have hpos : 0 < xs.length := List.length_pos_iff.2 hne
      obtain ⟨b, off, spot⟩ := a
      obtain ⟨u, hu⟩ := (hds 0 hpos).2.2
      have hspot : spot = none := by simpa [Addr.add] using World.cell?_spot hu
      subst hspot
      rw [Addr.add_at] at hu
      exact ⟨b, off, rfl, World.block_lt_of_cell? W _ hu, fun i hi => (hds i hi).2.1 b off rfl⟩
    · obtain ⟨i, hi, rfl⟩ := List.mem_iff_getElem.1 hx
      exact (hds i hi).1

/-- The form's own reach, of a slice. -/
theorem len_reach {α H : Type} {P : Program} {ts : List TypeId} {ds : List (DataW H)} (h : (DataW.weightsEach P ts ds).all (· ≤ reachBytes) = true) {j : Nat} {t e : TypeId} {d : DataW H} {l : List α} {c : Nat} (ht : ts[j]? = some t) (hd : ds[j]? = some d) (hu : P.underlying t = some (.slice e)) (hb : P.bytesOf e = c)
    (hl : (d = .nil ∧ l = []) ∨ ∃ elems spare, d = .slice elems spare ∧ elems.length = l.length) : l.length * c ≤ 140737488351232 := by
  rcases hl with ⟨_, rfl⟩ | ⟨elems, spare, rfl, he⟩
  · simp
  · have := sized_slice h ht hd hu
    rw [hb] at this
    simp only [reachBytes] at this
    rw [← he]
    have h2 : elems.length * c ≤ (elems.length + spare.length) * c := Nat.mul_le_mul_right _ (by omega)
    have e2 := Nat.mul_comm c elems.length
    have e3 := Nat.mul_comm c (elems.length + spare.length)
    omega

theorem wf_nat {K : IntKind} {z : Int} (h0 : K.min = 0) (h : (Lit.int K z).wf = true) : ∃ n : Nat, z = (n : Int) ∧ (n : Int) ≤ K.max := by
  simp only [Lit.wf, Bool.and_eq_true, decide_eq_true_eq] at h
  exact ⟨z.toNat, by omega, by omega⟩
theorem open_nat {H : Type} {enc : TypeId × Value → H} {P : Program} {W : World} {base : Nat} {K : IntKind} {t : TypeId} {v : Value} {d : DataW H} {p : List MemPlace} (h0 : K.min = 0) (ht : P.underlying t = some (.int K)) (hval : Value.okWide P W .any base t v)
    (h : DataW.Trod enc P W 0 (fun _ => true) true t v d p) : ∃ n : Nat, v = .int K (n : Int) ∧ (n : Int) ≤ K.max := by
  obtain ⟨z, rfl, _, _, hw⟩ := open_int ht hval h
  obtain ⟨n, rfl, hn⟩ := wf_nat h0 hw
  exact ⟨n, rfl, hn⟩

section
variable {H : Type} {enc : TypeId × Value → H} {P : Program} {W : World} {e : TypeId}
theorem trod_nat {K : IntKind} (h0 : K.min = 0) (he : P.underlying e = some (.int K)) {n : Nat} {u : List Value} {y : DataW H × List MemPlace} (h : DataW.trod enc P W 0 (fun _ => true) true n e u = some y) : ∃ x : Nat, u = [.int K (x : Int)] ∧ (x : Int) ≤ K.max := by
  obtain ⟨z, h1, _, hw⟩ := DataW.trod_int he h
  obtain ⟨x, rfl, hx⟩ := wf_nat h0 hw
  exact ⟨x, h1, hx⟩
theorem ews_nat {K : IntKind} (h0 : K.min = 0) (he : P.underlying e = some (.int K)) : ∀ n cs (y : DataW H × List MemPlace), DataW.trod enc P W 0 (fun _ => true) true n e cs = some y → ∃ x : Nat, cs = [.int K (x : Int)] ∧ (x : Int) ≤ K.max :=
  fun _ _ _ h => trod_nat h0 he h
theorem ews_int (he : P.underlying e = some (.int .i64)) : ∀ n cs (y : DataW H × List MemPlace), DataW.trod enc P W 0 (fun _ => true) true n e cs = some y → ∃ x : Int, cs = [.int .i64 x] ∧ True := by
  intro n cs y h
  obtain ⟨z, h1, _⟩ := DataW.trod_int he h
  exact ⟨z, h1, trivial⟩
theorem ews_str (he : P.underlying e = some .string) : ∀ n cs (y : DataW H × List MemPlace), DataW.trod enc P W 0 (fun _ => true) true n e cs = some y → ∃ x : ByteArray, cs = [.string x] ∧ True := by
  intro n cs y h
  obtain ⟨z, h1, _⟩ := DataW.trod_string he h
  exact ⟨z, h1, trivial⟩
end

/-- A struct that came in: its fields' cells. -/
theorem trod_fields {H : Type} {enc : TypeId × Value → H} {P : Program} {W : World} {e : TypeId} {fs : Array Field} (c : Nat) (he : P.underlying e = some (.struct fs)) (ce : P.cellsOf e = c) {n : Nat} {cs : List Value} {y : DataW H × List MemPlace} (h : DataW.trod enc P W 0 (fun _ => true) true n e cs = some y) :
    cs.length = c ∧ ∃ k, ∀ (i t o m : Nat), (fs[i]?).map (fun f => (f.type, f.offset)) = some (t, o) → P.cellsOf t = m → ∃ y', DataW.trod enc P W 0 (fun _ => true) true k t ((cs.drop o).take m) = some y' := by
  obtain ⟨xs, k, _, hxy, hlen, hxl, hf⟩ := DataW.trod_struct he h
  refine ⟨by rw [hlen, ce], k, fun i t o m hi hm => ?_⟩
  obtain ⟨f, hi2, hto⟩ := Option.map_eq_some_iff.1 hi
  simp only [Prod.mk.injEq] at hto
  obtain ⟨rfl, rfl⟩ := hto
  subst hm
  have h1 := hf i f hi2
  have hlt : i < xs.length := by rw [hxl]; exact (Array.getElem?_eq_some_iff.1 hi2).1
  rw [List.getElem?_eq_getElem hlt] at h1
  exact ⟨_, h1⟩
theorem list4 {α : Type} {l : List α} (h : l.length = 4) : ∃ a b c d, l = [a, b, c, d] := by
  match l, h with
  | [a, b, c, d], _ => exact ⟨a, b, c, d, rfl⟩

/-- One cell each. -/
def cU64 (n : Nat) : List Value := [.int .u64 (n : Int)]
def cInt (n : Int) : List Value := [.int .i64 n]
def cStr (s : ByteArray) : List Value := [.string s]
theorem WS.c1 {α : Type} {w : World} {f : α → List Value} {g : α → Value} (hf : ∀ x, f x = [g x]) {ao : Option Addr} {n cap : Nat} {xs : List α} (h : WS w (.slice ao n cap) 1 f xs) (i : Nat) (hi : i < xs.length) : ∃ b off, ao = some ⟨b, off, none⟩ ∧ b < w.heap.size ∧ w.cell? ⟨b, off + i, none⟩ = some (g xs[i]) := by
  obtain ⟨b, off, h1, h2, h3⟩ := h.at i hi
  refine ⟨b, off, h1, h2, ?_⟩
  have := h3 0 (g xs[i]) (by rw [hf]; rfl)
  simpa using this

end Go.Proofs.YtdafpfdmnccelaaDoor
