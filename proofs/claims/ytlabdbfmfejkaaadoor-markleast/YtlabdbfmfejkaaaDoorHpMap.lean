/- A map whose keys are numbers of 64 bits, as the list of its entries. -/
import Derived.Test.YtlabdbfmfejkaaaDoorRows
import Derived.Test.YtlabdbfmfejkaaaDoorBase
import Derived.Maps.RangeWalk
namespace Go.Proofs.YtlabdbfmfejkaaaDoor
open Go.RowKit

/-- Each element is told as itself. -/
def heldR (v : Value) : Option (DataW Value × List MemPlace) := some (.held v, [])
theorem lawU : Maps.Keyed Tryd.prog 32 := Maps.int_keyed Tryd.underlying32
/-- A key. -/
def kL (k : Nat) : Lit := .int .u64 (k : Int)
theorem kL_inj {a b : Nat} (h : kL a = kL b) : a = b := by
  simp only [kL, Lit.int.injEq, true_and] at h
  omega
theorem kL_ne {a b : Nat} (h : a ≠ b) : kL a ≠ kL b := fun e => h (kL_inj e)
theorem kL_key (k : Nat) : WideAt.IsKeyLit (kL k) := trivial
theorem wfU (k : Nat) (h : k < 18446744073709551616) : (Lit.int .u64 (k : Int)).wf = true := by
  simp only [Lit.wf, Bool.and_eq_true, decide_eq_true_eq]
  have h1 : IntKind.u64.max = 18446744073709551615 := rfl
  have h2 : IntKind.u64.min = 0 := rfl
  omega
theorem kOf (k : Nat) (h : k < 18446744073709551616) : keyOf Tryd.prog 32 (.int .u64 (k : Int)) = some (kL k) := Maps.keyOf_int_mk Tryd.underlying32 (wfU k h)

/-- What stands at a key. -/
def lookE (es : List (Nat × Value)) (k : Nat) : Option Value := (es.find? (fun p => p.1 == k)).map (·.2)
/-- What a look-up answers: z where there is none. -/
def orE (es : List (Nat × Value)) (k : Nat) (z : DataW Value) : DataW Value := match lookE es k with
  | some v => .held v
  | none => z
theorem lookE_new {es : List (Nat × Value)} {k : Nat} (h : lookE es k = none) (v : Value) (j : Nat) : lookE (es ++ [(k, v)]) j = if j = k then some v else lookE es j := by
  unfold lookE at *
  rw [Option.map_eq_none_iff] at h
  rw [List.find?_append]
  by_cases e : j = k
  · subst e
    rw [h, if_pos rfl]
    simp
  · rw [if_neg e]
    have : (k == j) = false := by rw [beq_eq_false_iff_ne]; exact fun h => e h.symm
    simp [this]
theorem lookE_mem {es : List (Nat × Value)} {k : Nat} {v : Value} (h : lookE es k = some v) : (k, v) ∈ es := by
  unfold lookE at h
  rw [Option.map_eq_some_iff] at h
  obtain ⟨p, hp, rfl⟩ := h
  have h1 := List.mem_of_find?_eq_some hp
  have h2 : p.1 = k := by simpa using List.find?_some hp
  rw [← h2]
  exact h1
theorem lookE_none {es : List (Nat × Value)} {k : Nat} (h : lookE es k = none) : ∀ p ∈ es, p.1 ≠ k := by
  unfold lookE at h
  rw [Option.map_eq_none_iff, List.find?_eq_none] at h
  intro p hp
  simpa using h p hp
/-- An entry is another one. -/
def updE (es : List (Nat × Value)) (k : Nat) (v : Value) : List (Nat × Value) := es.map (fun p => if p.1 = k then (k, v) else p)
theorem lookE_upd {es : List (Nat × Value)} {k : Nat} {u : Value} (h : lookE es k = some u) (v : Value) (j : Nat) : lookE (updE es k v) j = if j = k then some v else lookE es j := by
  have hm := lookE_mem h
  clear h
  unfold lookE updE
  induction es with
  | nil => cases hm
  | cons p l ih =>
    rw [List.map_cons, List.find?_cons, List.find?_cons]
    by_cases e : p.1 = k
    · rw [if_pos e]
      by_cases ej : j = k
      · subst ej
        simp
      · rw [if_neg ej]
        have h1 : (k == j) = false := by rw [beq_eq_false_iff_ne]; exact fun h => ej h.symm
        have h2 : (p.1 == j) = false := by rw [e]; exact h1
        simp only [h1, h2]
        clear ih hm
        induction l with
        | nil => rfl
        | cons q l ih =>
          rw [List.map_cons, List.find?_cons, List.find?_cons]
          by_cases eq : q.1 = k
          · rw [if_pos eq]
            have h3 : (q.1 == j) = false := by rw [eq]; exact h1
            simp only [h1, h3]
            exact ih
          · rw [if_neg eq]
            cases hq : (q.1 == j)
            · exact ih
            · rfl
    · rw [if_neg e]
      have hm' : (k, u) ∈ l := by
        rcases List.mem_cons.1 hm with h | h
        · exact absurd (by rw [← h]) e
        · exact h
      by_cases ej : j = k
      · subst ej
        have h1 : (p.1 == j) = false := by rw [beq_eq_false_iff_ne]; exact e
        simp only [h1]
        simpa using ih hm'
      · cases hq : (p.1 == j)
        · exact ih hm'
        · rw [if_neg ej]
theorem updE_len (es : List (Nat × Value)) (k : Nat) (v : Value) : (updE es k v).length = es.length := by simp [updE]
theorem updE_keys (es : List (Nat × Value)) (k : Nat) (v : Value) : (updE es k v).map (·.1) = es.map (·.1) := by
  unfold updE
  rw [List.map_map]
  apply List.map_congr_left
  intro p _
  simp only [Function.comp]
  split
  · next e => exact e.symm
  · rfl
theorem lookE_del (es : List (Nat × Value)) (k j : Nat) : lookE (es.filter (fun p => p.1 != k)) j = if j = k then none else lookE es j := by
  unfold lookE
  rw [List.find?_filter]
  by_cases ej : j = k
  · subst ej
    rw [if_pos rfl, Option.map_eq_none_iff, List.find?_eq_none]
    intro p _
    simp
  · rw [if_neg ej]
    congr 1
    congr 1
    funext p
    cases hq : (p.1 == j)
    · simp
    · have : p.1 = j := by simpa using hq
      simp [this, ej]
theorem del_len {es : List (Nat × Value)} (hn : (es.map (·.1)).Nodup) {k : Nat} {v : Value} (h : lookE es k = some v) : (es.filter (fun p => p.1 != k)).length + 1 = es.length := by
  have hm := lookE_mem h
  clear h
  induction es with
  | nil => cases hm
  | cons p l ih =>
    rw [List.map_cons, List.nodup_cons] at hn
    by_cases e : p.1 = k
    · have h1 : ∀ q ∈ l, (q.1 != k) = true := fun q hq => by
        rw [bne_iff_ne]
        intro e2
        exact hn.1 (List.mem_map.2 ⟨q, hq, by rw [e2, e]⟩)
      rw [List.filter_cons, if_neg (by simp [e]), List.filter_eq_self.2 h1]
      rfl
    · have hm' : (k, v) ∈ l := by
        rcases List.mem_cons.1 hm with h | h
        · exact absurd (by rw [← h]) e
        · exact h
      rw [List.filter_cons, if_pos (by simpa using e), List.length_cons, List.length_cons, ih hn.2 hm']

/-- Block b is a map of the entries es. -/
structure MP (w : World) (b : Nat) (es : List (Nat × Value)) : Prop where
  ex : ∃ D : DataW Value, w.ownsMap Tryd.prog 32 heldR b es.length D ∧ Maps.size D = es.length ∧ ∀ k : Nat, ∀ z, D.atKey (kL k) z = orE es k z
  nd : (es.map (·.1)).Nodup
  sm : ∀ p ∈ es, p.1 < 18446744073709551616
  few : es.length ≤ 1000

theorem own_exact {w : World} {b n : Nat} {D : DataW Value} (h : w.ownsMap Tryd.prog 32 heldR b n D) : w.ownsMap Tryd.prog 32 heldR b (Maps.size D) D := by
  obtain ⟨es, clock, hb, F, hs, rfl⟩ := h
  exact ⟨es, clock, hb, F, by simp [Maps.size, length_sorted], rfl⟩

section
variable {w w' : World} {b : Nat} {es : List (Nat × Value)} {S : Nat → Prop}
theorem MP.lt (h : MP w b es) : b < w.heap.size := by
  obtain ⟨D, hD, _⟩ := h.ex
  exact hD.lt
theorem MP.kept (h : MP w b es) (hk : Kept w w' S) (hs : ¬ S b) : MP w' b es := by
  have hlt := h.lt
  obtain ⟨D, ⟨l, clock, hb, r⟩, h2⟩ := h.ex
  exact ⟨⟨D, ⟨l, clock, (hk.block b hlt hs).trans hb, r⟩, h2⟩, h.nd, h.sm, h.few⟩
theorem MP.below (h : MP w b es) (hb : Below w.heap.size w w') : MP w' b es := h.kept (kept_of_below hb (fun _ => False)) id
theorem MP.made (w : World) : MP (w.alloc (.map #[] 0)) w.heap.size [] :=
  ⟨⟨.map [], World.ownsMap_made w _ _ _, rfl, fun _ _ => rfl⟩, List.nodup_nil, by simp, by simp⟩

theorem MP.has {D : DataW Value} (h : ∀ k : Nat, ∀ z, D.atKey (kL k) z = orE es k z) (k : Nat) : Maps.has D (kL k) = (lookE es k).isSome := by
  cases hl : lookE es k with
  | none => exact Maps.has_false_of_atKey (fun z => by rw [h k z]; unfold orE; rw [hl])
  | some v => exact Maps.has_true_of_atKey (y := .held v) (fun z => by rw [h k z]; unfold orE; rw [hl])

/-- 'm[k]'. -/
theorem MP.look (h : MP w b es) {T E : TypeId} (hT : Tryd.prog.underlying T = some (.map 32 E)) {z : Value} (hz : (zeroValue E).run Tryd.prog w = .ok z w) (k : Nat) (hk : k < 18446744073709551616) :
    (Instr.lookup T (.map (some b)) (.int .u64 (k : Int)) false).run Tryd.prog w = .ok ((lookE es k).getD z) w := by
  obtain ⟨D, hD, _, hat⟩ := h.ex
  obtain ⟨v, ps, hrun, hv⟩ := hD.lookup lawU hT hz (zd := .held z) (zp := []) rfl (kOf k hk)
  rw [hrun]
  rw [hat k] at hv
  simp only [heldR, Option.some.injEq, Prod.mk.injEq] at hv
  have hv := hv.1
  unfold orE at hv
  cases hl : lookE es k with
  | none => rw [hl] at hv; simp only [DataW.held.injEq] at hv; rw [hv]; rfl
  | some u => rw [hl] at hv; simp only [DataW.held.injEq] at hv; rw [hv]; rfl
/-- 'v, ok := m[k]'. -/
theorem MP.look2 (h : MP w b es) {T E : TypeId} (hT : Tryd.prog.underlying T = some (.map 32 E)) {z : Value} (hz : (zeroValue E).run Tryd.prog w = .ok z w) (k : Nat) (hk : k < 18446744073709551616) :
    (Instr.lookup T (.map (some b)) (.int .u64 (k : Int)) true).run Tryd.prog w = .ok (.tuple #[(lookE es k).getD z, .bool (lookE es k).isSome]) w := by
  obtain ⟨D, hD, _, hat⟩ := h.ex
  obtain ⟨v, ps, hrun, hv⟩ := hD.look_ok lawU hT hz (zd := .held z) (zp := []) rfl (kOf k hk)
  rw [hrun, MP.has hat]
  rw [hat k] at hv
  simp only [heldR, Option.some.injEq, Prod.mk.injEq] at hv
  have hv := hv.1
  unfold orE at hv
  cases hl : lookE es k with
  | none => rw [hl] at hv; simp only [DataW.held.injEq] at hv; rw [hv]; rfl
  | some u => rw [hl] at hv; simp only [DataW.held.injEq] at hv; rw [hv]; rfl
/-- 'len(m)'. -/
theorem MP.len (h : MP w b es) {T E : TypeId} (hT : Tryd.prog.underlying T = some (.map 32 E)) (ty : TypeId) : (Builtin.len_ #[T] ty #[.map (some b)]).run Tryd.prog w = .ok (.int .i64 (es.length : Int)) w := by
  obtain ⟨D, hD, hs, _⟩ := h.ex
  rw [hD.len hT ty, hs]
/-- 'm[k] = v' at a new key. -/
theorem MP.put (h : MP w b es) {T E : TypeId} (hT : Tryd.prog.underlying T = some (.map 32 E)) (k : Nat) (hk : k < 18446744073709551616) (hn : lookE es k = none) (hf : es.length < 1000) (v : Value) :
    ∃ w', (Instr.mapUpdate T (.map (some b)) (.int .u64 (k : Int)) v).run Tryd.prog w = .ok () w' ∧ MP w' b (es ++ [(k, v)]) ∧ Kept w w' (fun j => j = b) := by
  have hnd := h.nd
  have hsm := h.sm
  obtain ⟨D, hD, hs, hat⟩ := h.ex
  obtain ⟨w', hrun, hD', hg⟩ := hD.update lawU hT (by unfold maxLen; omega) (kOf k hk) (val := v) (d := .held v) (ps := []) rfl
  have hsz : Maps.size (D.put (kL k) (.held v)) = es.length + 1 := by
    rw [Maps.size_put (hD.tidy lawU), MP.has hat, hn, hs]
    rfl
  have hD'' := own_exact hD'
  rw [hsz] at hD''
  refine ⟨w', hrun, ⟨⟨_, by rw [List.length_append]; exact hD'', by rw [hsz]; simp, fun j z => ?_⟩, ?_, ?_, by simp; omega⟩, ⟨hg.os, hg.tape, hg.output, hg.size, fun i hi hne => hg.block i hi (fun e => hne (by cases e; rfl))⟩⟩
  · unfold orE
    rw [lookE_new hn]
    by_cases e : j = k
    · subst e
      rw [if_pos rfl, Maps.atKey_put_same hD.isMap (kL_key j)]
    · rw [if_neg e, Maps.atKey_put_other (kL_ne e), hat j z]
      rfl
  · rw [List.map_append, List.nodup_append]
    refine ⟨hnd, by simp, fun a ha c hc => ?_⟩
    simp only [List.map_cons, List.map_nil, List.mem_singleton] at hc
    subst hc
    obtain ⟨p, hp, rfl⟩ := List.mem_map.1 ha
    exact lookE_none hn p hp
  · intro p hp
    rcases List.mem_append.1 hp with hp | hp
    · exact hsm p hp
    · rw [List.mem_singleton] at hp
      subst hp
      exact hk
/-- 'm[k] = v' at a key that is there. -/
theorem MP.set (h : MP w b es) {T E : TypeId} (hT : Tryd.prog.underlying T = some (.map 32 E)) (k : Nat) (hk : k < 18446744073709551616) {u : Value} (hn : lookE es k = some u) (v : Value) :
    ∃ w', (Instr.mapUpdate T (.map (some b)) (.int .u64 (k : Int)) v).run Tryd.prog w = .ok () w' ∧ MP w' b (updE es k v) ∧ Kept w w' (fun j => j = b) := by
  have hnd := h.nd
  have hsm := h.sm
  have hfew := h.few
  obtain ⟨D, hD, hs, hat⟩ := h.ex
  obtain ⟨w', hrun, hD', hg⟩ := hD.update lawU hT (by unfold maxLen; omega) (kOf k hk) (val := v) (d := .held v) (ps := []) rfl
  have hsz : Maps.size (D.put (kL k) (.held v)) = es.length := by
    rw [Maps.size_put (hD.tidy lawU), MP.has hat, hn, hs]
    rfl
  have hD'' := own_exact hD'
  rw [hsz] at hD''
  refine ⟨w', hrun, ⟨⟨_, by rw [updE_len]; exact hD'', by rw [hsz, updE_len], fun j z => ?_⟩, by rw [updE_keys]; exact hnd, ?_, by rw [updE_len]; exact hfew⟩, ⟨hg.os, hg.tape, hg.output, hg.size, fun i hi hne => hg.block i hi (fun e => hne (by cases e; rfl))⟩⟩
  · unfold orE
    rw [lookE_upd hn]
    by_cases e : j = k
    · subst e
      rw [if_pos rfl, Maps.atKey_put_same hD.isMap (kL_key j)]
    · rw [if_neg e, Maps.atKey_put_other (kL_ne e), hat j z]
      rfl
  · intro p hp
    have : p.1 ∈ (updE es k v).map (·.1) := List.mem_map.2 ⟨p, hp, rfl⟩
    rw [updE_keys] at this
    obtain ⟨q, hq, e⟩ := List.mem_map.1 this
    rw [← e]
    exact hsm q hq
/-- 'delete(m, k)'. -/
theorem MP.del (h : MP w b es) {T E : TypeId} (hT : Tryd.prog.underlying T = some (.map 32 E)) (k : Nat) (hk : k < 18446744073709551616) {u : Value} (hn : lookE es k = some u) (ty : TypeId) :
    ∃ w', (Builtin.delete_ #[T, 32] ty #[.map (some b), .int .u64 (k : Int)]).run Tryd.prog w = .ok (.tuple #[]) w' ∧ MP w' b (es.filter (fun p => p.1 != k)) ∧ Kept w w' (fun j => j = b) := by
  have hnd := h.nd
  have hsm := h.sm
  have hfew := h.few
  have hdl := del_len hnd hn
  obtain ⟨D, hD, hs, hat⟩ := h.ex
  obtain ⟨w', hrun, hD', ht⟩ := hD.drop lawU hT (kOf k hk) ty
  have hg := ht.grown
  have hsz : Maps.size (D.del (kL k)) = (es.filter (fun p => p.1 != k)).length := by
    have := Maps.size_del (k := kL k) (hD.tidy lawU)
    rw [MP.has hat, hn, hs] at this
    simp only [Option.isSome_some, if_true] at this
    omega
  have hD'' := own_exact hD'
  rw [hsz] at hD''
  refine ⟨w', hrun, ⟨⟨_, hD'', hsz, fun j z => ?_⟩, hnd.sublist (List.filter_sublist.map _), fun p hp => hsm p (List.mem_filter.1 hp).1, by omega⟩, ⟨hg.os, hg.tape, hg.output, hg.size, fun i hi hne => hg.block i hi (fun e => hne (by cases e; rfl))⟩⟩
  unfold orE
  rw [lookE_del]
  by_cases e : j = k
  · subst e
    rw [if_pos rfl, Maps.atKey_del_same]
  · rw [if_neg e, Maps.atKey_del_other (kL_ne e), hat j z]
    rfl
end

end Go.Proofs.YtlabdbfmfejkaaaDoor
