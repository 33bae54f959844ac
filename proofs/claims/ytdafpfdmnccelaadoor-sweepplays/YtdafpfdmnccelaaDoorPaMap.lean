/- Maps of any keys (numbers, IDs), as the list of their entries; a range over one. -/
import Derived.Test.YtdafpfdmnccelaaDoorHpF
import Derived.WideKeyRuns
namespace Go.Proofs.YtdafpfdmnccelaaDoor
open Go.RowKit
open Go.ChangeMaps (setBlock)

/-- An entry. -/
structure En (κ : Type) where
  k : κ
  v : Value
  b : Nat
def En.e {κ : Type} (enc : κ → Value) (t : En κ) : MapEntry := ⟨enc t.k, t.v, t.b⟩
def En.kv {κ : Type} (t : En κ) : κ × Value := (t.k, t.v)
/-- Where a key stands. -/
def findL {κ : Type} [DecidableEq κ] (x : κ) : List (En κ) → Nat → Option (Nat × Value)
  | [], _ => none
  | t :: l, i => if t.k = x then some (i, t.v) else findL x l (i + 1)
/-- What the keys of a type keep. -/
structure KL (kt : TypeId) {κ : Type} [DecidableEq κ] (enc : κ → Value) : Prop where
  check : ∀ (w : World) (em : Bool) (k : κ), (Instr.checkKey em 10000 kt (enc k)).run Tryd.prog w = .ok () w
  find : ∀ (w : World) (x : κ) (l : List (En κ)), (Instr.findKey kt (enc x) (l.map (En.e enc))).run Tryd.prog w = .ok (findL x l 0) w
  stays : ∀ (w : World) (k : κ), (Instr.keyThatStays (enc k) (enc k)).run Tryd.prog w = .ok (enc k) w
  inj : ∀ a b : κ, enc a = enc b → a = b

/-- A number, an ID. -/
def eU (k : Nat) : Value := .int .u64 (k : Int)
def eI (x : Int × Nat) : Value := .agg #[.int .i64 x.1, .int .u64 (x.2 : Int)]
theorem klU : KL 39 eU := by
  refine ⟨fun w em k => ?_, fun w x l => ?_, fun w k => ?_, fun a b h => ?_⟩
  · kernel_rfl
  · refine MapKept.run_findKey Tryd.underlying39 ?_
    have : ∀ (l : List (En Nat)) i, Instr.findNow (.int .u64) (eU x) (l.map (En.e eU)) i = some (findL x l i) := by
      intro l
      induction l with
      | nil => intro i; rfl
      | cons t l ih =>
        intro i
        rw [List.map_cons]
        unfold Instr.findNow findL
        by_cases h : t.k = x
        · simp [En.e, eU, Instr.sameNow, h]
        · have h2 : ¬ (x : Int) = (t.k : Int) := by omega
          have h3 : ((x : Int) == (t.k : Int)) = false := by simpa using h2
          simp only [En.e, eU, Instr.sameNow, if_true, h3, if_neg h]
          exact ih (i + 1)
    exact this l 0
  · simp [Instr.keyThatStays, Instr.sameBits, eU]
  · simp only [eU, Value.int.injEq, true_and] at h
    omega
theorem klI : KL 51 eI := by
  refine ⟨fun w em k => ?_, fun w x l => ?_, fun w k => ?_, fun a b h => ?_⟩
  · obtain ⟨a, n⟩ := k
    kernel_rfl
  · rw [run_findKey_eq w (by kernel_rfl)]
    have : ∀ (l : List (En (Int × Nat))) i, (Instr.findAsking 51 (eI x) (l.map (En.e eI)) i).run Tryd.prog w = .ok (findL x l i) w := by
      intro l
      induction l with
      | nil => intro i; rfl
      | cons t l ih =>
        intro i
        rw [List.map_cons]
        unfold Instr.findAsking findL
        have he : (Op.equal 51 (eI x) (En.e eI t).key).run Tryd.prog w = .ok (x.1 == t.k.1 && (x.2 : Int) == (t.k.2 : Int)) w := eqID _ _ _ _ w
        rw [Sem.run_bind, he]
        by_cases h : t.k = x
        · have h2 : (x.1 == t.k.1 && (x.2 : Int) == (t.k.2 : Int)) = true := by rw [h]; simp
          simp only [Result.andThen, h2, if_true, if_pos h]
          rfl
        · have h2 : (x.1 == t.k.1 && (x.2 : Int) == (t.k.2 : Int)) = false := by
            rw [Bool.eq_false_iff]
            intro e
            rw [Bool.and_eq_true, beq_iff_eq, beq_iff_eq] at e
            exact h (Prod.ext e.1.symm (by omega))
          simp only [Result.andThen, h2, if_neg h]
          exact ih (i + 1)
    exact this l 0
  · simp [Instr.keyThatStays, Instr.sameBits, eI]
  · simp only [eI, Value.agg.injEq] at h
    have h1 := congrArg Array.toList h
    simp at h1
    exact Prod.ext h1.1 (by omega)

section
variable {κ : Type}
/-- Block b is a map of the entries es. -/
structure MQ (enc : κ → Value) (w : World) (b : Nat) (es : List (κ × Value)) : Prop where
  ex : ∃ (l : List (En κ)) (clock : Nat), w.heap[b]? = some (.map (l.map (En.e enc)).toArray clock) ∧ l.map En.kv = es ∧ (∀ t ∈ l, t.b < clock) ∧ (l.map En.b).Pairwise (· < ·)
  nd : (es.map (·.1)).Nodup

variable {enc : κ → Value} {w w' : World} {b : Nat} {es : List (κ × Value)} {S : Nat → Prop} {kt : TypeId}
theorem MQ.lt (h : MQ enc w b es) : b < w.heap.size := by
  obtain ⟨l, c, hb, _⟩ := h.ex
  exact (Array.getElem?_eq_some_iff.1 hb).1
theorem MQ.kept (h : MQ enc w b es) (hk : Kept w w' S) (hs : ¬ S b) : MQ enc w' b es := by
  have hlt := h.lt
  obtain ⟨l, c, hb, r⟩ := h.ex
  exact ⟨⟨l, c, (hk.block b hlt hs).trans hb, r⟩, h.nd⟩
theorem MQ.below (h : MQ enc w b es) (hb : Below w.heap.size w w') : MQ enc w' b es := h.kept (kept_of_below hb (fun _ => False)) id
theorem MQ.made (enc : κ → Value) (w : World) : MQ enc (w.alloc (.map #[] 0)) w.heap.size [] :=
  ⟨⟨[], 0, heap_alloc_new w _, rfl, by simp, by simp⟩, by simp⟩
/-- 'len(m)'. -/
theorem MQ.len (h : MQ enc w b es) {T E : TypeId} (hT : Tryd.prog.underlying T = some (.map kt E)) (ty : TypeId) : (Builtin.len_ #[T] ty #[.map (some b)]).run Tryd.prog w = .ok (.int .i64 (es.length : Int)) w := by
  obtain ⟨l, c, hb, rfl, _⟩ := h.ex
  simp [Builtin.len_, run_underlying hT, getObj, Sem.run, hb, Result.andThen, goInt]
end

section
variable {κ : Type} [DecidableEq κ]
def lookQ (es : List (κ × Value)) (x : κ) : Option Value := (es.find? (fun p => decide (p.1 = x))).map (·.2)
def updQ (es : List (κ × Value)) (x : κ) (v : Value) : List (κ × Value) := es.map (fun p => if p.1 = x then (x, v) else p)
def putQ (es : List (κ × Value)) (x : κ) (v : Value) : List (κ × Value) := if (lookQ es x).isSome then updQ es x v else es ++ [(x, v)]
def delQ (es : List (κ × Value)) (x : κ) : List (κ × Value) := es.filter (fun p => decide (p.1 ≠ x))
theorem findL_look (x : κ) : ∀ (l : List (En κ)) (i : Nat), (findL x l i).map (·.2) = lookQ (l.map En.kv) x
  | [], _ => rfl
  | t :: l, i => by
    have ih := findL_look x l (i + 1)
    unfold findL lookQ
    rw [List.map_cons, List.find?_cons]
    by_cases h : t.k = x
    · rw [if_pos h]; simp [En.kv, h]
    · rw [if_neg h, ih]
      have : decide ((En.kv t).1 = x) = false := decide_eq_false h
      rw [this]
      rfl
theorem findL_some {x : κ} : ∀ {l : List (En κ)} {i j : Nat} {v : Value}, findL x l i = some (j, v) → ∃ l1 t l2, l = l1 ++ t :: l2 ∧ t.k = x ∧ j = i + l1.length ∧ ∀ u ∈ l1, u.k ≠ x
  | [], _, _, _, h => by cases h
  | t :: l, i, j, v, h => by
    unfold findL at h
    by_cases e : t.k = x
    · rw [if_pos e] at h
      cases h
      exact ⟨[], t, l, rfl, e, rfl, by simp⟩
    · rw [if_neg e] at h
      obtain ⟨l1, u, l2, rfl, h2, h3, h4⟩ := findL_some h
      refine ⟨t :: l1, u, l2, rfl, h2, by simp; omega, fun y hy => ?_⟩
      rcases List.mem_cons.1 hy with rfl | hy
      · exact e
      · exact h4 y hy
theorem lookQ_none {es : List (κ × Value)} {x : κ} (h : lookQ es x = none) : ∀ p ∈ es, p.1 ≠ x := by
  unfold lookQ at h
  rw [Option.map_eq_none_iff, List.find?_eq_none] at h
  intro p hp
  simpa using h p hp
theorem lookQ_mem {es : List (κ × Value)} {x : κ} {v : Value} (h : lookQ es x = some v) : (x, v) ∈ es := by
  unfold lookQ at h
  rw [Option.map_eq_some_iff] at h
  obtain ⟨p, hp, rfl⟩ := h
  have h1 := List.mem_of_find?_eq_some hp
  have h2 : p.1 = x := by simpa using List.find?_some hp
  rw [← h2]
  exact h1
theorem updQ_keys (es : List (κ × Value)) (x : κ) (v : Value) : (updQ es x v).map (·.1) = es.map (·.1) := by
  unfold updQ
  rw [List.map_map]
  apply List.map_congr_left
  intro p _
  simp only [Function.comp]
  split
  · next e => exact e.symm
  · rfl
theorem putQ_nodup {es : List (κ × Value)} (h : (es.map (·.1)).Nodup) (x : κ) (v : Value) : ((putQ es x v).map (·.1)).Nodup := by
  unfold putQ
  split
  · rw [updQ_keys]; exact h
  · next hn =>
    rw [List.map_append, List.nodup_append]
    refine ⟨h, by simp, fun a ha c hc => ?_⟩
    simp only [List.map_cons, List.map_nil, List.mem_singleton] at hc
    subst hc
    obtain ⟨p, hp, rfl⟩ := List.mem_map.1 ha
    exact lookQ_none (by simpa using hn) p hp

variable {enc : κ → Value} {w w' : World} {b : Nat} {es : List (κ × Value)} {S : Nat → Prop} {kt : TypeId}
theorem kept_setBlock (w : World) (b : Nat) (o : Obj) : Kept w (setBlock w b o) (fun k => k = b) :=
  ⟨rfl, rfl, rfl, by simp [setBlock], fun k _ hne => by simp only [setBlock]; rw [Array.getElem?_setIfInBounds_ne (fun e => hne e.symm)]⟩
theorem heap_setBlock {w : World} {b : Nat} (o : Obj) (h : b < w.heap.size) : (setBlock w b o).heap[b]? = some o := by
  simp [setBlock, h]

/-- 'v, ok := m[k]'. -/
theorem MQ.look2 (K : KL kt enc) (h : MQ enc w b es) {T E : TypeId} (hT : Tryd.prog.underlying T = some (.map kt E)) {z : Value} (hz : (zeroValue E).run Tryd.prog w = .ok z w) (x : κ) :
    (Instr.lookup T (.map (some b)) (enc x) true).run Tryd.prog w = .ok (.tuple #[(lookQ es x).getD z, .bool (lookQ es x).isSome]) w := by
  obtain ⟨l, c, hb, rfl, _⟩ := h.ex
  rw [← findL_look x l 0]
  have hf := K.find w x l
  cases h1 : findL x l 0 with
  | none => rw [h1] at hf; simp [Instr.lookup, run_underlying hT, MapKept.run_getObj_map hb, K.check w, hf, hz, Result.andThen]
  | some p => rw [h1] at hf; simp [Instr.lookup, run_underlying hT, MapKept.run_getObj_map hb, K.check w, hf, Result.andThen]
/-- 'm[k]'. -/
theorem MQ.look (K : KL kt enc) (h : MQ enc w b es) {T E : TypeId} (hT : Tryd.prog.underlying T = some (.map kt E)) {z : Value} (hz : (zeroValue E).run Tryd.prog w = .ok z w) (x : κ) :
    (Instr.lookup T (.map (some b)) (enc x) false).run Tryd.prog w = .ok ((lookQ es x).getD z) w := by
  obtain ⟨l, c, hb, rfl, _⟩ := h.ex
  rw [← findL_look x l 0]
  have hf := K.find w x l
  cases h1 : findL x l 0 with
  | none => rw [h1] at hf; simp [Instr.lookup, run_underlying hT, MapKept.run_getObj_map hb, K.check w, hf, hz, Result.andThen]
  | some p => rw [h1] at hf; simp [Instr.lookup, run_underlying hT, MapKept.run_getObj_map hb, K.check w, hf, Result.andThen]
theorem kv_upd {l : List (En κ)} {l1 l2 : List (En κ)} {t : En κ} {x : κ} (hl : l = l1 ++ t :: l2) (ht : t.k = x) (hnd : ((l.map En.kv).map (·.1)).Nodup) (v : Value) : (l1 ++ (⟨x, v, t.b⟩ : En κ) :: l2).map En.kv = updQ (l.map En.kv) x v := by
  have hnd' : (l.map En.k).Nodup := by rw [List.map_map] at hnd; exact hnd
  subst hl
  rw [List.map_append, List.map_cons, List.nodup_append, List.nodup_cons] at hnd'
  obtain ⟨_, ⟨n2, _⟩, n1⟩ := hnd'
  unfold updQ
  rw [List.map_append, List.map_cons, List.map_append, List.map_cons, List.map_append, List.map_cons]
  have e1 : ∀ m : List (En κ), (∀ u ∈ m, u.k ≠ x) → (m.map En.kv).map (fun p => if p.1 = x then (x, v) else p) = m.map En.kv := fun m hm => by
    rw [List.map_map]
    apply List.map_congr_left
    intro u hu
    exact if_neg (hm u hu)
  rw [e1 l1 (fun u hu e => n1 _ (List.mem_map.2 ⟨u, hu, rfl⟩) _ (by simp) (e.trans ht.symm)), e1 l2 (fun u hu e => n2 (List.mem_map.2 ⟨u, hu, e.trans ht.symm⟩))]
  simp [En.kv, ht]
/-- 'm[k] = v'. -/
theorem MQ.upd (K : KL kt enc) (h : MQ enc w b es) {T E : TypeId} (hT : Tryd.prog.underlying T = some (.map kt E)) (x : κ) (v : Value) :
    ∃ o o', w.heap[b]? = some o ∧ (∀ W : World, W.heap[b]? = some o → (Instr.mapUpdate T (.map (some b)) (enc x) v).run Tryd.prog W = .ok () (setBlock W b o')) ∧ ∀ W : World, b < W.heap.size → MQ enc (setBlock W b o') b (putQ es x v) := by
  have hnd := h.nd
  have hpn := putQ_nodup hnd x v
  obtain ⟨l, c, hb, rfl, hc, hp⟩ := h.ex
  have hlk := findL_look x l 0
  have hput : putQ (l.map En.kv) x v = if (findL x l 0).isSome then updQ (l.map En.kv) x v else l.map En.kv ++ [(x, v)] := by
    unfold putQ
    rw [← hlk, Option.isSome_map]
  cases hf : findL x l 0 with
  | none =>
    refine ⟨_, .map ((l.map (En.e enc)).toArray.push ⟨enc x, v, c⟩) (c + 1), hb, fun W hW => ?_, fun W hW => ⟨⟨l ++ [⟨x, v, c⟩], c + 1, ?_, ?_, ?_, ?_⟩, hpn⟩⟩
    · have hfi := K.find W x l
      rw [hf] at hfi
      simp [Instr.mapUpdate, run_underlying hT, MapKept.run_getObj_map hW, K.check W, hfi, MapKept.run_setObj_map _ hW, Result.andThen, setBlock]
    · rw [heap_setBlock _ hW]
      simp [En.e]
    · rw [hput, hf]
      simp [En.kv]
    · intro t ht
      rcases List.mem_append.1 ht with ht | ht
      · have := hc t ht; omega
      · rw [List.mem_singleton] at ht; subst ht; show c < c + 1; omega
    · rw [List.map_append, List.pairwise_append]
      refine ⟨hp, by simp, fun a ha d hd => ?_⟩
      obtain ⟨t, ht, rfl⟩ := List.mem_map.1 ha
      simp only [List.map_cons, List.map_nil, List.mem_singleton] at hd
      subst hd
      exact hc t ht
  | some p =>
    obtain ⟨j, u⟩ := p
    obtain ⟨l1, t, l2, hl, ht, hj, _⟩ := findL_some hf
    rw [Nat.zero_add] at hj
    refine ⟨_, .map ((l.map (En.e enc)).toArray.modify j fun e => { e with key := enc x, val := v }) c, hb, fun W hW => ?_, fun W hW => ⟨⟨l1 ++ (⟨x, v, t.b⟩ : En κ) :: l2, c, ?_, ?_, ?_, ?_⟩, hpn⟩⟩
    · have hfi := K.find W x l
      rw [hf] at hfi
      have hst := K.stays W x
      have hold : (l.map (En.e enc))[j]? = some (En.e enc t) := by
        rw [hl, hj, List.map_append, List.getElem?_append_right (by simp)]
        simp
      have hold' : (((l.map (En.e enc))[j]?).map (·.key)).getD (enc x) = enc x := by
        rw [hold, ← ht]
        rfl
      clear hold
      generalize (l.map (En.e enc)) = L at *
      simp [Instr.mapUpdate, run_underlying hT, MapKept.run_getObj_map hW, K.check W, hfi, hold', hst, MapKept.run_setObj_map _ hW, Result.andThen, setBlock]
    · rw [heap_setBlock _ hW]
      have e : (l.map (En.e enc)).toArray.modify j (fun e => { e with key := enc x, val := v }) = ((l1 ++ (⟨x, v, t.b⟩ : En κ) :: l2).map (En.e enc)).toArray := by
        apply Array.ext'
        rw [Array.toList_modify, hl, hj]
        show ((l1 ++ t :: l2).map (En.e enc)).modify l1.length _ = (l1 ++ (⟨x, v, t.b⟩ : En κ) :: l2).map (En.e enc)
        rw [List.map_append, List.map_append, List.map_cons, List.map_cons]
        have h1 : ∀ (a : List MapEntry) (y : MapEntry) (c : List MapEntry) (f : MapEntry → MapEntry), (a ++ y :: c).modify a.length f = a ++ f y :: c := fun a y c f => by
          induction a with
          | nil => rfl
          | cons z a ih => simpa using ih
        have h2 := h1 (l1.map (En.e enc)) (En.e enc t) (l2.map (En.e enc)) (fun e => { e with key := enc x, val := v })
        rw [List.length_map] at h2
        exact h2
      rw [e]
    · rw [hput, hf]
      exact kv_upd hl ht hnd v
    · intro y hy
      subst hl
      rcases List.mem_append.1 hy with hy | hy
      · exact hc y (List.mem_append_left _ hy)
      · rcases List.mem_cons.1 hy with rfl | hy
        · exact hc t (by simp)
        · exact hc y (by simp [hy])
    · subst hl
      simpa using hp
end

end Go.Proofs.YtdafpfdmnccelaaDoor
