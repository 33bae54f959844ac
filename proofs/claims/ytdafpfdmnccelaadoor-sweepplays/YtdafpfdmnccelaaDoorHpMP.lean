import Derived.Test.YtdafpfdmnccelaaDoorArP
import Derived.Test.YtdafpfdmnccelaaDoorRows
import Derived.Test.YtdafpfdmnccelaaDoorBase
import Derived.Maps.RangeWalk
/- Objects and heaps, reckoned. No program's text is in it. -/
/- A map whose keys are numbers of 64 bits, as the list of its entries. -/
namespace Go.Proofs.YtdafpfdmnccelaaDoor

/-- What an object has: its serial, its cell, its references (node, serial), its numbers, its distance. -/
structure Oc where
  s : Nat
  c : Nat
  rf : List (Int × Nat)
  vl : List Nat
  d : Nat

/-- A heap: whose it is, how many objects it may have, the latest serial, the arena's blocks, the objects. -/
structure HSt where
  node : Nat
  most : Nat
  last : Nat
  bs : List Bk
  cs : List Oc

/-- What a heap may be. -/
structure HSt.Ok (h : HSt) : Prop where
  node : h.node ≤ 64
  most : h.most ≤ 64
  last : h.last ≤ 72057594037927935
  ao : AO h.bs
  len : h.bs.length ≤ 256
  cnt : h.cs.length ≤ h.most
  srt : h.cs.Pairwise (fun a b => a.s < b.s)
  le : ∀ o ∈ h.cs, 1 ≤ o.s ∧ o.s ≤ h.last
  fl : ∀ o ∈ h.cs, o.rf.length ≤ 7 ∧ o.vl.length ≤ 7 ∧ o.c ≤ 10000 ∧ o.d ≤ 40

/-- The object of a serial. -/
def getC (cs : List Oc) (s : Nat) : Option Oc := cs.find? (fun o => o.s == s)
theorem getC_mem {cs : List Oc} {s : Nat} {o : Oc} (h : getC cs s = some o) : o ∈ cs ∧ o.s = s := by
  unfold getC at h
  exact ⟨List.mem_of_find?_eq_some h, by simpa using List.find?_some h⟩
theorem getC_none {cs : List Oc} {s : Nat} (h : getC cs s = none) : ∀ o ∈ cs, o.s ≠ s := by
  unfold getC at h
  rw [List.find?_eq_none] at h
  intro o ho
  simpa using h o ho

/-- The references' and the numbers' answers. -/
def refR (cs : List Oc) (s : Nat) (f : Int) : (Int × Nat) × Nat := match getC cs s with
  | none => ((0, 0), 5)
  | some o => if 0 ≤ f ∧ f < o.rf.length then (o.rf.getD f.toNat (0, 0), 0) else ((0, 0), 5)
def valR (cs : List Oc) (s : Nat) (f : Int) : Nat × Nat := match getC cs s with
  | none => (0, 5)
  | some o => if 0 ≤ f ∧ f < o.vl.length then (o.vl.getD f.toNat 0, 0) else (0, 5)
/-- Is an ID right? -/
def rightI (x : Int × Nat) : Bool := (x.1 == 0 && x.2 == 0) || (decide (1 ≤ x.1) && decide (x.1 ≤ 64) && decide (1 ≤ x.2) && decide (x.2 ≤ 72057594037927935))

/-- One object is another one. -/
def updC (cs : List Oc) (s : Nat) (g : Oc → Oc) : List Oc := cs.map (fun o => if o.s = s then g o else o)
def Oc.setR (o : Oc) (f : Nat) (x : Int × Nat) : Oc := { o with rf := o.rf.set f x }
def Oc.setV (o : Oc) (f : Nat) (x : Nat) : Oc := { o with vl := o.vl.set f x }
def Oc.setD (o : Oc) (d : Nat) : Oc := { o with d := d }

def HSt.setRefR (h : HSt) (s : Nat) (f : Int) (x : Int × Nat) : (Int × Nat) × Nat := if rightI x then refR h.cs s f else ((0, 0), 1)
def HSt.setRefS (h : HSt) (s : Nat) (f : Int) (x : Int × Nat) : HSt := if rightI x = true ∧ (refR h.cs s f).2 = 0 then { h with cs := updC h.cs s (fun o => o.setR f.toNat x) } else h
def HSt.setValR (h : HSt) (s : Nat) (f : Int) : Nat := (valR h.cs s f).2
def HSt.setValS (h : HSt) (s : Nat) (f : Int) (x : Nat) : HSt := if (valR h.cs s f).2 = 0 then { h with cs := updC h.cs s (fun o => o.setV f.toNat x) } else h
def HSt.setInR (h : HSt) (s : Nat) (d : Int) : Nat := if 0 ≤ d ∧ d ≤ 40 then (if (getC h.cs s).isSome then 0 else 5) else 1
def HSt.setInS (h : HSt) (s : Nat) (d : Int) : HSt := if 0 ≤ d ∧ d ≤ 40 ∧ (getC h.cs s).isSome then { h with cs := updC h.cs s (fun o => o.setD d.toNat) } else h
def HSt.makeR (h : HSt) (r v : Int) : Nat × Nat :=
  if 0 ≤ r ∧ r ≤ 7 ∧ 0 ≤ v ∧ v ≤ 7 then
    if h.most ≤ h.cs.length then (0, 6) else if 72057594037927935 ≤ h.last then (0, 7) else
    if (allocR h.bs (1 + r + v)).2 = 0 then (h.last + 1, 0) else (0, (allocR h.bs (1 + r + v)).2)
  else (0, 1)
/-- The object that is made. -/
def HSt.newO (h : HSt) (r v : Int) : Oc := ⟨h.last + 1, (allocR h.bs (1 + r + v)).1, List.replicate r.toNat (0, 0), List.replicate v.toNat 0, 0⟩
def HSt.makeS (h : HSt) (r v : Int) : HSt := if (h.makeR r v).2 = 0 then { h with last := h.last + 1, bs := allocL h.bs (1 + r + v), cs := h.cs ++ [h.newO r v] } else h
def HSt.freeR (h : HSt) (s : Nat) : Nat := if (getC h.cs s).isSome then 0 else 5
def HSt.freeS (h : HSt) (s : Nat) : HSt := match getC h.cs s with
  | none => h
  | some o => { h with bs := freeL h.bs (o.c : Int), cs := h.cs.filter (fun o => o.s != s) }
/-- The least serial above s. -/
def nextR (cs : List Oc) (s : Nat) : Nat × Bool := match cs.find? (fun o => decide (s < o.s)) with
  | none => (0, false)
  | some o => (o.s, true)

theorem updC_len (cs : List Oc) (s : Nat) (g : Oc → Oc) : (updC cs s g).length = cs.length := by simp [updC]
theorem updC_mem {cs : List Oc} {s : Nat} {g : Oc → Oc} {o : Oc} (h : o ∈ updC cs s g) : (o ∈ cs ∧ o.s ≠ s) ∨ ∃ p ∈ cs, p.s = s ∧ o = g p := by
  unfold updC at h
  rw [List.mem_map] at h
  obtain ⟨p, hp, rfl⟩ := h
  by_cases e : p.s = s
  · exact Or.inr ⟨p, hp, e, if_pos e⟩
  · rw [if_neg e]
    exact Or.inl ⟨hp, e⟩

theorem HSt.Ok.upd {h : HSt} (H : h.Ok) (s : Nat) (g : Oc → Oc) (hg : ∀ o ∈ h.cs, o.s = s → (g o).s = o.s ∧ (g o).rf.length ≤ 7 ∧ (g o).vl.length ≤ 7 ∧ (g o).c ≤ 10000 ∧ (g o).d ≤ 40) : HSt.Ok { h with cs := updC h.cs s g } := by
  refine ⟨H.node, H.most, H.last, H.ao, H.len, by simpa [updC_len] using H.cnt, ?_, ?_, ?_⟩
  · show (updC h.cs s g).Pairwise _
    unfold updC
    rw [List.pairwise_map]
    refine H.srt.imp_of_mem ?_
    intro a b ha hb hab
    have e : ∀ o ∈ h.cs, (if o.s = s then g o else o).s = o.s := fun o ho => by
      split
      · next e => exact (hg o ho e).1
      · rfl
    rw [e a ha, e b hb]
    exact hab
  · intro o ho
    rcases updC_mem ho with ⟨h1, _⟩ | ⟨p, hp, e, rfl⟩
    · exact H.le o h1
    · have := H.le p hp
      rw [(hg p hp e).1]
      exact this
  · intro o ho
    rcases updC_mem ho with ⟨h1, _⟩ | ⟨p, hp, e, rfl⟩
    · exact H.fl o h1
    · exact (hg p hp e).2
theorem HSt.Ok.setRef {h : HSt} (H : h.Ok) (s : Nat) (f : Int) (x : Int × Nat) : (h.setRefS s f x).Ok := by
  unfold HSt.setRefS
  split
  · refine H.upd s _ (fun o ho _ => ?_)
    have := H.fl o ho
    simpa [Oc.setR] using this
  · exact H
theorem HSt.Ok.setVal {h : HSt} (H : h.Ok) (s : Nat) (f : Int) (x : Nat) : (h.setValS s f x).Ok := by
  unfold HSt.setValS
  split
  · refine H.upd s _ (fun o ho _ => ?_)
    have := H.fl o ho
    simpa [Oc.setV] using this
  · exact H
theorem HSt.Ok.setIn {h : HSt} (H : h.Ok) (s : Nat) (d : Int) : (h.setInS s d).Ok := by
  unfold HSt.setInS
  split
  · next hd =>
    refine H.upd s _ (fun o ho _ => ?_)
    have := H.fl o ho
    refine ⟨rfl, this.1, this.2.1, this.2.2.1, ?_⟩
    show d.toNat ≤ 40
    omega
  · exact H
theorem HSt.makeR_ok {h : HSt} {r v : Int} (hE : (h.makeR r v).2 = 0) : 0 ≤ r ∧ r ≤ 7 ∧ 0 ≤ v ∧ v ≤ 7 ∧ h.cs.length < h.most ∧ h.last < 72057594037927935 ∧ (allocR h.bs (1 + r + v)).2 = 0 ∧ h.makeR r v = (h.last + 1, 0) := by
  unfold HSt.makeR at hE ⊢
  by_cases h1 : 0 ≤ r ∧ r ≤ 7 ∧ 0 ≤ v ∧ v ≤ 7
  · rw [if_pos h1] at hE ⊢
    by_cases h2 : h.most ≤ h.cs.length
    · rw [if_pos h2] at hE; cases hE
    rw [if_neg h2] at hE ⊢
    by_cases h3 : 72057594037927935 ≤ h.last
    · rw [if_pos h3] at hE; cases hE
    rw [if_neg h3] at hE ⊢
    by_cases h4 : (allocR h.bs (1 + r + v)).2 = 0
    · rw [if_pos h4]
      exact ⟨h1.1, h1.2.1, h1.2.2.1, h1.2.2.2, by omega, by omega, h4, rfl⟩
    · rw [if_neg h4] at hE
      exact absurd hE h4
  · rw [if_neg h1] at hE
    cases hE
theorem allocR_le {bs : List Bk} (hO : AO bs) (hl : bs.length ≤ 256) (s : Int) : (allocR bs s).1 ≤ 10000 := by
  unfold allocR
  split
  · omega
  · next hz =>
    cases hp : pickB (classN s) bs with
    | none => simp
    | some n =>
      obtain ⟨hn, _⟩ := pickB_lt hp
      have h1 := (placeN_spec bs[n].t (hO _ (List.getElem_mem hn)).lt).2.2
      have h2 : placeN bs[n].t * classN s ≤ 16 * 16 := Nat.mul_le_mul h1 (classN_ne hz).le
      simp only [getD_at hn]
      omega
theorem HSt.Ok.make {h : HSt} (H : h.Ok) (r v : Int) : (h.makeS r v).Ok := by
  unfold HSt.makeS
  split
  · next hE =>
    obtain ⟨h1, h2, h3, h4, h5, h6, h7, _⟩ := HSt.makeR_ok hE
    refine ⟨H.node, H.most, by show h.last + 1 ≤ _; omega, H.ao.alloc _, by rw [len_alloc]; exact H.len, ?_, ?_, ?_, ?_⟩
    · show (h.cs ++ [h.newO r v]).length ≤ h.most
      rw [List.length_append, List.length_singleton]
      omega
    · show (h.cs ++ [h.newO r v]).Pairwise _
      rw [List.pairwise_append]
      refine ⟨H.srt, List.pairwise_singleton _ _, fun a ha b hb => ?_⟩
      rw [List.mem_singleton] at hb
      subst hb
      have := H.le a ha
      show a.s < h.last + 1
      omega
    · intro o ho
      rcases List.mem_append.1 ho with ho | ho
      · have := H.le o ho
        exact ⟨this.1, by show o.s ≤ h.last + 1; omega⟩
      · rw [List.mem_singleton] at ho
        subst ho
        exact ⟨by show 1 ≤ h.last + 1; omega, Nat.le_refl _⟩
    · intro o ho
      rcases List.mem_append.1 ho with ho | ho
      · exact H.fl o ho
      · rw [List.mem_singleton] at ho
        subst ho
        refine ⟨?_, ?_, allocR_le H.ao H.len _, Nat.zero_le _⟩
        · show (List.replicate r.toNat ((0, 0) : Int × Nat)).length ≤ 7
          rw [List.length_replicate]
          omega
        · show (List.replicate v.toNat 0).length ≤ 7
          rw [List.length_replicate]
          omega
  · exact H
theorem HSt.Ok.free {h : HSt} (H : h.Ok) (s : Nat) : (h.freeS s).Ok := by
  unfold HSt.freeS
  cases hg : getC h.cs s with
  | none => exact H
  | some o =>
    refine ⟨H.node, H.most, H.last, H.ao.free _, by rw [len_free]; exact H.len, Nat.le_trans (List.length_filter_le _ _) H.cnt, H.srt.filter _, fun p hp => H.le p (List.mem_filter.1 hp).1, fun p hp => H.fl p (List.mem_filter.1 hp).1⟩
theorem HSt.Ok.new {node most last n : Nat} (h1 : node ≤ 64) (h2 : most ≤ 64) (h3 : last ≤ 72057594037927935) (h4 : n ≤ 256) : HSt.Ok ⟨node, most, last, List.replicate n bk0, []⟩ :=
  ⟨h1, h2, h3, AO.new n, by simpa using h4, Nat.zero_le _, List.Pairwise.nil, by simp, by simp⟩

/-- Of rising serials one is one object's. -/
theorem srt_uniq {cs : List Oc} (h : cs.Pairwise (fun a b => a.s < b.s)) {a b : Oc} (ha : a ∈ cs) (hb : b ∈ cs) (e : a.s = b.s) : a = b := by
  induction cs with
  | nil => cases ha
  | cons x l ih =>
    rw [List.pairwise_cons] at h
    rcases List.mem_cons.1 ha with e1 | h1
    · rcases List.mem_cons.1 hb with e2 | h2
      · rw [e1, e2]
      · have := h.1 b h2; rw [← e1] at this; omega
    · rcases List.mem_cons.1 hb with e2 | h2
      · have := h.1 a h1; rw [← e2] at this; omega
      · exact ih h.2 h1 h2
theorem getC_of {cs : List Oc} (h : cs.Pairwise (fun a b => a.s < b.s)) {o : Oc} (ho : o ∈ cs) : getC cs o.s = some o := by
  cases hg : getC cs o.s with
  | none => exact absurd rfl (getC_none hg o ho)
  | some p =>
    obtain ⟨h1, h2⟩ := getC_mem hg
    rw [srt_uniq h h1 ho h2]

end Go.Proofs.YtdafpfdmnccelaaDoor

namespace Go.Proofs.YtdafpfdmnccelaaDoor
open Go.RowKit

/-- Each element is told as itself. -/
def heldR (v : Value) : Option (DataW Value × List MemPlace) := some (.held v, [])
theorem lawU : Maps.Keyed Tryd.prog 39 := Maps.int_keyed Tryd.underlying39
/-- A key. -/
def kL (k : Nat) : Lit := .int .u64 (k : Int)
theorem kL_inj {a b : Nat} (h : kL a = kL b) : a = b := by
  simp only [kL, Lit.int.injEq, true_and] at h
  omega
theorem kL_ne {a b : Nat} (h : a ≠ b) : kL a ≠ kL b := fun e => h (kL_inj e)
theorem kL_key (k : Nat) : WideAt.IsKeyLit (kL k) := trivial
theorem wfU (k : Nat) (h : k < 18446744073709551616) : (Lit.int .u64 (k : Int)).wf = true := by
  simp only [Lit.wf, Bool.and_eq_true, decide_eq_true_eq]
  have h1 : IntKind.u64.max = 18446744073709551615 := rfl
  have h2 : IntKind.u64.min = 0 := rfl
  omega
theorem kOf (k : Nat) (h : k < 18446744073709551616) : keyOf Tryd.prog 39 (.int .u64 (k : Int)) = some (kL k) := Maps.keyOf_int_mk Tryd.underlying39 (wfU k h)

/-- What stands at a key. -/
def lookE (es : List (Nat × Value)) (k : Nat) : Option Value := (es.find? (fun p => p.1 == k)).map (·.2)
/-- What a look-up answers: z where there is none. -/
def orE (es : List (Nat × Value)) (k : Nat) (z : DataW Value) : DataW Value := match lookE es k with
  | some v => .held v
  | none => z
theorem lookE_new {es : List (Nat × Value)} {k : Nat} (h : lookE es k = none) (v : Value) (j : Nat) : lookE (es ++ [(k, v)]) j = if j = k then some v else lookE es j := by
  unfold lookE at *
  rw [Option.map_eq_none_iff] at h
  rw [List.find?_append]
  by_cases e : j = k
  · subst e
    rw [h, if_pos rfl]
    simp
  · rw [if_neg e]
    have : (k == j) = false := by rw [beq_eq_false_iff_ne]; exact fun h => e h.symm
    simp [this]
theorem lookE_mem {es : List (Nat × Value)} {k : Nat} {v : Value} (h : lookE es k = some v) : (k, v) ∈ es := by
  unfold lookE at h
  rw [Option.map_eq_some_iff] at h
  obtain ⟨p, hp, rfl⟩ := h
  have h1 := List.mem_of_find?_eq_some hp
  have h2 : p.1 = k := by simpa using List.find?_some hp
  rw [← h2]
  exact h1
theorem lookE_none {es : List (Nat × Value)} {k : Nat} (h : lookE es k = none) : ∀ p ∈ es, p.1 ≠ k := by
  unfold lookE at h
  rw [Option.map_eq_none_iff, List.find?_eq_none] at h
  intro p hp
  simpa using h p hp
/-- An entry is another one. -/
def updE (es : List (Nat × Value)) (k : Nat) (v : Value) : List (Nat × Value) := es.map (fun p => if p.1 = k then (k, v) else p)
theorem lookE_upd {es : List (Nat × Value)} {k : Nat} {u : Value} (h : lookE es k = some u) (v : Value) (j : Nat) : lookE (updE es k v) j = if j = k then some v else lookE es j := by
  have hm := lookE_mem h
  clear h
  unfold lookE updE
  induction es with
  | nil => cases hm
  | cons p l ih =>
    rw [List.map_cons, List.find?_cons, List.find?_cons]
    by_cases e : p.1 = k
    · rw [if_pos e]
      by_cases ej : j = k
      · subst ej
        simp
      · rw [if_neg ej]
        have h1 : (k == j) = false := by rw [beq_eq_false_iff_ne]; exact fun h => ej h.symm
        have h2 : (p.1 == j) = false := by rw [e]; exact h1
        simp only [h1, h2]
        clear ih hm
        induction l with
        | nil => rfl
        | cons q l ih =>
          rw [List.map_cons, List.find?_cons, List.find?_cons]
          by_cases eq : q.1 = k
          · rw [if_pos eq]
            have h3 : (q.1 == j) = false := by rw [eq]; exact h1
            simp only [h1, h3]
            exact ih
          · rw [if_neg eq]
            cases hq : (q.1 == j)
            · exact ih
            · rfl
    · rw [if_neg e]
      have hm' : (k, u) ∈ l := by
        rcases List.mem_cons.1 hm with h | h
        · exact absurd (by rw [← h]) e
        · exact h
      by_cases ej : j = k
      · subst ej
        have h1 : (p.1 == j) = false := by rw [beq_eq_false_iff_ne]; exact e
        simp only [h1]
        simpa using ih hm'
      · cases hq : (p.1 == j)
        · exact ih hm'
        · rw [if_neg ej]
theorem updE_len (es : List (Nat × Value)) (k : Nat) (v : Value) : (updE es k v).length = es.length := by simp [updE]
theorem updE_keys (es : List (Nat × Value)) (k : Nat) (v : Value) : (updE es k v).map (·.1) = es.map (·.1) := by
  unfold updE
  rw [List.map_map]
  apply List.map_congr_left
  intro p _
  simp only [Function.comp]
  split
  · next e => exact e.symm
  · rfl
theorem lookE_del (es : List (Nat × Value)) (k j : Nat) : lookE (es.filter (fun p => p.1 != k)) j = if j = k then none else lookE es j := by
  unfold lookE
  rw [List.find?_filter]
  by_cases ej : j = k
  · subst ej
    rw [if_pos rfl, Option.map_eq_none_iff, List.find?_eq_none]
    intro p _
    simp
  · rw [if_neg ej]
    congr 1
    congr 1
    funext p
    cases hq : (p.1 == j)
    · simp
    · have : p.1 = j := by simpa using hq
      simp [this, ej]
theorem del_len {es : List (Nat × Value)} (hn : (es.map (·.1)).Nodup) {k : Nat} {v : Value} (h : lookE es k = some v) : (es.filter (fun p => p.1 != k)).length + 1 = es.length := by
  have hm := lookE_mem h
  clear h
  induction es with
  | nil => cases hm
  | cons p l ih =>
    rw [List.map_cons, List.nodup_cons] at hn
    by_cases e : p.1 = k
    · have h1 : ∀ q ∈ l, (q.1 != k) = true := fun q hq => by
        rw [bne_iff_ne]
        intro e2
        exact hn.1 (List.mem_map.2 ⟨q, hq, by rw [e2, e]⟩)
      rw [List.filter_cons, if_neg (by simp [e]), List.filter_eq_self.2 h1]
      rfl
    · have hm' : (k, v) ∈ l := by
        rcases List.mem_cons.1 hm with h | h
        · exact absurd (by rw [← h]) e
        · exact h
      rw [List.filter_cons, if_pos (by simpa using e), List.length_cons, List.length_cons, ih hn.2 hm']

/-- Block b is a map of the entries es. -/
structure MP (w : World) (b : Nat) (es : List (Nat × Value)) : Prop where
  ex : ∃ D : DataW Value, w.ownsMap Tryd.prog 39 heldR b es.length D ∧ Maps.size D = es.length ∧ ∀ k : Nat, ∀ z, D.atKey (kL k) z = orE es k z
  nd : (es.map (·.1)).Nodup
  sm : ∀ p ∈ es, p.1 < 18446744073709551616
  few : es.length ≤ 1000

theorem own_exact {w : World} {b n : Nat} {D : DataW Value} (h : w.ownsMap Tryd.prog 39 heldR b n D) : w.ownsMap Tryd.prog 39 heldR b (Maps.size D) D := by
  obtain ⟨es, clock, hb, F, hs, rfl⟩ := h
  exact ⟨es, clock, hb, F, by simp [Maps.size, length_sorted], rfl⟩

section
variable {w w' : World} {b : Nat} {es : List (Nat × Value)} {S : Nat → Prop}
theorem MP.lt (h : MP w b es) : b < w.heap.size := by
  obtain ⟨D, hD, _⟩ := h.ex
  exact hD.lt
theorem MP.kept (h : MP w b es) (hk : Kept w w' S) (hs : ¬ S b) : MP w' b es := by
  have hlt := h.lt
  obtain ⟨D, ⟨l, clock, hb, r⟩, h2⟩ := h.ex
  exact ⟨⟨D, ⟨l, clock, (hk.block b hlt hs).trans hb, r⟩, h2⟩, h.nd, h.sm, h.few⟩
theorem MP.below (h : MP w b es) (hb : Below w.heap.size w w') : MP w' b es := h.kept (kept_of_below hb (fun _ => False)) id
theorem MP.made (w : World) : MP (w.alloc (.map #[] 0)) w.heap.size [] :=
  ⟨⟨.map [], World.ownsMap_made w _ _ _, rfl, fun _ _ => rfl⟩, List.nodup_nil, by simp, by simp⟩

theorem MP.has {D : DataW Value} (h : ∀ k : Nat, ∀ z, D.atKey (kL k) z = orE es k z) (k : Nat) : Maps.has D (kL k) = (lookE es k).isSome := by
  cases hl : lookE es k with
  | none => exact Maps.has_false_of_atKey (fun z => by rw [h k z]; unfold orE; rw [hl])
  | some v => exact Maps.has_true_of_atKey (y := .held v) (fun z => by rw [h k z]; unfold orE; rw [hl])

/-- 'm[k]'. -/
theorem MP.look (h : MP w b es) {T E : TypeId} (hT : Tryd.prog.underlying T = some (.map 39 E)) {z : Value} (hz : (zeroValue E).run Tryd.prog w = .ok z w) (k : Nat) (hk : k < 18446744073709551616) :
    (Instr.lookup T (.map (some b)) (.int .u64 (k : Int)) false).run Tryd.prog w = .ok ((lookE es k).getD z) w := by
  obtain ⟨D, hD, _, hat⟩ := h.ex
  obtain ⟨v, ps, hrun, hv⟩ := hD.lookup lawU hT hz (zd := .held z) (zp := []) rfl (kOf k hk)
  rw [hrun]
  rw [hat k] at hv
  simp only [heldR, Option.some.injEq, Prod.mk.injEq] at hv
  have hv := hv.1
  unfold orE at hv
  cases hl : lookE es k with
  | none => rw [hl] at hv; simp only [DataW.held.injEq] at hv; rw [hv]; rfl
  | some u => rw [hl] at hv; simp only [DataW.held.injEq] at hv; rw [hv]; rfl
/-- 'v, ok := m[k]'. -/
theorem MP.look2 (h : MP w b es) {T E : TypeId} (hT : Tryd.prog.underlying T = some (.map 39 E)) {z : Value} (hz : (zeroValue E).run Tryd.prog w = .ok z w) (k : Nat) (hk : k < 18446744073709551616) :
    (Instr.lookup T (.map (some b)) (.int .u64 (k : Int)) true).run Tryd.prog w = .ok (.tuple #[(lookE es k).getD z, .bool (lookE es k).isSome]) w := by
  obtain ⟨D, hD, _, hat⟩ := h.ex
  obtain ⟨v, ps, hrun, hv⟩ := hD.look_ok lawU hT hz (zd := .held z) (zp := []) rfl (kOf k hk)
  rw [hrun, MP.has hat]
  rw [hat k] at hv
  simp only [heldR, Option.some.injEq, Prod.mk.injEq] at hv
  have hv := hv.1
  unfold orE at hv
  cases hl : lookE es k with
  | none => rw [hl] at hv; simp only [DataW.held.injEq] at hv; rw [hv]; rfl
  | some u => rw [hl] at hv; simp only [DataW.held.injEq] at hv; rw [hv]; rfl
/-- 'len(m)'. -/
theorem MP.len (h : MP w b es) {T E : TypeId} (hT : Tryd.prog.underlying T = some (.map 39 E)) (ty : TypeId) : (Builtin.len_ #[T] ty #[.map (some b)]).run Tryd.prog w = .ok (.int .i64 (es.length : Int)) w := by
  obtain ⟨D, hD, hs, _⟩ := h.ex
  rw [hD.len hT ty, hs]
/-- 'm[k] = v' at a new key. -/
theorem MP.put (h : MP w b es) {T E : TypeId} (hT : Tryd.prog.underlying T = some (.map 39 E)) (k : Nat) (hk : k < 18446744073709551616) (hn : lookE es k = none) (hf : es.length < 1000) (v : Value) :
    ∃ w', (Instr.mapUpdate T (.map (some b)) (.int .u64 (k : Int)) v).run Tryd.prog w = .ok () w' ∧ MP w' b (es ++ [(k, v)]) ∧ Kept w w' (fun j => j = b) := by
  have hnd := h.nd
  have hsm := h.sm
  obtain ⟨D, hD, hs, hat⟩ := h.ex
  obtain ⟨w', hrun, hD', hg⟩ := hD.update lawU hT (by unfold maxLen; omega) (kOf k hk) (val := v) (d := .held v) (ps := []) rfl
  have hsz : Maps.size (D.put (kL k) (.held v)) = es.length + 1 := by
    rw [Maps.size_put (hD.tidy lawU), MP.has hat, hn, hs]
    rfl
  have hD'' := own_exact hD'
  rw [hsz] at hD''
  refine ⟨w', hrun, ⟨⟨_, by rw [List.length_append]; exact hD'', by rw [hsz]; simp, fun j z => ?_⟩, ?_, ?_, by simp; omega⟩, ⟨hg.os, hg.tape, hg.output, hg.size, fun i hi hne => hg.block i hi (fun e => hne (by cases e; rfl))⟩⟩
  · unfold orE
    rw [lookE_new hn]
    by_cases e : j = k
    · subst e
      rw [if_pos rfl, Maps.atKey_put_same hD.isMap (kL_key j)]
    · rw [if_neg e, Maps.atKey_put_other (kL_ne e), hat j z]
      rfl
  · rw [List.map_append, List.nodup_append]
    refine ⟨hnd, by simp, fun a ha c hc => ?_⟩
    simp only [List.map_cons, List.map_nil, List.mem_singleton] at hc
    subst hc
    obtain ⟨p, hp, rfl⟩ := List.mem_map.1 ha
    exact lookE_none hn p hp
  · intro p hp
    rcases List.mem_append.1 hp with hp | hp
    · exact hsm p hp
    · rw [List.mem_singleton] at hp
      subst hp
      exact hk
/-- 'm[k] = v' at a key that is there. -/
theorem MP.set (h : MP w b es) {T E : TypeId} (hT : Tryd.prog.underlying T = some (.map 39 E)) (k : Nat) (hk : k < 18446744073709551616) {u : Value} (hn : lookE es k = some u) (v : Value) :
    ∃ w', (Instr.mapUpdate T (.map (some b)) (.int .u64 (k : Int)) v).run Tryd.prog w = .ok () w' ∧ MP w' b (updE es k v) ∧ Kept w w' (fun j => j = b) := by
  have hnd := h.nd
  have hsm := h.sm
  have hfew := h.few
  obtain ⟨D, hD, hs, hat⟩ := h.ex
  obtain ⟨w', hrun, hD', hg⟩ := hD.update lawU hT (by unfold maxLen; omega) (kOf k hk) (val := v) (d := .held v) (ps := []) rfl
  have hsz : Maps.size (D.put (kL k) (.held v)) = es.length := by
    rw [Maps.size_put (hD.tidy lawU), MP.has hat, hn, hs]
    rfl
  have hD'' := own_exact hD'
  rw [hsz] at hD''
  refine ⟨w', hrun, ⟨⟨_, by rw [updE_len]; exact hD'', by rw [hsz, updE_len], fun j z => ?_⟩, by rw [updE_keys]; exact hnd, ?_, by rw [updE_len]; exact hfew⟩, ⟨hg.os, hg.tape, hg.output, hg.size, fun i hi hne => hg.block i hi (fun e => hne (by cases e; rfl))⟩⟩
  · unfold orE
    rw [lookE_upd hn]
    by_cases e : j = k
    · subst e
      rw [if_pos rfl, Maps.atKey_put_same hD.isMap (kL_key j)]
    · rw [if_neg e, Maps.atKey_put_other (kL_ne e), hat j z]
      rfl
  · intro p hp
    have : p.1 ∈ (updE es k v).map (·.1) := List.mem_map.2 ⟨p, hp, rfl⟩
    rw [updE_keys] at this
    obtain ⟨q, hq, e⟩ := List.mem_map.1 this
    rw [← e]
    exact hsm q hq
/-- 'delete(m, k)'. -/
theorem MP.del (h : MP w b es) {T E : TypeId} (hT : Tryd.prog.underlying T = some (.map 39 E)) (k : Nat) (hk : k < 18446744073709551616) {u : Value} (hn : lookE es k = some u) (ty : TypeId) :
    ∃ w', (Builtin.delete_ #[T, 39] ty #[.map (some b), .int .u64 (k : Int)]).run Tryd.prog w = .ok (.tuple #[]) w' ∧ MP w' b (es.filter (fun p => p.1 != k)) ∧ Kept w w' (fun j => j = b) := by
  have hnd := h.nd
  have hsm := h.sm
  have hfew := h.few
  have hdl := del_len hnd hn
  obtain ⟨D, hD, hs, hat⟩ := h.ex
  obtain ⟨w', hrun, hD', ht⟩ := hD.drop lawU hT (kOf k hk) ty
  have hg := ht.grown
  have hsz : Maps.size (D.del (kL k)) = (es.filter (fun p => p.1 != k)).length := by
    have := Maps.size_del (k := kL k) (hD.tidy lawU)
    rw [MP.has hat, hn, hs] at this
    simp only [Option.isSome_some, if_true] at this
    omega
  have hD'' := own_exact hD'
  rw [hsz] at hD''
  refine ⟨w', hrun, ⟨⟨_, hD'', hsz, fun j z => ?_⟩, hnd.sublist (List.filter_sublist.map _), fun p hp => hsm p (List.mem_filter.1 hp).1, by omega⟩, ⟨hg.os, hg.tape, hg.output, hg.size, fun i hi hne => hg.block i hi (fun e => hne (by cases e; rfl))⟩⟩
  unfold orE
  rw [lookE_del]
  by_cases e : j = k
  · subst e
    rw [if_pos rfl, Maps.atKey_del_same]
  · rw [if_neg e, Maps.atKey_del_other (kL_ne e), hat j z]
    rfl
end

end Go.Proofs.YtdafpfdmnccelaaDoor
