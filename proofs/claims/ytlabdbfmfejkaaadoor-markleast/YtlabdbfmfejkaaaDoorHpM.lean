/- Objects and heaps, reckoned. No program's text is in it. -/
import Derived.Test.YtlabdbfmfejkaaaDoorArP
namespace Go.Proofs.YtlabdbfmfejkaaaDoor

/-- What an object has: its serial, its cell, its references (node, serial), its numbers, its distance. -/
structure Oc where
  s : Nat
  c : Nat
  rf : List (Int × Nat)
  vl : List Nat
  d : Nat

/-- A heap: whose it is, how many objects it may have, the latest serial, the arena's blocks, the objects. -/
structure HSt where
  node : Nat
  most : Nat
  last : Nat
  bs : List Bk
  cs : List Oc

/-- What a heap may be. -/
structure HSt.Ok (h : HSt) : Prop where
  node : h.node ≤ 64
  most : h.most ≤ 64
  last : h.last ≤ 72057594037927935
  ao : AO h.bs
  len : h.bs.length ≤ 256
  cnt : h.cs.length ≤ h.most
  srt : h.cs.Pairwise (fun a b => a.s < b.s)
  le : ∀ o ∈ h.cs, 1 ≤ o.s ∧ o.s ≤ h.last
  fl : ∀ o ∈ h.cs, o.rf.length ≤ 7 ∧ o.vl.length ≤ 7 ∧ o.c ≤ 10000 ∧ o.d ≤ 40

/-- The object of a serial. -/
def getC (cs : List Oc) (s : Nat) : Option Oc := cs.find? (fun o => o.s == s)
theorem getC_mem {cs : List Oc} {s : Nat} {o : Oc} (h : getC cs s = some o) : o ∈ cs ∧ o.s = s := by
  unfold getC at h
  exact ⟨List.mem_of_find?_eq_some h, by simpa using List.find?_some h⟩
theorem getC_none {cs : List Oc} {s : Nat} (h : getC cs s = none) : ∀ o ∈ cs, o.s ≠ s := by
  unfold getC at h
  rw [List.find?_eq_none] at h
  intro o ho
  simpa using h o ho

/-- The references' and the numbers' answers. -/
def refR (cs : List Oc) (s : Nat) (f : Int) : (Int × Nat) × Nat := match getC cs s with
  | none => ((0, 0), 5)
  | some o => if 0 ≤ f ∧ f < o.rf.length then (o.rf.getD f.toNat (0, 0), 0) else ((0, 0), 5)
def valR (cs : List Oc) (s : Nat) (f : Int) : Nat × Nat := match getC cs s with
  | none => (0, 5)
  | some o => if 0 ≤ f ∧ f < o.vl.length then (o.vl.getD f.toNat 0, 0) else (0, 5)
/-- Is an ID right? -/
def rightI (x : Int × Nat) : Bool := (x.1 == 0 && x.2 == 0) || (decide (1 ≤ x.1) && decide (x.1 ≤ 64) && decide (1 ≤ x.2) && decide (x.2 ≤ 72057594037927935))

/-- One object is another one. -/
def updC (cs : List Oc) (s : Nat) (g : Oc → Oc) : List Oc := cs.map (fun o => if o.s = s then g o else o)
def Oc.setR (o : Oc) (f : Nat) (x : Int × Nat) : Oc := { o with rf := o.rf.set f x }
def Oc.setV (o : Oc) (f : Nat) (x : Nat) : Oc := { o with vl := o.vl.set f x }
def Oc.setD (o : Oc) (d : Nat) : Oc := { o with d := d }

def HSt.setRefR (h : HSt) (s : Nat) (f : Int) (x : Int × Nat) : (Int × Nat) × Nat := if rightI x then refR h.cs s f else ((0, 0), 1)
def HSt.setRefS (h : HSt) (s : Nat) (f : Int) (x : Int × Nat) : HSt := if rightI x = true ∧ (refR h.cs s f).2 = 0 then { h with cs := updC h.cs s (fun o => o.setR f.toNat x) } else h
def HSt.setValR (h : HSt) (s : Nat) (f : Int) : Nat := (valR h.cs s f).2
def HSt.setValS (h : HSt) (s : Nat) (f : Int) (x : Nat) : HSt := if (valR h.cs s f).2 = 0 then { h with cs := updC h.cs s (fun o => o.setV f.toNat x) } else h
def HSt.setInR (h : HSt) (s : Nat) (d : Int) : Nat := if 0 ≤ d ∧ d ≤ 40 then (if (getC h.cs s).isSome then 0 else 5) else 1
def HSt.setInS (h : HSt) (s : Nat) (d : Int) : HSt := if 0 ≤ d ∧ d ≤ 40 ∧ (getC h.cs s).isSome then { h with cs := updC h.cs s (fun o => o.setD d.toNat) } else h
def HSt.makeR (h : HSt) (r v : Int) : Nat × Nat :=
  if 0 ≤ r ∧ r ≤ 7 ∧ 0 ≤ v ∧ v ≤ 7 then
    if h.most ≤ h.cs.length then (0, 6) else if 72057594037927935 ≤ h.last then (0, 7) else
    if (allocR h.bs (1 + r + v)).2 = 0 then (h.last + 1, 0) else (0, (allocR h.bs (1 + r + v)).2)
  else (0, 1)
/-- The object that is made. -/
def HSt.newO (h : HSt) (r v : Int) : Oc := ⟨h.last + 1, (allocR h.bs (1 + r + v)).1, List.replicate r.toNat (0, 0), List.replicate v.toNat 0, 0⟩
def HSt.makeS (h : HSt) (r v : Int) : HSt := if (h.makeR r v).2 = 0 then { h with last := h.last + 1, bs := allocL h.bs (1 + r + v), cs := h.cs ++ [h.newO r v] } else h
def HSt.freeR (h : HSt) (s : Nat) : Nat := if (getC h.cs s).isSome then 0 else 5
def HSt.freeS (h : HSt) (s : Nat) : HSt := match getC h.cs s with
  | none => h
  | some o => { h with bs := freeL h.bs (o.c : Int), cs := h.cs.filter (fun o => o.s != s) }
/-- The least serial above s. -/
def nextR (cs : List Oc) (s : Nat) : Nat × Bool := match cs.find? (fun o => decide (s < o.s)) with
  | none => (0, false)
  | some o => (o.s, true)

theorem updC_len (cs : List Oc) (s : Nat) (g : Oc → Oc) : (updC cs s g).length = cs.length := by simp [updC]
theorem updC_mem {cs : List Oc} {s : Nat} {g : Oc → Oc} {o : Oc} (h : o ∈ updC cs s g) : (o ∈ cs ∧ o.s ≠ s) ∨ ∃ p ∈ cs, p.s = s ∧ o = g p := by
  unfold updC at h
  rw [List.mem_map] at h
  obtain ⟨p, hp, rfl⟩ := h
  by_cases e : p.s = s
  · exact Or.inr ⟨p, hp, e, if_pos e⟩
  · rw [if_neg e]
    exact Or.inl ⟨hp, e⟩

theorem HSt.Ok.upd {h : HSt} (H : h.Ok) (s : Nat) (g : Oc → Oc) (hg : ∀ o ∈ h.cs, o.s = s → (g o).s = o.s ∧ (g o).rf.length ≤ 7 ∧ (g o).vl.length ≤ 7 ∧ (g o).c ≤ 10000 ∧ (g o).d ≤ 40) : HSt.Ok { h with cs := updC h.cs s g } := by
  refine ⟨H.node, H.most, H.last, H.ao, H.len, by simpa [updC_len] using H.cnt, ?_, ?_, ?_⟩
  · show (updC h.cs s g).Pairwise _
    unfold updC
    rw [List.pairwise_map]
    refine H.srt.imp_of_mem ?_
    intro a b ha hb hab
    have e : ∀ o ∈ h.cs, (if o.s = s then g o else o).s = o.s := fun o ho => by
      split
      · next e => exact (hg o ho e).1
      · rfl
    rw [e a ha, e b hb]
    exact hab
  · intro o ho
    rcases updC_mem ho with ⟨h1, _⟩ | ⟨p, hp, e, rfl⟩
    · exact H.le o h1
    · have := H.le p hp
      rw [(hg p hp e).1]
      exact this
  · intro o ho
    rcases updC_mem ho with ⟨h1, _⟩ | ⟨p, hp, e, rfl⟩
    · exact H.fl o h1
    · exact (hg p hp e).2
theorem HSt.Ok.setRef {h : HSt} (H : h.Ok) (s : Nat) (f : Int) (x : Int × Nat) : (h.setRefS s f x).Ok := by
  unfold HSt.setRefS
  split
  · refine H.upd s _ (fun o ho _ => ?_)
    have := H.fl o ho
    simpa [Oc.setR] using this
  · exact H
theorem HSt.Ok.setVal {h : HSt} (H : h.Ok) (s : Nat) (f : Int) (x : Nat) : (h.setValS s f x).Ok := by
  unfold HSt.setValS
  split
  · refine H.upd s _ (fun o ho _ => ?_)
    have := H.fl o ho
    simpa [Oc.setV] using this
  · exact H
theorem HSt.Ok.setIn {h : HSt} (H : h.Ok) (s : Nat) (d : Int) : (h.setInS s d).Ok := by
  unfold HSt.setInS
  split
  · next hd =>
    refine H.upd s _ (fun o ho _ => ?_)
    have := H.fl o ho
    refine ⟨rfl, this.1, this.2.1, this.2.2.1, ?_⟩
    show d.toNat ≤ 40
    omega
  · exact H
theorem HSt.makeR_ok {h : HSt} {r v : Int} (hE : (h.makeR r v).2 = 0) : 0 ≤ r ∧ r ≤ 7 ∧ 0 ≤ v ∧ v ≤ 7 ∧ h.cs.length < h.most ∧ h.last < 72057594037927935 ∧ (allocR h.bs (1 + r + v)).2 = 0 ∧ h.makeR r v = (h.last + 1, 0) := by
  unfold HSt.makeR at hE ⊢
  by_cases h1 : 0 ≤ r ∧ r ≤ 7 ∧ 0 ≤ v ∧ v ≤ 7
  · rw [if_pos h1] at hE ⊢
    by_cases h2 : h.most ≤ h.cs.length
    · rw [if_pos h2] at hE; cases hE
    rw [if_neg h2] at hE ⊢
    by_cases h3 : 72057594037927935 ≤ h.last
    · rw [if_pos h3] at hE; cases hE
    rw [if_neg h3] at hE ⊢
    by_cases h4 : (allocR h.bs (1 + r + v)).2 = 0
    · rw [if_pos h4]
      exact ⟨h1.1, h1.2.1, h1.2.2.1, h1.2.2.2, by omega, by omega, h4, rfl⟩
    · rw [if_neg h4] at hE
      exact absurd hE h4
  · rw [if_neg h1] at hE
    cases hE
theorem allocR_le {bs : List Bk} (hO : AO bs) (hl : bs.length ≤ 256) (s : Int) : (allocR bs s).1 ≤ 10000 := by
  unfold allocR
  split
  · omega
  · next hz =>
    cases hp : pickB (classN s) bs with
    | none => simp
    | some n =>
      obtain ⟨hn, _⟩ := pickB_lt hp
      have h1 := (placeN_spec bs[n].t (hO _ (List.getElem_mem hn)).lt).2.2
      have h2 : placeN bs[n].t * classN s ≤ 16 * 16 := Nat.mul_le_mul h1 (classN_ne hz).le
      simp only [getD_at hn]
      omega
theorem HSt.Ok.make {h : HSt} (H : h.Ok) (r v : Int) : (h.makeS r v).Ok := by
  unfold HSt.makeS
  split
  · next hE =>
    obtain ⟨h1, h2, h3, h4, h5, h6, h7, _⟩ := HSt.makeR_ok hE
    refine ⟨H.node, H.most, by show h.last + 1 ≤ _; omega, H.ao.alloc _, by rw [len_alloc]; exact H.len, ?_, ?_, ?_, ?_⟩
    · show (h.cs ++ [h.newO r v]).length ≤ h.most
      rw [List.length_append, List.length_singleton]
      omega
    · show (h.cs ++ [h.newO r v]).Pairwise _
      rw [List.pairwise_append]
      refine ⟨H.srt, List.pairwise_singleton _ _, fun a ha b hb => ?_⟩
      rw [List.mem_singleton] at hb
      subst hb
      have := H.le a ha
      show a.s < h.last + 1
      omega
    · intro o ho
      rcases List.mem_append.1 ho with ho | ho
      · have := H.le o ho
        exact ⟨this.1, by show o.s ≤ h.last + 1; omega⟩
      · rw [List.mem_singleton] at ho
        subst ho
        exact ⟨by show 1 ≤ h.last + 1; omega, Nat.le_refl _⟩
    · intro o ho
      rcases List.mem_append.1 ho with ho | ho
      · exact H.fl o ho
      · rw [List.mem_singleton] at ho
        subst ho
        refine ⟨?_, ?_, allocR_le H.ao H.len _, Nat.zero_le _⟩
        · show (List.replicate r.toNat ((0, 0) : Int × Nat)).length ≤ 7
          rw [List.length_replicate]
          omega
        · show (List.replicate v.toNat 0).length ≤ 7
          rw [List.length_replicate]
          omega
  · exact H
theorem HSt.Ok.free {h : HSt} (H : h.Ok) (s : Nat) : (h.freeS s).Ok := by
  unfold HSt.freeS
  cases hg : getC h.cs s with
  | none => exact H
  | some o =>
    refine ⟨H.node, H.most, H.last, H.ao.free _, by rw [len_free]; exact H.len, Nat.le_trans (List.length_filter_le _ _) H.cnt, H.srt.filter _, fun p hp => H.le p (List.mem_filter.1 hp).1, fun p hp => H.fl p (List.mem_filter.1 hp).1⟩
theorem HSt.Ok.new {node most last n : Nat} (h1 : node ≤ 64) (h2 : most ≤ 64) (h3 : last ≤ 72057594037927935) (h4 : n ≤ 256) : HSt.Ok ⟨node, most, last, List.replicate n bk0, []⟩ :=
  ⟨h1, h2, h3, AO.new n, by simpa using h4, Nat.zero_le _, List.Pairwise.nil, by simp, by simp⟩

/-- Of rising serials one is one object's. -/
theorem srt_uniq {cs : List Oc} (h : cs.Pairwise (fun a b => a.s < b.s)) {a b : Oc} (ha : a ∈ cs) (hb : b ∈ cs) (e : a.s = b.s) : a = b := by
  induction cs with
  | nil => cases ha
  | cons x l ih =>
    rw [List.pairwise_cons] at h
    rcases List.mem_cons.1 ha with e1 | h1
    · rcases List.mem_cons.1 hb with e2 | h2
      · rw [e1, e2]
      · have := h.1 b h2; rw [← e1] at this; omega
    · rcases List.mem_cons.1 hb with e2 | h2
      · have := h.1 a h1; rw [← e2] at this; omega
      · exact ih h.2 h1 h2
theorem getC_of {cs : List Oc} (h : cs.Pairwise (fun a b => a.s < b.s)) {o : Oc} (ho : o ∈ cs) : getC cs o.s = some o := by
  cases hg : getC cs o.s with
  | none => exact absurd rfl (getC_none hg o ho)
  | some p =>
    obtain ⟨h1, h2⟩ := getC_mem hg
    rw [srt_uniq h h1 ho h2]

end Go.Proofs.YtlabdbfmfejkaaaDoor
