import Derived.Test.YtdafpfdmnccelaaDoorHpOP
import Derived.Test.YtdafpfdmnccelaaDoorPbDP
import Derived.Test.YtdafpfdmnccelaaDoorPaTP
/- A sweep, reckoned: what a step answers and does; what is there behind the first k of n steps. No program's text is in it. -/
/- Graphs of objects with no references, as a slice of nils says them; what is there at the beginning. -/
namespace Go.Proofs.YtdafpfdmnccelaaDoor
open Go.RowKit

/-- Is there something to be met above pl, up to en? Is it marked? What a step answers, and what heap, paint and place become. -/
def swB (h : HSt) (pl en : Nat) : Bool := (nextR h.cs pl).2 && decide ((nextR h.cs pl).1 ≤ en)
def swK (h : HSt) (p : PSt) (pl : Nat) : Bool := (markR h p (nextR h.cs pl).1).2.2
def swR (h : HSt) (p : PSt) (pl en : Nat) : Nat × Bool := if swB h pl en then (if swK h p pl then (0, true) else ((nextR h.cs pl).1, true)) else (0, false)
def swH (h : HSt) (p : PSt) (pl en : Nat) : HSt := if swB h pl en && !swK h p pl then h.freeS (nextR h.cs pl).1 else h
def swP (h : HSt) (p : PSt) (pl en : Nat) : PSt := if swB h pl en && !swK h p pl then p.forget (nextR h.cs pl).1 else p
def swL (h : HSt) (pl en : Nat) : Nat := if swB h pl en then (nextR h.cs pl).1 else pl

theorem sw_no {h : HSt} {pl en : Nat} (p : PSt) (hb : swB h pl en = false) : swR h p pl en = (0, false) ∧ swH h p pl en = h ∧ swP h p pl en = p ∧ swL h pl en = pl := by
  unfold swR swH swP swL
  rw [hb]
  exact ⟨rfl, rfl, rfl, rfl⟩
theorem sw_mk {h : HSt} {pl en : Nat} {p : PSt} (hb : swB h pl en = true) (hk : swK h p pl = true) : swR h p pl en = (0, true) ∧ swH h p pl en = h ∧ swP h p pl en = p ∧ swL h pl en = (nextR h.cs pl).1 := by
  unfold swR swH swP swL
  rw [hb, hk]
  exact ⟨rfl, rfl, rfl, rfl⟩
theorem sw_fr {h : HSt} {pl en : Nat} {p : PSt} (hb : swB h pl en = true) (hk : swK h p pl = false) : swR h p pl en = ((nextR h.cs pl).1, true) ∧ swH h p pl en = h.freeS (nextR h.cs pl).1 ∧ swP h p pl en = p.forget (nextR h.cs pl).1 ∧ swL h pl en = (nextR h.cs pl).1 := by
  unfold swR swH swP swL
  rw [hb, hk]
  exact ⟨rfl, rfl, rfl, rfl⟩
/-- What is freed of the first k, rising. -/
def frdL (mk : Nat → Bool) : Nat → List Nat
  | 0 => []
  | k + 1 => if mk (k + 1) then frdL mk k else frdL mk k ++ [k + 1]
theorem frdL_succ (mk : Nat → Bool) (k : Nat) : frdL mk (k + 1) = if mk (k + 1) then frdL mk k else frdL mk k ++ [k + 1] := rfl
theorem frdL_len (mk : Nat → Bool) : ∀ k, (frdL mk k).length ≤ k
  | 0 => Nat.le_refl _
  | k + 1 => by
    have := frdL_len mk k
    unfold frdL
    split
    · omega
    · rw [List.length_append]
      show _ + 1 ≤ _
      omega
theorem frdL_pre (mk : Nat → Bool) (k : Nat) : ∀ n, k ≤ n → ∃ l, frdL mk n = frdL mk k ++ l := by
  intro n hn
  induction hn with
  | refl => exact ⟨[], by simp⟩
  | step h ih =>
    obtain ⟨l, hl⟩ := ih
    rw [frdL_succ]
    split
    · exact ⟨l, hl⟩
    · exact ⟨l ++ [_], by rw [hl, List.append_assoc]⟩
/-- Where one that is not marked is told. -/
theorem frdL_at {mk : Nat → Bool} {k n : Nat} (hk : k < n) (hm : mk (k + 1) = false) : (frdL mk n)[(frdL mk k).length]? = some (k + 1) := by
  obtain ⟨l, hl⟩ := frdL_pre mk (k + 1) n hk
  have e : frdL mk (k + 1) = frdL mk k ++ [k + 1] := by rw [frdL, hm]; rfl
  rw [hl, e, List.append_assoc, List.getElem?_append_right (Nat.le_refl _), Nat.sub_self]
  rfl
theorem frdL_mem {mk : Nat → Bool} {n : Nat} : ∀ s ∈ frdL mk n, 1 ≤ s ∧ s ≤ n := by
  induction n with
  | zero => intro s h; cases h
  | succ n ih =>
    intro s h
    unfold frdL at h
    split at h
    · have := ih s h; omega
    · rcases List.mem_append.1 h with h | h
      · have := ih s h; omega
      · rcases List.mem_singleton.1 h with rfl
        omega

/-- Behind the first k of n: what is there, and how many. -/
structure Swp (h : HSt) (n k : Nat) (mk : Nat → Bool) : Prop where
  ok : h.Ok
  ge : n ≤ h.last
  kn : k ≤ n
  has : ∀ s, (getC h.cs s).isSome = true ↔ (1 ≤ s ∧ s ≤ n ∧ (s ≤ k → mk s = true)) ∨ (n < s ∧ s ≤ h.last)
  cnt : h.cs.length + (frdL mk k).length = h.last

theorem getC_isSome {cs : List Oc} {s : Nat} : (getC cs s).isSome = true ↔ ∃ o ∈ cs, o.s = s := by
  constructor
  · intro h
    obtain ⟨o, ho⟩ := Option.isSome_iff_exists.1 h
    exact ⟨o, getC_mem ho⟩
  · rintro ⟨o, ho, e⟩
    cases hg : getC cs s with
    | none => exact absurd e (getC_none hg o ho)
    | some q => rfl
theorem getC_freeS (h : HSt) (s t : Nat) : (getC (h.freeS s).cs t).isSome = true ↔ (getC h.cs t).isSome = true ∧ t ≠ s := by
  rw [getC_isSome, getC_isSome]
  unfold HSt.freeS
  cases hg : getC h.cs s with
  | none =>
    refine ⟨fun ⟨o, ho, e⟩ => ⟨⟨o, ho, e⟩, fun e2 => getC_none hg o ho (e.trans e2)⟩, fun ⟨a, _⟩ => a⟩
  | some q =>
    constructor
    · rintro ⟨o, ho, e⟩
      obtain ⟨h1, h2⟩ := List.mem_filter.1 ho
      exact ⟨⟨o, h1, e⟩, fun e2 => by rw [e, e2] at h2; simp at h2⟩
    · rintro ⟨⟨o, ho, e⟩, hne⟩
      exact ⟨o, List.mem_filter.2 ⟨ho, by rw [e]; simpa using hne⟩, e⟩
theorem filter_len {cs : List Oc} (h : cs.Pairwise (fun a b => a.s < b.s)) {s : Nat} (hs : ∃ o ∈ cs, o.s = s) : (cs.filter (fun o => o.s != s)).length + 1 = cs.length := by
  induction cs with
  | nil => obtain ⟨o, ho, _⟩ := hs; cases ho
  | cons x l ih =>
    rw [List.pairwise_cons] at h
    by_cases e : x.s = s
    · have : (x :: l).filter (fun o => o.s != s) = l := by
        rw [List.filter_cons_of_neg (by simp [e]), List.filter_eq_self]
        intro o ho
        have := h.1 o ho
        simp only [bne_iff_ne, ne_eq]
        omega
      rw [this]
      rfl
    · rw [List.filter_cons_of_pos (by simpa using e), List.length_cons, List.length_cons]
      obtain ⟨o, ho, e2⟩ := hs
      rcases List.mem_cons.1 ho with rfl | ho
      · exact absurd e2 e
      · rw [ih h.2 ⟨o, ho, e2⟩]
theorem freeS_len {h : HSt} (H : h.Ok) {s : Nat} (hs : (getC h.cs s).isSome = true) : (h.freeS s).cs.length + 1 = h.cs.length := by
  have h2 := filter_len H.srt (getC_isSome.1 hs)
  obtain ⟨o, ho⟩ := Option.isSome_iff_exists.1 hs
  unfold HSt.freeS
  rw [ho]
  exact h2
theorem sw_freeS_last (h : HSt) (s : Nat) : (h.freeS s).last = h.last := by
  unfold HSt.freeS
  split <;> rfl

section
variable {h : HSt} {n k : Nat} {mk : Nat → Bool}
theorem Swp.make (x : Swp h n k mk) (r v : Int) : Swp (h.makeS r v) n k mk := by
  unfold HSt.makeS
  by_cases e : (h.makeR r v).2 = 0
  · rw [if_pos e]
    have ho := x.ok.make r v
    unfold HSt.makeS at ho
    rw [if_pos e] at ho
    refine ⟨ho, by have := x.ge; show n ≤ h.last + 1; omega, x.kn, fun s => ?_, ?_⟩
    · rw [getC_isSome]
      show (∃ o ∈ h.cs ++ [h.newO r v], o.s = s) ↔ _ ∨ (n < s ∧ s ≤ h.last + 1)
      have hx := x.has s
      rw [getC_isSome] at hx
      have hge := x.ge
      constructor
      · rintro ⟨o, ho, e⟩
        rcases List.mem_append.1 ho with ho | ho
        · rcases hx.1 ⟨o, ho, e⟩ with a | a
          · exact Or.inl a
          · exact Or.inr ⟨a.1, by omega⟩
        · rcases List.mem_singleton.1 ho with rfl
          have e' : h.last + 1 = s := e
          exact Or.inr ⟨by omega, by omega⟩
      · intro a
        by_cases e : s = h.last + 1
        · exact ⟨h.newO r v, List.mem_append.2 (Or.inr (List.mem_singleton.2 rfl)), e.symm⟩
        · obtain ⟨o, ho, e2⟩ := hx.2 (by
            rcases a with a | a
            · exact Or.inl a
            · exact Or.inr ⟨a.1, by omega⟩)
          exact ⟨o, List.mem_append.2 (Or.inl ho), e2⟩
    · have := x.cnt
      show (h.cs ++ [h.newO r v]).length + _ = h.last + 1
      rw [List.length_append]
      show h.cs.length + 1 + _ = _
      omega
  · rw [if_neg e]
    exact x
/-- The next one to be met. -/
theorem Swp.next (x : Swp h n k mk) (hk : k < n) : nextR h.cs k = (k + 1, true) := by
  obtain ⟨o, ho, e⟩ := getC_isSome.1 ((x.has (k + 1)).2 (Or.inl ⟨by omega, by omega, fun e => by omega⟩))
  have := nextR_some x.ok.srt ho (by omega : k < o.s) (fun p _ hp => by omega)
  rw [this, e]
theorem sw_stop (h : HSt) (n : Nat) : swB h n n = false := by
  unfold swB
  cases hb : (nextR h.cs n).2
  · rfl
  · have h2 : n < (nextR h.cs n).1 := by
      unfold nextR at hb ⊢
      cases hf : h.cs.find? (fun o => decide (n < o.s)) with
      | none => rw [hf] at hb; cases hb
      | some o => simpa using List.find?_some hf
    simp
    exact h2
theorem Swp.met (x : Swp h n k mk) (hk : k < n) : swB h k n = true ∧ swL h k n = k + 1 := by
  have e := x.next hk
  have hb : swB h k n = true := by
    unfold swB
    rw [e]
    simp
    omega
  refine ⟨hb, ?_⟩
  unfold swL
  rw [hb, e]
  rfl
theorem Swp.keep (x : Swp h n k mk) (hk : k < n) (hm : mk (k + 1) = true) : Swp h n (k + 1) mk := by
  refine ⟨x.ok, x.ge, hk, fun s => ?_, ?_⟩
  · rw [x.has s]
    refine ⟨fun a => a.imp (fun a => ⟨a.1, a.2.1, fun e => ?_⟩) id, fun a => a.imp (fun a => ⟨a.1, a.2.1, fun e => a.2.2 (by omega)⟩) id⟩
    by_cases e2 : s = k + 1
    · rw [e2]; exact hm
    · exact a.2.2 (by omega)
  · rw [← x.cnt, frdL, hm]
    rfl
theorem Swp.free (x : Swp h n k mk) (hk : k < n) (hm : mk (k + 1) = false) : Swp (h.freeS (k + 1)) n (k + 1) mk := by
  have hs : (getC h.cs (k + 1)).isSome = true := (x.has (k + 1)).2 (Or.inl ⟨by omega, by omega, fun e => by omega⟩)
  refine ⟨x.ok.free _, by rw [sw_freeS_last]; exact x.ge, hk, fun s => ?_, ?_⟩
  · rw [getC_freeS, x.has s, sw_freeS_last]
    constructor
    · rintro ⟨a, hne⟩
      exact a.imp (fun a => ⟨a.1, a.2.1, fun e => a.2.2 (by omega)⟩) id
    · intro a
      have hne : s ≠ k + 1 := by
        rintro rfl
        rcases a with a | a
        · rw [a.2.2 (Nat.le_refl _)] at hm; cases hm
        · omega
      exact ⟨a.imp (fun a => ⟨a.1, a.2.1, fun e => a.2.2 (by omega)⟩) id, hne⟩
  · have h1 := freeS_len x.ok hs
    have h2 := x.cnt
    rw [sw_freeS_last, frdL, hm]
    show _ + (frdL mk k ++ [k + 1]).length = _
    rw [List.length_append]
    show _ + ((frdL mk k).length + 1) = _
    omega
/-- What the marks are to say. -/
structure Mks (p : PSt) (n : Nat) (mk : Nat → Bool) : Prop where
  has : ∀ s, 1 ≤ s → s ≤ n → ((getA p.ma s).isSome = mk s)
theorem Swp.mark (x : Swp h n k mk) (hk : k < n) {p : PSt} (y : Mks p n mk) : swK h p k = mk (k + 1) := by
  unfold swK
  rw [x.next hk]
  show (markR h p (k + 1)).2.2 = _
  have hs : (getC h.cs (k + 1)).isSome = true := (x.has (k + 1)).2 (Or.inl ⟨by omega, by omega, fun e => by omega⟩)
  obtain ⟨o, ho⟩ := Option.isSome_iff_exists.1 hs
  rw [← y.has (k + 1) (by omega) (by omega)]
  unfold markR
  rw [ho]
  cases getA p.ma (k + 1) with
  | none => rfl
  | some q => rfl
theorem Mks.forget {p : PSt} (y : Mks p n mk) {s : Nat} (hm : mk s = false) : Mks (p.forget s) n mk := by
  refine ⟨fun t h1 h2 => ?_⟩
  show (getA (delA p.ma s) t).isSome = _
  rw [getA_del]
  by_cases e : t = s
  · rw [if_pos e, e, hm]
    rfl
  · rw [if_neg e]
    exact y.has t h1 h2
/-- A step, behind k of n. -/
theorem Swp.step (x : Swp h n k mk) (hk : k < n) {p : PSt} (y : Mks p n mk) :
    swR h p k n = (if mk (k + 1) then 0 else k + 1, true) ∧ swL h k n = k + 1 ∧ Swp (swH h p k n) n (k + 1) mk ∧ Mks (swP h p k n) n mk := by
  obtain ⟨h1, h2⟩ := x.met hk
  have h3 := x.mark hk y
  have h4 := x.next hk
  unfold swR swH swP
  rw [h1, h3, h4]
  cases hm : mk (k + 1)
  · exact ⟨rfl, h2, x.free hk hm, y.forget hm⟩
  · exact ⟨rfl, h2, x.keep hk hm, y⟩
theorem sw_none (h : HSt) (p : PSt) (n : Nat) : swR h p n n = (0, false) ∧ swL h n n = n ∧ swH h p n n = h ∧ swP h p n n = p := by
  have e := sw_stop h n
  unfold swR swH swP swL
  rw [e]
  exact ⟨rfl, rfl, rfl, rfl⟩
/-- What Object finds at the end; how many are there. -/
theorem Swp.there (x : Swp h n n mk) {s : Nat} (h1 : 1 ≤ s) (h2 : s ≤ n) : (getC h.cs s).isSome = mk s := by
  have := x.has s
  cases hm : mk s
  · cases hg : (getC h.cs s).isSome
    · rfl
    · rcases this.1 hg with a | a
      · have := a.2.2 h2; rw [hm] at this; cases this
      · omega
  · exact this.2 (Or.inl ⟨h1, h2, fun _ => hm⟩)
theorem Swp.all (x : Swp h n n mk) : h.cs.length = n - (frdL mk n).length + (h.last - n) := by
  have := x.cnt
  have := x.ge
  have := frdL_len mk n
  omega
/-- One more is marked. -/
theorem sw_push_ma (p : PSt) (s : Nat) : (p.push s).ma = p.ma := by unfold PSt.push; split <;> rfl
theorem sw_put_some {ma : List (Nat × (Nat × Bool))} {s : Nat} {v : Nat × Bool} (t : Nat) : (getA (putA ma s v) t).isSome = (decide (t = s) || (getA ma t).isSome) := by
  rw [getA_put]
  by_cases e : t = s
  · rw [if_pos e, decide_eq_true e]
    rfl
  · rw [if_neg e, decide_eq_false e]
    rfl
theorem own_some {h : HSt} {p : PSt} {s : Nat} (r : Nat) (hs : (getC h.cs s).isSome = true) (t : Nat) : (getA (p.own h s r).ma t).isSome = (decide (t = s) || (getA p.ma t).isSome) := by
  unfold PSt.own
  rw [if_pos hs]
  split
  · rw [sw_push_ma]
    exact sw_put_some t
  · next hg =>
    split
    · by_cases e : t = s
      · rw [e, hg]
        simp
      · rw [decide_eq_false e]
        rfl
    · split
      · exact sw_put_some t
      · rw [sw_push_ma]
        exact sw_put_some t
theorem Mks.shade {p : PSt} (y : Mks p n mk) (hn : h.node = 1) (hs : ∀ s, 1 ≤ s → s ≤ n → (getC h.cs s).isSome = true) {s : Nat} (hsn : s ≤ n) (hn2 : n ≤ 1000) (r : Int) : Mks (p.shade h (1, s) r) n (fun t => mk t || decide (t = s)) := by
  refine ⟨fun t h1 h2 => ?_⟩
  by_cases e0 : s = 0
  · have hne : decide (t = s) = false := decide_eq_false (by omega)
    have hnm : namesB (1, s) = false := by
      rw [e0]
      rfl
    unfold PSt.shade
    rw [hnm, hne, Bool.or_false]
    exact y.has t h1 h2
  · have hnm : namesB (1, s) = true := by
      unfold namesB
      simp
      omega
    unfold PSt.shade
    rw [hnm, if_pos rfl, if_pos (by rw [hn]; rfl), own_some _ (hs s (by omega) hsn), y.has t h1 h2, Bool.or_comm]
theorem Mks.none (M n : Nat) : Mks (PSt.new M) n (fun _ => false) := ⟨fun _ _ _ => rfl⟩
theorem Mks.like {p : PSt} {m' : Nat → Bool} (y : Mks p n mk) (e : ∀ s, 1 ≤ s → s ≤ n → mk s = m' s) : Mks p n m' := ⟨fun s h1 h2 => (y.has s h1 h2).trans (e s h1 h2)⟩
end
end Go.Proofs.YtdafpfdmnccelaaDoor

namespace Go.Proofs.YtdafpfdmnccelaaDoor
open Go.RowKit

def nilG (n : Nat) : Gr := ⟨List.replicate n (.slice none 0 0, []), [], []⟩
theorem nilG_gi {w : World} {b n : Nat} (hn : n ≤ 1000) (h : ∀ i, i < n → w.cell? ⟨b, i, none⟩ = some (.slice none 0 0)) : GI w (.slice (some ⟨b, 0, none⟩) n n) (.slice none 0 0) (.slice none 0 0) (nilG n) := by
  have hz : ∀ {α : Type} (f : α → List Value), WS w (.slice none 0 0) 1 f [] := fun f => ⟨none, 0, rfl, Nat.le_refl _, fun _ => rfl, fun h => absurd rfl h⟩
  have hl : (nilG n).refs.length = n := List.length_replicate
  refine ⟨⟨some ⟨b, 0, none⟩, n, by rw [hl], by omega, (fun e => by cases e), fun hne => ⟨b, 0, rfl, ?_, fun i hi j u hu => ?_⟩⟩, fun x hx => ?_, hz cB, hz cI, by show 0 ≤ _; omega, by show 0 ≤ _; omega⟩
  · by_cases hn : n = 0
    · exfalso
      rw [hn] at hne
      exact hne rfl
    · exact cell_lt (h 0 (by omega))
  · have hi' : i < n := by omega
    have hx : (nilG n).refs[i] = (.slice none 0 0, []) := List.getElem_replicate ..
    rw [hx] at hu
    match j, hu with
    | 0, hu =>
      cases hu
      have := h i hi'
      simpa using this
  · have hx' : x = (.slice none 0 0, []) := (List.mem_replicate.1 hx).2
    rw [hx']
    exact hz cI
theorem M2.swp {g : Gr} {n i k : Nat} {h : HSt} (m : M2 g n i k h) (ok : h.Ok) (mk : Nat → Bool) : Swp h n 0 mk := by
  refine ⟨ok, by rw [m.last]; exact Nat.le_refl _, Nat.zero_le _, fun s => ?_, ?_⟩
  · constructor
    · intro hs
      obtain ⟨o, ho, e⟩ := getC_isSome.1 hs
      have := ok.le o ho
      rw [m.last, e] at this
      exact Or.inl ⟨this.1, this.2, fun e => by omega⟩
    · rintro (⟨h1, h2, _⟩ | ⟨h1, h2⟩)
      · obtain ⟨o, ho, _⟩ := m.at_ (s - 1) (by omega)
        rw [show s - 1 + 1 = s by omega] at ho
        rw [ho]
        rfl
      · rw [m.last] at h2
        omega
  · rw [m.len, m.last]
    rfl
theorem nilG_len (n mo : Nat) (h : n ≤ mo) : min (nilG n).refs.length mo = n := by
  show min (List.replicate n _).length mo = n
  rw [List.length_replicate]
  omega
end Go.Proofs.YtdafpfdmnccelaaDoor
