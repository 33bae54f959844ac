import Derived.Test.YtebcigjnjapcgaaDoorPaTP
import Derived.Test.YtebcigjnjapcgaaDoorMkDP
import Derived.Test.YtebcigjnjapcgaaDoorPick
/- PaintTurns. -/
/- What shading and scanning keep: ranks fall, nothing is lost. -/
/- When nothing is grey each reference of a marked object leads to one that is marked, or met, with no greater rank. -/
/- Marking ends: how many steps. No program's text is in it. -/
/- Marking marks with the least rank: what each step keeps, what holds in the end. No program's text is in it. -/
/- The least ranks, reckoned by rounds: after so many rounds nothing changes any more. No program's text is in it. -/
/- A graph's heap, as marking meets it. No program's text is in it. -/
/- Two paints of one heap that were marked to the end have the same marks, and met the same. No program's text is in it. -/
/- Marking to the end; MarkEnds. -/
namespace Go.Proofs.YtebcigjnjapcgaaDoor
open Go.RowKit

theorem push_turns (p : PSt) (s : Nat) : (p.push s).turns = p.turns := by unfold PSt.push; split <;> rfl
theorem own_turns (h : HSt) (p : PSt) (s r : Nat) : (p.own h s r).turns = p.turns := by
  unfold PSt.own
  split
  · split
    · exact push_turns _ _
    · split
      · rfl
      · split
        · rfl
        · exact push_turns _ _
  · rfl
theorem meet_turns (p : PSt) (x : Int × Nat) (r : Nat) : (p.meet x r).turns = p.turns := by
  unfold PSt.meet
  split
  · rfl
  · split <;> rfl
theorem shade_turns (h : HSt) (p : PSt) (x : Int × Nat) (r : Int) : (p.shade h x r).turns = p.turns := by
  unfold PSt.shade
  split
  · split
    · exact own_turns _ _ _ _
    · exact meet_turns _ _ _
  · rfl
theorem all_turns (h : HSt) (l : List (Int × Nat)) (r : Nat) : ∀ p : PSt, (p.all h l r).turns = p.turns := by
  unfold PSt.all
  induction l with
  | nil => intro p; rfl
  | cons x l ih => intro p; rw [List.foldl_cons, ih, shade_turns]
theorem scan_turns (h : HSt) (p : PSt) (s : Nat) : (p.scan h s).turns = p.turns := by
  unfold PSt.scan
  split
  · rw [all_turns]
  · rfl
theorem markR_turn (h : HSt) (p : PSt) (s : Nat) : markR h p.turn s = (0, false, false) := by
  unfold markR
  have : getA p.turn.ma s = none := rfl
  rw [this]
  split
  · next h2 => cases h2
  · rfl

end Go.Proofs.YtebcigjnjapcgaaDoor

namespace Go.Proofs.YtebcigjnjapcgaaDoor
open Go.RowKit

/-- Ranks only fall, and nothing that is marked or met is lost. -/
structure Fall (p q : PSt) : Prop where
  ma : ∀ k m, getA p.ma k = some m → ∃ m', getA q.ma k = some m' ∧ m'.1 ≤ m.1
  me : p.me.length ≤ q.me.length
  ms : ∀ x r, getA p.me x = some r → ∃ r', getA q.me x = some r' ∧ r' ≤ r
theorem Fall.refl (p : PSt) : Fall p p := ⟨fun _ m h => ⟨m, h, Nat.le_refl _⟩, Nat.le_refl _, fun _ r h => ⟨r, h, Nat.le_refl _⟩⟩
theorem Fall.trans {a b c : PSt} (h1 : Fall a b) (h2 : Fall b c) : Fall a c := by
  refine ⟨fun k m hm => ?_, Nat.le_trans h1.me h2.me, fun x r hr => ?_⟩
  · obtain ⟨m1, e1, l1⟩ := h1.ma k m hm
    obtain ⟨m2, e2, l2⟩ := h2.ma k m1 e1
    exact ⟨m2, e2, by omega⟩
  · obtain ⟨m1, e1, l1⟩ := h1.ms x r hr
    obtain ⟨m2, e2, l2⟩ := h2.ms x m1 e1
    exact ⟨m2, e2, by omega⟩
/-- Ranks are within 0 and 40; what was met names; so many were met. -/
structure Good (p : PSt) : Prop where
  rk : ∀ k m, getA p.ma k = some m → m.1 ≤ 40
  nm : ∀ e ∈ p.me, namesB e.1 = true
theorem push_ma (p : PSt) (s : Nat) : (p.push s).ma = p.ma ∧ (p.push s).me = p.me := by unfold PSt.push; split <;> exact ⟨rfl, rfl⟩
theorem put_fall {p q : PSt} {s : Nat} {v : Nat × Bool} (hq : q.ma = putA p.ma s v) (hm : q.me = p.me) (hv : ∀ m, getA p.ma s = some m → v.1 ≤ m.1) : Fall p q := by
  refine ⟨fun k m h => ?_, by rw [hm]; exact Nat.le_refl _, fun x r h => ⟨r, by rw [hm]; exact h, Nat.le_refl _⟩⟩
  rw [hq, getA_put]
  by_cases e : k = s
  · subst e
    rw [if_pos rfl]
    exact ⟨v, rfl, hv m h⟩
  · rw [if_neg e]
    exact ⟨m, h, Nat.le_refl _⟩
theorem put_good {p q : PSt} {s : Nat} {v : Nat × Bool} (hq : q.ma = putA p.ma s v) (hm : q.me = p.me) (hv : v.1 ≤ 40) (H : Good p) : Good q := by
  refine ⟨fun k m h => ?_, by rw [hm]; exact H.nm⟩
  rw [hq, getA_put] at h
  by_cases e : k = s
  · rw [if_pos e] at h
    cases h
    exact hv
  · rw [if_neg e] at h
    exact H.rk k m h
theorem putA_mem {κ β : Type} [DecidableEq κ] {l : List (κ × β)} {x : κ} {v : β} {e : κ × β} (h : e ∈ putA l x v) : e ∈ l ∨ e = (x, v) := by
  unfold putA at h
  split at h
  · obtain ⟨p, hp, rfl⟩ := List.mem_map.1 h
    split
    · exact Or.inr rfl
    · exact Or.inl hp
  · rcases List.mem_append.1 h with h | h
    · exact Or.inl h
    · exact Or.inr (List.mem_singleton.1 h)
theorem own_keeps (h : HSt) (p : PSt) (s r : Nat) (hr : r ≤ 40) : Fall p (p.own h s r) ∧ (Good p → Good (p.own h s r)) ∧ (p.own h s r).me.length ≤ p.me.length + 1 := by
  unfold PSt.own
  split
  · cases hm : getA p.ma s with
    | none =>
      have e := push_ma { p with ma := putA p.ma s (r, true) } s
      exact ⟨put_fall e.1 e.2 (fun m h => by rw [hm] at h; cases h), put_good e.1 e.2 hr, by rw [e.2]; exact Nat.le_succ _⟩
    | some m =>
      obtain ⟨r0, g⟩ := m
      simp only
      by_cases h1 : r0 ≤ r
      · rw [if_pos h1]
        exact ⟨Fall.refl _, id, Nat.le_succ _⟩
      · rw [if_neg h1]
        have hv : ∀ m, getA p.ma s = some m → (r, true).1 ≤ m.1 := fun m h => by
          rw [hm] at h
          cases h
          show r ≤ r0
          omega
        cases g with
        | true =>
          rw [if_pos rfl]
          exact ⟨put_fall rfl rfl hv, put_good rfl rfl hr, Nat.le_succ _⟩
        | false =>
          rw [if_neg (by simp)]
          have e := push_ma { p with ma := putA p.ma s (r, true) } s
          exact ⟨put_fall e.1 e.2 hv, put_good e.1 e.2 hr, by rw [e.2]; exact Nat.le_succ _⟩
  · exact ⟨Fall.refl _, id, Nat.le_succ _⟩
theorem meet_keeps (p : PSt) (x : Int × Nat) (r : Nat) (hx : namesB x = true) : Fall p (p.meet x r) ∧ (Good p → Good (p.meet x r)) ∧ (p.meet x r).me.length ≤ p.me.length + 1 := by
  have hput : (∀ r0, getA p.me x = some r0 → r ≤ r0) → Fall p { p with me := putA p.me x r } ∧ (Good p → Good { p with me := putA p.me x r }) ∧ ({ p with me := putA p.me x r } : PSt).me.length ≤ p.me.length + 1 := fun hv => by
    refine ⟨⟨fun k m h => ⟨m, h, Nat.le_refl _⟩, (putA_len p.me x r).2, fun y r0 h => ?_⟩, fun H => ⟨H.rk, fun e he => ?_⟩, (putA_len p.me x r).1⟩
    · show ∃ r', getA (putA p.me x r) y = some r' ∧ _
      rw [getA_put]
      by_cases e : y = x
      · subst e
        rw [if_pos rfl]
        exact ⟨r, rfl, hv r0 h⟩
      · rw [if_neg e]
        exact ⟨r0, h, Nat.le_refl _⟩
    · rcases putA_mem he with h | h
      · exact H.nm e h
      · rw [h]; exact hx
  unfold PSt.meet
  cases hm : getA p.me x with
  | none => exact hput (fun r0 h => by rw [hm] at h; cases h)
  | some r0 =>
    simp only
    by_cases h1 : r < r0
    · rw [if_pos h1]
      exact hput (fun r1 h => by rw [hm] at h; cases h; omega)
    · rw [if_neg h1]
      exact ⟨Fall.refl _, id, Nat.le_succ _⟩
theorem shade_keeps (h : HSt) (p : PSt) (x : Int × Nat) (r : Int) : Fall p (p.shade h x r) ∧ (Good p → Good (p.shade h x r)) ∧ (p.shade h x r).me.length ≤ p.me.length + 1 := by
  unfold PSt.shade
  split
  · next hx =>
    split
    · exact own_keeps h p x.2 _ (clampR_le r)
    · exact meet_keeps p x _ hx
  · exact ⟨Fall.refl _, id, Nat.le_succ _⟩
theorem all_keeps (h : HSt) (r : Nat) : ∀ (l : List (Int × Nat)) (p : PSt), Fall p (p.all h l r) ∧ (Good p → Good (p.all h l r)) ∧ (p.all h l r).me.length ≤ p.me.length + l.length
  | [], p => ⟨Fall.refl _, id, Nat.le_refl _⟩
  | x :: l, p => by
    obtain ⟨a1, a2, a3⟩ := shade_keeps h p x (r : Int)
    obtain ⟨b1, b2, b3⟩ := all_keeps h r l (p.shade h x (r : Int))
    refine ⟨a1.trans b1, fun H => b2 (a2 H), ?_⟩
    have e : p.all h (x :: l) r = (p.shade h x (r : Int)).all h l r := rfl
    rw [e]
    simp only [List.length_cons]
    omega
theorem scan_keeps {h : HSt} (hok : h.Ok) (p : PSt) (s : Nat) : Fall p (p.scan h s) ∧ (Good p → Good (p.scan h s)) ∧ (p.scan h s).me.length ≤ p.me.length + 7 := by
  unfold PSt.scan
  split
  · next o r hg hm =>
    have hl := (hok.fl o (getC_mem hg).1).1
    obtain ⟨b1, b2, b3⟩ := all_keeps h r o.rf { p with ma := putA p.ma s (r, false) }
    have hf : Fall p { p with ma := putA p.ma s (r, false) } := put_fall rfl rfl (fun m h2 => by rw [hm] at h2; cases h2; exact Nat.le_refl _)
    refine ⟨hf.trans b1, fun H => b2 (put_good rfl rfl (by have := H.rk s _ hm; exact this) H), ?_⟩
    have e : ({ p with ma := putA p.ma s (r, false) } : PSt).me.length = p.me.length := rfl
    omega
  · exact ⟨Fall.refl _, id, by omega⟩
/-- What was told of the marks of 1 to n: 41 of one that was not marked. -/
def wasV (p : PSt) (k : Nat) : Nat := match getA p.ma k with
  | some (r, _) => r
  | none => 41
theorem new_good (M : Nat) : Good (PSt.new M) := ⟨fun k m h => (by cases h), fun e he => (by cases he)⟩
/-- Mark's answer, held against what was told. -/
theorem mark_falls {h : HSt} {p q : PSt} (hF : Fall p q) (hG : Good q) {k : Nat} (hk : (getC h.cs k).isSome = true) :
    ((markR h q k).2.2 = false ∧ wasV p k = 41 ∧ wasV q k = 41) ∨ ((markR h q k).2.2 = true ∧ (markR h q k).1 ≤ wasV p k ∧ wasV q k = (markR h q k).1) := by
  obtain ⟨o, ho⟩ := Option.isSome_iff_exists.1 hk
  unfold markR wasV
  rw [ho]
  cases hq : getA q.ma k with
  | none =>
    left
    cases hp : getA p.ma k with
    | none => exact ⟨rfl, rfl, rfl⟩
    | some m =>
      obtain ⟨m', e, _⟩ := hF.ma k m hp
      rw [hq] at e
      cases e
  | some m =>
    obtain ⟨r, g⟩ := m
    right
    refine ⟨rfl, ?_, rfl⟩
    cases hp : getA p.ma k with
    | none =>
      have := hG.rk k _ hq
      show r ≤ 41
      simp only at this
      omega
    | some m =>
      obtain ⟨r0, g0⟩ := m
      obtain ⟨m', e, l⟩ := hF.ma k _ hp
      rw [hq] at e
      cases e
      exact l

end Go.Proofs.YtebcigjnjapcgaaDoor

namespace Go.Proofs.YtebcigjnjapcgaaDoor
open Go.RowKit

/-- What x names is marked, or met, with no greater rank than r. -/
def Cov (p : PSt) (x : Int × Nat) (r : Nat) : Prop :=
  x = (0, 0) ∨ (x.1 = 1 ∧ ∃ m, getA p.ma x.2 = some m ∧ m.1 ≤ r) ∨ (1 < x.1 ∧ ∃ q, getA p.me x = some q ∧ q ≤ r)
theorem Cov.fall {p q : PSt} {x : Int × Nat} {r : Nat} (h : Cov p x r) (hF : Fall p q) : Cov q x r := by
  rcases h with h | ⟨h, m, h1, h2⟩ | ⟨h, m, h1, h2⟩
  · exact Or.inl h
  · obtain ⟨m', e, l⟩ := hF.ma _ _ h1
    exact Or.inr (Or.inl ⟨h, m', e, by omega⟩)
  · obtain ⟨m', e, l⟩ := hF.ms _ _ h1
    exact Or.inr (Or.inr ⟨h, m', e, by omega⟩)
/-- A reference leads nowhere, to an object, or out. -/
def RefOk (h : HSt) (x : Int × Nat) : Prop := x = (0, 0) ∨ (namesB x = true ∧ (x.1 = 1 → (getC h.cs x.2).isSome = true))
theorem own_cov (h : HSt) (p : PSt) (s r : Nat) (hs : (getC h.cs s).isSome = true) : ∃ m, getA (p.own h s r).ma s = some m ∧ m.1 ≤ r := by
  unfold PSt.own
  rw [if_pos hs]
  cases hm : getA p.ma s with
  | none =>
    have e := (push_ma { p with ma := putA p.ma s (r, true) } s).1
    exact ⟨(r, true), by rw [e]; show getA (putA p.ma s (r, true)) s = _; rw [getA_put, if_pos rfl], Nat.le_refl _⟩
  | some m =>
    obtain ⟨r0, g⟩ := m
    simp only
    by_cases h1 : r0 ≤ r
    · rw [if_pos h1]
      exact ⟨_, hm, h1⟩
    · rw [if_neg h1]
      cases g with
      | true =>
        rw [if_pos rfl]
        exact ⟨(r, true), by show getA (putA p.ma s (r, true)) s = _; rw [getA_put, if_pos rfl], Nat.le_refl _⟩
      | false =>
        rw [if_neg (by simp)]
        have e := (push_ma { p with ma := putA p.ma s (r, true) } s).1
        exact ⟨(r, true), by rw [e]; show getA (putA p.ma s (r, true)) s = _; rw [getA_put, if_pos rfl], Nat.le_refl _⟩
theorem meet_cov (p : PSt) (x : Int × Nat) (r : Nat) : ∃ q, getA (p.meet x r).me x = some q ∧ q ≤ r := by
  unfold PSt.meet
  cases hm : getA p.me x with
  | none => exact ⟨r, by show getA (putA p.me x r) x = _; rw [getA_put, if_pos rfl], Nat.le_refl _⟩
  | some r0 =>
    simp only
    by_cases h1 : r < r0
    · rw [if_pos h1]
      exact ⟨r, by show getA (putA p.me x r) x = _; rw [getA_put, if_pos rfl], Nat.le_refl _⟩
    · rw [if_neg h1]
      exact ⟨r0, hm, by omega⟩
theorem clampR_id {r : Nat} (h : r ≤ 40) : clampR (r : Int) = r := by unfold clampR; omega
theorem shade_cov {h : HSt} (hn : h.node = 1) (p : PSt) {x : Int × Nat} {r : Nat} (hr : r ≤ 40) (hx : RefOk h x) : Cov (p.shade h x (r : Int)) x r := by
  rcases hx with hx | ⟨h1, h2⟩
  · exact Or.inl hx
  · have hb := names_lt h1
    unfold PSt.shade
    rw [if_pos h1, clampR_id hr, hn]
    by_cases e : x.1 = ((1 : Nat) : Int)
    · rw [if_pos e]
      have e1 : x.1 = 1 := e
      obtain ⟨m, a, b⟩ := own_cov h p x.2 r (h2 e1)
      exact Or.inr (Or.inl ⟨e1, m, a, b⟩)
    · rw [if_neg e]
      obtain ⟨m, a, b⟩ := meet_cov p x r
      have e1 : ¬ x.1 = 1 := e
      exact Or.inr (Or.inr ⟨by omega, m, a, b⟩)
theorem all_cov {h : HSt} (hn : h.node = 1) {r : Nat} (hr : r ≤ 40) : ∀ (l : List (Int × Nat)) (p : PSt), (∀ x ∈ l, RefOk h x) → ∀ x ∈ l, Cov (p.all h l r) x r
  | [], _, _, x, hx => by cases hx
  | y :: l, p, hl, x, hx => by
    have e : p.all h (y :: l) r = (p.shade h y (r : Int)).all h l r := rfl
    rw [e]
    rcases List.mem_cons.1 hx with rfl | hx
    · exact (shade_cov hn p hr (hl x (by simp))).fall (all_keeps h r l _).1
    · exact all_cov hn hr l _ (fun z hz => hl z (by simp [hz])) x hx
/-- One that is black was black. -/
theorem own_black {h : HSt} {p : PSt} {s r k r0 : Nat} (hk : getA (p.own h s r).ma k = some (r0, false)) : getA p.ma k = some (r0, false) := by
  have hput : ∀ q : PSt, q.ma = putA p.ma s (r, true) → getA q.ma k = some (r0, false) → getA p.ma k = some (r0, false) := fun q hq h => by
    rw [hq, getA_put] at h
    by_cases e : k = s
    · rw [if_pos e] at h
      cases h
    · rw [if_neg e] at h
      exact h
  unfold PSt.own at hk
  split at hk
  · cases hm : getA p.ma s with
    | none =>
      rw [hm] at hk
      exact hput _ (push_ma { p with ma := putA p.ma s (r, true) } s).1 hk
    | some m =>
      obtain ⟨r1, g⟩ := m
      rw [hm] at hk
      simp only at hk
      by_cases h1 : r1 ≤ r
      · rw [if_pos h1] at hk
        exact hk
      · rw [if_neg h1] at hk
        cases g with
        | true =>
          rw [if_pos rfl] at hk
          exact hput _ rfl hk
        | false =>
          rw [if_neg (by simp)] at hk
          exact hput _ (push_ma { p with ma := putA p.ma s (r, true) } s).1 hk
  · exact hk
theorem meet_ma (p : PSt) (x : Int × Nat) (r : Nat) : (p.meet x r).ma = p.ma := by
  unfold PSt.meet
  split
  · rfl
  · split <;> rfl
theorem shade_black {h : HSt} {p : PSt} {x : Int × Nat} {r : Int} {k r0 : Nat} (hk : getA (p.shade h x r).ma k = some (r0, false)) : getA p.ma k = some (r0, false) := by
  unfold PSt.shade at hk
  split at hk
  · split at hk
    · exact own_black hk
    · rw [meet_ma] at hk
      exact hk
  · exact hk
theorem all_black {h : HSt} {r k r0 : Nat} : ∀ (l : List (Int × Nat)) (p : PSt), getA (p.all h l r).ma k = some (r0, false) → getA p.ma k = some (r0, false)
  | [], _, hk => hk
  | x :: l, p, hk => shade_black (all_black l (p.shade h x (r : Int)) hk)
/-- What every black object has. -/
def Tight (h : HSt) (p : PSt) : Prop := ∀ k o r, getC h.cs k = some o → getA p.ma k = some (r, false) → ∀ x ∈ o.rf, Cov p x r
theorem shade_tight {h : HSt} {p : PSt} (H : Tight h p) (x : Int × Nat) (r : Int) : Tight h (p.shade h x r) :=
  fun k o r0 ho hk y hy => (H k o r0 ho (shade_black hk) y hy).fall (shade_keeps h p x r).1
theorem scan_tight {h : HSt} (hn : h.node = 1) (hok : h.Ok) (hrf : ∀ k o, getC h.cs k = some o → ∀ x ∈ o.rf, RefOk h x) {p : PSt} (HG : Good p) (H : Tight h p) (s : Nat) : Tight h (p.scan h s) := by
  have hsk := scan_keeps hok p s
  unfold PSt.scan at hsk ⊢
  cases hg : getC h.cs s with
  | none => exact H
  | some o =>
    cases hm : getA p.ma s with
    | none => exact H
    | some m =>
      obtain ⟨r, gr⟩ := m
      cases gr with
      | false => exact H
      | true =>
        rw [hg, hm] at hsk
        simp only at hsk ⊢
        intro k o' r0 ho hk y hy
        have hb := all_black o.rf _ hk
        by_cases e : k = s
        · subst e
          have hb2 : getA (putA p.ma k (r, false)) k = some (r0, false) := hb
          rw [getA_put, if_pos rfl] at hb2
          cases hb2
          rw [hg] at ho
          cases ho
          exact all_cov hn (HG.rk k _ hm) o.rf _ (hrf k o hg) y hy
        · have hb2 : getA (putA p.ma s (r, false)) k = some (r0, false) := hb
          rw [getA_put, if_neg e] at hb2
          exact (H k o' r0 ho hb2 y hy).fall hsk.1
theorem new_tight (h : HSt) (M : Nat) : Tight h (PSt.new M) := fun k o r _ hk => by cases hk

/-- How much is left to be done at an object, at all of 1 to n. -/
def phi1 (p : PSt) (k : Nat) : Nat := match getA p.ma k with
  | none => 83
  | some (r, g) => 2 * r + (if g then 1 else 0)
def phi (n : Nat) (p : PSt) : Nat := ((List.range n).map (fun k => phi1 p (k + 1))).sum
theorem phi_mono {n : Nat} {p q : PSt} (h : ∀ k, phi1 q k ≤ phi1 p k) : phi n q ≤ phi n p := by
  unfold phi
  induction n with
  | zero => exact Nat.le_refl _
  | succ n ih =>
    rw [List.range_succ, List.map_append, List.sum_append, List.map_append, List.sum_append]
    have := h (n + 1)
    simp
    omega
theorem phi_less {n : Nat} {p q : PSt} (h : ∀ k, phi1 q k ≤ phi1 p k) {s : Nat} (h1 : 1 ≤ s) (h2 : s ≤ n) (h3 : phi1 q s < phi1 p s) : phi n q < phi n p := by
  induction n with
  | zero => omega
  | succ n ih =>
    have e : ∀ p, phi (n + 1) p = phi n p + phi1 p (n + 1) := fun p => by
      unfold phi
      rw [List.range_succ, List.map_append, List.sum_append]
      simp
    rw [e, e]
    by_cases hs : s = n + 1
    · subst hs
      have := phi_mono (n := n) h
      omega
    · have := ih (by omega)
      have := h (n + 1)
      omega
theorem own_phi {h : HSt} {p : PSt} {s r : Nat} (hr : r ≤ 40) : ∀ k, phi1 (p.own h s r) k ≤ phi1 p k := by
  intro k
  have hput : ∀ q : PSt, q.ma = putA p.ma s (r, true) → (∀ m, getA p.ma s = some m → r < m.1) → phi1 q k ≤ phi1 p k := fun q hq hv => by
    unfold phi1
    rw [hq, getA_put]
    by_cases e : k = s
    · subst e
      rw [if_pos rfl]
      simp only [if_true]
      cases hm : getA p.ma k with
      | none => simp only; omega
      | some m =>
        obtain ⟨r0, g⟩ := m
        have := hv _ hm
        simp only at this ⊢
        omega
    · rw [if_neg e]
      exact Nat.le_refl _
  unfold PSt.own
  split
  · cases hm : getA p.ma s with
    | none => exact hput _ (push_ma { p with ma := putA p.ma s (r, true) } s).1 (fun m h2 => by rw [hm] at h2; cases h2)
    | some m =>
      obtain ⟨r1, g⟩ := m
      simp only
      by_cases h1 : r1 ≤ r
      · rw [if_pos h1]
        exact Nat.le_refl _
      · rw [if_neg h1]
        have hv : ∀ m, getA p.ma s = some m → r < m.1 := fun m h2 => by
          rw [hm] at h2
          cases h2
          show r < r1
          omega
        cases g with
        | true =>
          rw [if_pos rfl]
          exact hput _ rfl hv
        | false =>
          rw [if_neg (by simp)]
          exact hput _ (push_ma { p with ma := putA p.ma s (r, true) } s).1 hv
  · exact Nat.le_refl _
theorem shade_phi (h : HSt) (p : PSt) (x : Int × Nat) (r : Int) : ∀ k, phi1 (p.shade h x r) k ≤ phi1 p k := by
  intro k
  unfold PSt.shade
  split
  · split
    · exact own_phi (clampR_le r) k
    · unfold phi1
      rw [meet_ma]
      exact Nat.le_refl _
  · exact Nat.le_refl _
theorem all_phi (h : HSt) (r : Nat) : ∀ (l : List (Int × Nat)) (p : PSt) (k : Nat), phi1 (p.all h l r) k ≤ phi1 p k
  | [], _, _ => Nat.le_refl _
  | x :: l, p, k => Nat.le_trans (all_phi h r l (p.shade h x (r : Int)) k) (shade_phi h p x r k)
/-- A scan does something, or nothing. -/
theorem scan_phi {n : Nat} (h : HSt) (p : PSt) {s : Nat} (h1 : 1 ≤ s) (h2 : s ≤ n) : (scanR h p s = true ∧ phi n (p.scan h s) < phi n p) ∨ (scanR h p s = false ∧ p.scan h s = p) := by
  unfold scanR PSt.scan
  cases hg : getC h.cs s with
  | none => exact Or.inr ⟨rfl, rfl⟩
  | some o =>
    cases hm : getA p.ma s with
    | none => exact Or.inr ⟨rfl, rfl⟩
    | some m =>
      obtain ⟨r, g⟩ := m
      cases g with
      | false => exact Or.inr ⟨rfl, rfl⟩
      | true =>
        left
        refine ⟨rfl, ?_⟩
        have hp1 : ∀ k, phi1 { p with ma := putA p.ma s (r, false) } k ≤ phi1 p k ∧ (k = s → phi1 { p with ma := putA p.ma s (r, false) } k < phi1 p k) := fun k => by
          unfold phi1
          show (match getA (putA p.ma s (r, false)) k with | none => 83 | some (r, g) => 2 * r + (if g then 1 else 0)) ≤ _ ∧ (_ → (match getA (putA p.ma s (r, false)) k with | none => 83 | some (r, g) => 2 * r + (if g then 1 else 0)) < _)
          rw [getA_put]
          by_cases e : k = s
          · subst e
            rw [if_pos rfl, hm]
            simp
          · rw [if_neg e]
            exact ⟨Nat.le_refl _, fun h => absurd h e⟩
        refine phi_less (fun k => Nat.le_trans (all_phi h r o.rf _ k) (hp1 k).1) h1 h2 (Nat.lt_of_le_of_lt (all_phi h r o.rf _ s) ((hp1 s).2 rfl))
/-- One that a scan does nothing at is not grey. -/
theorem scan_grey {h : HSt} {p : PSt} {s : Nat} (hs : (getC h.cs s).isSome = true) (h0 : scanR h p s = false) : ∀ m, getA p.ma s = some m → m.2 = false := by
  intro m hm
  unfold scanR at h0
  rw [hs, hm] at h0
  simpa using h0

end Go.Proofs.YtebcigjnjapcgaaDoor

namespace Go.Proofs.YtebcigjnjapcgaaDoor
open Go.RowKit

/-- How far a rank may still fall at an object, at all of 1 to n. -/
def v1 (p : PSt) (k : Nat) : Nat := match getA p.ma k with
  | none => 41
  | some (r, _) => r
def vee (n : Nat) (p : PSt) : Nat := ((List.range n).map (fun k => v1 p (k + 1))).sum
theorem vee_succ (n : Nat) (p : PSt) : vee (n + 1) p = vee n p + v1 p (n + 1) := by
  unfold vee
  rw [List.range_succ, List.map_append, List.sum_append]
  simp
theorem vee_mono {n : Nat} {p q : PSt} (h : ∀ k, v1 q k ≤ v1 p k) : vee n q ≤ vee n p := by
  induction n with
  | zero => exact Nat.le_refl _
  | succ n ih =>
    rw [vee_succ, vee_succ]
    have := h (n + 1)
    omega
theorem vee_less {n : Nat} {p q : PSt} (h : ∀ k, v1 q k ≤ v1 p k) {s : Nat} (h1 : 1 ≤ s) (h2 : s ≤ n) (h3 : v1 q s < v1 p s) : vee n q < vee n p := by
  induction n with
  | zero => omega
  | succ n ih =>
    rw [vee_succ, vee_succ]
    by_cases hs : s = n + 1
    · subst hs
      have := vee_mono (n := n) h
      omega
    · have := ih (by omega)
      have := h (n + 1)
      omega
theorem vee_new (n M : Nat) : vee n (PSt.new M) = 41 * n := by
  induction n with
  | zero => rfl
  | succ n ih =>
    rw [vee_succ, ih]
    show 41 * n + 41 = _
    omega
/-- What is left to be done at a paint: falls, pops, a pass. -/
def cost (n : Nat) (p : PSt) : Nat := (n + 1) * vee n p + p.stk.length + (if p.ov then n + 1 else 0)
theorem push_cost (n : Nat) (p : PSt) (s : Nat) : cost n (p.push s) ≤ cost n p + (n + 1) := by
  unfold PSt.push cost
  split
  · show (n + 1) * vee n p + (p.stk ++ [s]).length + (if p.ov then n + 1 else 0) ≤ _
    rw [List.length_append]
    simp only [List.length_cons, List.length_nil]
    omega
  · show (n + 1) * vee n p + p.stk.length + (if true then n + 1 else 0) ≤ _
    simp only [if_true]
    split <;> omega
theorem cost_ma {n : Nat} {p : PSt} {l : List (Nat × (Nat × Bool))} (h : vee n { p with ma := l } < vee n p) : cost n { p with ma := l } + (n + 1) ≤ cost n p := by
  unfold cost
  show (n + 1) * vee n { p with ma := l } + p.stk.length + (if p.ov then n + 1 else 0) + (n + 1) ≤ _
  have h2 : (n + 1) * (vee n { p with ma := l } + 1) ≤ (n + 1) * vee n p := Nat.mul_le_mul_left _ h
  rw [Nat.mul_add, Nat.mul_one] at h2
  omega
theorem own_cost {n : Nat} {h : HSt} (hin : ∀ k o, getC h.cs k = some o → 1 ≤ k ∧ k ≤ n) (p : PSt) (s r : Nat) (hr : r ≤ 40) : cost n (p.own h s r) ≤ cost n p := by
  unfold PSt.own
  split
  · next hs =>
    obtain ⟨o, ho⟩ := Option.isSome_iff_exists.1 hs
    obtain ⟨h1, h2⟩ := hin s o ho
    have hput : (∀ m, getA p.ma s = some m → r < m.1) → cost n { p with ma := putA p.ma s (r, true) } + (n + 1) ≤ cost n p := fun hv => by
      have hle : ∀ k, v1 { p with ma := putA p.ma s (r, true) } k ≤ v1 p k ∧ (k = s → v1 { p with ma := putA p.ma s (r, true) } k < v1 p k) := fun k => by
        unfold v1
        show (match getA (putA p.ma s (r, true)) k with | none => 41 | some (r, _) => r) ≤ _ ∧ (_ → (match getA (putA p.ma s (r, true)) k with | none => 41 | some (r, _) => r) < _)
        rw [getA_put]
        by_cases e : k = s
        · subst e
          rw [if_pos rfl]
          cases hm : getA p.ma k with
          | none => simp only; omega
          | some m =>
            obtain ⟨r0, g⟩ := m
            have := hv _ hm
            simp only at this ⊢
            omega
        · rw [if_neg e]
          exact ⟨Nat.le_refl _, fun h => absurd h e⟩
      exact cost_ma (vee_less (fun k => (hle k).1) h1 h2 ((hle s).2 rfl))
    cases hm : getA p.ma s with
    | none =>
      have a := hput (fun m h => by rw [hm] at h; cases h)
      have b := push_cost n { p with ma := putA p.ma s (r, true) } s
      simp only
      omega
    | some m =>
      obtain ⟨r0, g⟩ := m
      simp only
      by_cases h3 : r0 ≤ r
      · rw [if_pos h3]
        exact Nat.le_refl _
      · rw [if_neg h3]
        have a := hput (fun m h => by
          rw [hm] at h
          cases h
          show r < r0
          omega)
        cases g with
        | true =>
          rw [if_pos rfl]
          omega
        | false =>
          rw [if_neg (by simp)]
          have b := push_cost n { p with ma := putA p.ma s (r, true) } s
          omega
  · exact Nat.le_refl _
theorem meet_cost (n : Nat) (p : PSt) (x : Int × Nat) (r : Nat) : cost n (p.meet x r) = cost n p := by
  unfold PSt.meet
  split
  · rfl
  · split <;> rfl
theorem shade_cost {n : Nat} {h : HSt} (hin : ∀ k o, getC h.cs k = some o → 1 ≤ k ∧ k ≤ n) (p : PSt) (x : Int × Nat) (r : Int) : cost n (p.shade h x r) ≤ cost n p := by
  unfold PSt.shade
  split
  · split
    · exact own_cost hin p _ _ (clampR_le r)
    · exact Nat.le_of_eq (meet_cost n p _ _)
  · exact Nat.le_refl _
theorem all_cost {n : Nat} {h : HSt} (hin : ∀ k o, getC h.cs k = some o → 1 ≤ k ∧ k ≤ n) (r : Nat) : ∀ (l : List (Int × Nat)) (p : PSt), cost n (p.all h l r) ≤ cost n p
  | [], _ => Nat.le_refl _
  | x :: l, p => Nat.le_trans (all_cost hin r l (p.shade h x (r : Int))) (shade_cost hin p x r)
theorem scan_cost {n : Nat} {h : HSt} (hin : ∀ k o, getC h.cs k = some o → 1 ≤ k ∧ k ≤ n) (p : PSt) (s : Nat) : cost n (p.scan h s) ≤ cost n p := by
  unfold PSt.scan
  split
  · next o r _ hm =>
    refine Nat.le_trans (all_cost hin r o.rf _) ?_
    have hv : vee n { p with ma := putA p.ma s (r, false) } ≤ vee n p := vee_mono (fun k => by
      unfold v1
      show (match getA (putA p.ma s (r, false)) k with | none => 41 | some (r, _) => r) ≤ _
      rw [getA_put]
      by_cases e : k = s
      · subst e
        rw [if_pos rfl, hm]
        exact Nat.le_refl _
      · rw [if_neg e]
        exact Nat.le_refl _)
    unfold cost
    show (n + 1) * vee n { p with ma := putA p.ma s (r, false) } + p.stk.length + (if p.ov then n + 1 else 0) ≤ _
    have := Nat.mul_le_mul_left (n + 1) hv
    omega
  · exact Nat.le_refl _
/-- How many objects lie above. -/
def remC (cs : List Oc) (s : Nat) : Nat := cs.countP (fun o => decide (s < o.s))
theorem rem_le (cs : List Oc) (s : Nat) : remC cs s ≤ cs.length := List.countP_le_length
theorem rem_above {cs : List Oc} {s : Nat} {o : Oc} (h : aboveC cs s = some o) : remC cs o.s + 1 ≤ remC cs s := by
  obtain ⟨hm, hs⟩ := above_mem h
  unfold remC
  clear h
  induction cs with
  | nil => cases hm
  | cons c cs ih =>
    rw [List.countP_cons, List.countP_cons]
    have mono : ∀ l : List Oc, l.countP (fun q => decide (o.s < q.s)) ≤ l.countP (fun q => decide (s < q.s)) := fun l => List.countP_mono_left (fun q _ hq => by simp at hq ⊢; omega)
    rcases List.mem_cons.1 hm with rfl | hm
    · have := mono cs
      have h1 : decide (o.s < o.s) = false := by simp
      have h2 : decide (s < o.s) = true := by simpa using hs
      rw [h1, h2]
      simp only [if_true]
      have h3 : (if false = true then 1 else 0) = 0 := rfl
      rw [h3]
      omega
    · have := ih hm
      by_cases h1 : o.s < c.s
      · have e1 : decide (o.s < c.s) = true := by simpa using h1
        have e2 : decide (s < c.s) = true := by simp; omega
        rw [e1, e2]
        omega
      · have e1 : decide (o.s < c.s) = false := by simpa using h1
        rw [e1]
        have h3 : (if false = true then 1 else 0) = 0 := rfl
        rw [h3]
        omega
/-- What is left to be done. -/
def leftM (n : Nat) (h : HSt) (p : PSt) (m : MSt) : Nat := cost n p + (if m.on then remC h.cs m.pass else 0) + remC h.cs m.place
/-- What a marker has when nothing can be done. -/
structure Idle (h : HSt) (p : PSt) (m : MSt) : Prop where
  stk : p.stk = []
  ov : p.ov = false
  pass : m.on = true → ∀ o ∈ h.cs, o.s ≤ m.pass
  place : ∀ o ∈ h.cs, o.s ≤ m.place
theorem rest_cost (n : Nat) (p : PSt) (h : p.ov = true) : cost n p.rest + (n + 1) = cost n p := by
  unfold cost
  show (n + 1) * vee n p + p.stk.length + (if false then n + 1 else 0) + (n + 1) = _
  rw [h]
  simp
theorem tail_left {n : Nat} {h : HSt} (hin : ∀ k o, getC h.cs k = some o → 1 ≤ k ∧ k ≤ n) (hlen : h.cs.length ≤ n) (p : PSt) (m : MSt) (hs : p.stk = []) (hon : m.on = false) :
    ((tailR h p m).1 = true ∧ leftM n h (tailR h p m).2.1 (tailR h p m).2.2 + 1 ≤ leftM n h p m) ∨ (tailR h p m = (false, p, m) ∧ Idle h p m) := by
  unfold tailR
  cases ho : p.ov with
  | true =>
    left
    rw [if_pos rfl]
    refine ⟨rfl, ?_⟩
    unfold leftM
    have := rest_cost n p ho
    have := rem_le h.cs 0
    simp only [if_true]
    omega
  | false =>
    rw [if_neg (by simp)]
    cases ha : aboveC h.cs m.place with
    | none => exact Or.inr ⟨rfl, hs, ho, (fun e => by rw [hon] at e; cases e), above_none ha⟩
    | some o =>
      left
      refine ⟨rfl, ?_⟩
      have h1 := rem_above ha
      have h2 : cost n (if 0 < o.d then p.shade h ((h.node : Int), o.s) (o.d : Int) else p) ≤ cost n p := by
        split
        · exact shade_cost hin p _ _
        · exact Nat.le_refl _
      unfold leftM
      show cost n (if 0 < o.d then p.shade h ((h.node : Int), o.s) (o.d : Int) else p) + (if m.on then remC h.cs m.pass else 0) + remC h.cs o.s + 1 ≤ _
      omega
theorem pop_cost {n : Nat} {p : PSt} {a : Nat} (h : p.stk.getLast? = some a) : cost n p.pop + 1 = cost n p := by
  have hl : p.stk ≠ [] := by
    intro e
    rw [e] at h
    cases h
  have h2 : 0 < p.stk.length := List.length_pos_iff.2 hl
  unfold cost
  show (n + 1) * vee n p + p.stk.dropLast.length + (if p.ov then n + 1 else 0) + 1 = _
  rw [List.length_dropLast]
  omega
/-- A step that does something leaves less; one that does nothing changes nothing, and nothing is left. -/
theorem step_left {n : Nat} {h : HSt} (hin : ∀ k o, getC h.cs k = some o → 1 ≤ k ∧ k ≤ n) (hlen : h.cs.length ≤ n) (p : PSt) (m : MSt) :
    ((stepR h p m).1 = true ∧ leftM n h (stepR h p m).2.1 (stepR h p m).2.2 + 1 ≤ leftM n h p m) ∨ ((stepR h p m).1 = false ∧ (stepR h p m).2.1 = p ∧ Idle h p (stepR h p m).2.2 ∧ (stepR h p m).2.2.on = false) := by
  unfold stepR
  cases hg : p.stk.getLast? with
  | some a =>
    left
    refine ⟨rfl, ?_⟩
    have h1 := pop_cost (n := n) hg
    have h2 := scan_cost hin p.pop a
    unfold leftM
    show cost n (p.pop.scan h a) + (if m.on then remC h.cs m.pass else 0) + remC h.cs m.place + 1 ≤ cost n p + (if m.on then remC h.cs m.pass else 0) + remC h.cs m.place
    generalize (if m.on then remC h.cs m.pass else 0) = c
    omega
  | none =>
    have hs : p.stk = [] := by simpa using hg
    cases hon : m.on with
    | false =>
      rcases tail_left hin hlen p m hs hon with h1 | ⟨h1, h2⟩
      · exact Or.inl h1
      · right
        simp only [Bool.false_eq_true, if_false]
        rw [h1]
        exact ⟨rfl, rfl, h2, hon⟩
    | true =>
      simp only [if_true]
      cases ha : aboveC h.cs m.pass with
      | some o =>
        left
        refine ⟨rfl, ?_⟩
        have h1 := rem_above ha
        have h2 := scan_cost hin p o.s
        unfold leftM
        show cost n (p.scan h o.s) + (if true then remC h.cs o.s else 0) + remC h.cs m.place + 1 ≤ _
        rw [hon]
        simp only [if_true]
        omega
      | none =>
        have e0 : remC h.cs m.pass = 0 := by
          unfold remC
          rw [List.countP_eq_zero]
          intro o ho
          have := above_none ha o ho
          simp
          omega
        have e1 : leftM n h p ⟨m.place, m.pass, false⟩ = leftM n h p m := by
          unfold leftM
          rw [hon]
          simp only [if_true]
          rw [e0]
          rfl
        rcases tail_left hin hlen p ⟨m.place, m.pass, false⟩ hs rfl with h1 | ⟨h1, h2⟩
        · exact Or.inl ⟨h1.1, by rw [← e1]; exact h1.2⟩
        · right
          simp only
          rw [h1]
          exact ⟨rfl, rfl, h2, rfl⟩
theorem left_new (n : Nat) (h : HSt) (hlen : h.cs.length ≤ n) (M : Nat) : leftM n h (PSt.new M) ⟨0, 0, false⟩ ≤ 41 * n * (n + 1) + n := by
  unfold leftM cost
  rw [vee_new]
  have := rem_le h.cs 0
  show (n + 1) * (41 * n) + 0 + 0 + 0 + remC h.cs 0 ≤ _
  rw [Nat.mul_comm (n + 1)]
  omega
end Go.Proofs.YtebcigjnjapcgaaDoor

namespace Go.Proofs.YtebcigjnjapcgaaDoor
open Go.RowKit

/-- An object can be reached from a source of that rank. -/
inductive Rch (h : HSt) (S : Nat → Nat → Prop) : Nat → Nat → Prop where
  | src {k r : Nat} : S k r → Rch h S k r
  | ref {k r : Nat} {o : Oc} {x : Int × Nat} : Rch h S k r → getC h.cs k = some o → x ∈ o.rf → x.1 = 1 → Rch h S x.2 r
/-- What is marked or met can be reached from a source of that rank. -/
structure Snd (h : HSt) (S : Nat → Nat → Prop) (p : PSt) : Prop where
  ma : ∀ k m, getA p.ma k = some m → Rch h S k m.1
  me : ∀ x q, getA p.me x = some q → ∃ k o, getC h.cs k = some o ∧ x ∈ o.rf ∧ x.1 ≠ 1 ∧ Rch h S k q
/-- What a shading may turn: grey ones are new on the stack, or it is over. -/
structure GreyTo (h : HSt) (p q : PSt) : Prop where
  gr : ∀ k r, getA q.ma k = some (r, true) → (∃ r', getA p.ma k = some (r', true)) ∨ k ∈ q.stk ∨ q.ov = true
  st : ∀ k ∈ p.stk, k ∈ q.stk
  ov : p.ov = true → q.ov = true
  has : (∀ k m, getA p.ma k = some m → (getC h.cs k).isSome = true) → ∀ k m, getA q.ma k = some m → (getC h.cs k).isSome = true
theorem GreyTo.refl (h : HSt) (p : PSt) : GreyTo h p p := ⟨fun _ r e => Or.inl ⟨r, e⟩, fun _ e => e, id, id⟩
theorem GreyTo.trans {h : HSt} {a b c : PSt} (x : GreyTo h a b) (y : GreyTo h b c) : GreyTo h a c := by
  refine ⟨fun k r e => ?_, fun k e => y.st k (x.st k e), fun e => y.ov (x.ov e), fun e => y.has (x.has e)⟩
  rcases y.gr k r e with ⟨r', h1⟩ | h1 | h1
  · rcases x.gr k r' h1 with h2 | h2 | h2
    · exact Or.inl h2
    · exact Or.inr (Or.inl (y.st k h2))
    · exact Or.inr (Or.inr (y.ov h2))
  · exact Or.inr (Or.inl h1)
  · exact Or.inr (Or.inr h1)
theorem push_grey (h : HSt) {p : PSt} {l : List (Nat × (Nat × Bool))} {s : Nat} (hl : ∀ k r, getA l k = some (r, true) → k = s ∨ ∃ r', getA p.ma k = some (r', true)) (hh : (∀ k m, getA p.ma k = some m → (getC h.cs k).isSome = true) → ∀ k m, getA l k = some m → (getC h.cs k).isSome = true) : GreyTo h p (PSt.push { p with ma := l } s) := by
  unfold PSt.push
  split
  · refine ⟨fun k r e => ?_, fun k e => List.mem_append_left _ e, id, hh⟩
    rcases hl k r e with rfl | h1
    · exact Or.inr (Or.inl (List.mem_append_right _ (List.mem_singleton.2 rfl)))
    · exact Or.inl h1
  · exact ⟨fun k r e => Or.inr (Or.inr rfl), fun k e => e, fun _ => rfl, hh⟩
theorem own_greyTo (h : HSt) (p : PSt) (s r : Nat) : GreyTo h p (p.own h s r) := by
  unfold PSt.own
  split
  · next hs =>
    have hl : ∀ k r', getA (putA p.ma s (r, true)) k = some (r', true) → k = s ∨ ∃ r', getA p.ma k = some (r', true) := fun k r' e => by
      rw [getA_put] at e
      by_cases hk : k = s
      · exact Or.inl hk
      · rw [if_neg hk] at e
        exact Or.inr ⟨_, e⟩
    have hh : (∀ k m, getA p.ma k = some m → (getC h.cs k).isSome = true) → ∀ k m, getA (putA p.ma s (r, true)) k = some m → (getC h.cs k).isSome = true := fun H k m e => by
      rw [getA_put] at e
      by_cases hk : k = s
      · rw [hk]; exact hs
      · rw [if_neg hk] at e
        exact H k m e
    cases hm : getA p.ma s with
    | none => exact push_grey h hl hh
    | some m =>
      obtain ⟨r0, g⟩ := m
      simp only
      by_cases h1 : r0 ≤ r
      · rw [if_pos h1]
        exact GreyTo.refl _ _
      · rw [if_neg h1]
        cases g with
        | true =>
          rw [if_pos rfl]
          refine ⟨fun k r' e => ?_, fun _ e => e, id, hh⟩
          rcases hl k r' e with rfl | h2
          · exact Or.inl ⟨_, hm⟩
          · exact Or.inl h2
        | false =>
          rw [if_neg (by simp)]
          exact push_grey h hl hh
  · exact GreyTo.refl _ _
theorem meet_greyTo (h : HSt) (p : PSt) (x : Int × Nat) (r : Nat) : GreyTo h p (p.meet x r) := by
  have hm : GreyTo h p { p with me := putA p.me x r } := ⟨fun _ r e => Or.inl ⟨r, e⟩, fun _ e => e, id, id⟩
  unfold PSt.meet
  split
  · exact hm
  · split
    · exact hm
    · exact GreyTo.refl _ _
theorem shade_greyTo (h : HSt) (p : PSt) (x : Int × Nat) (r : Int) : GreyTo h p (p.shade h x r) := by
  unfold PSt.shade
  split
  · split
    · exact own_greyTo h p _ _
    · exact meet_greyTo h p _ _
  · exact GreyTo.refl _ _
theorem all_greyTo (h : HSt) (r : Nat) : ∀ (l : List (Int × Nat)) (p : PSt), GreyTo h p (p.all h l r)
  | [], _ => GreyTo.refl _ _
  | x :: l, p => (shade_greyTo h p x (r : Int)).trans (all_greyTo h r l _)
/-- Behind a scan that object is not grey but by the stack. -/
theorem scan_greyTo {h : HSt} {p : PSt} (hh : ∀ k m, getA p.ma k = some m → (getC h.cs k).isSome = true) (s : Nat) :
    GreyTo h p (p.scan h s) ∧ ∀ k r, getA (p.scan h s).ma k = some (r, true) → (k ≠ s ∧ ∃ r', getA p.ma k = some (r', true)) ∨ k ∈ (p.scan h s).stk ∨ (p.scan h s).ov = true := by
  unfold PSt.scan
  split
  · next o r ho hm =>
    have h1 := all_greyTo h r o.rf { p with ma := putA p.ma s (r, false) }
    have h0 : ∀ k r', getA (putA p.ma s (r, false)) k = some (r', true) → k ≠ s ∧ ∃ r'', getA p.ma k = some (r'', true) := fun k r' e => by
      rw [getA_put] at e
      by_cases hk : k = s
      · rw [if_pos hk] at e
        cases e
      · rw [if_neg hk] at e
        exact ⟨hk, _, e⟩
    refine ⟨⟨fun k r' e => ?_, h1.st, h1.ov, fun H => h1.has (fun k m e => ?_)⟩, fun k r' e => ?_⟩
    · rcases h1.gr k r' e with ⟨r'', h2⟩ | h2
      · exact Or.inl (h0 k r'' h2).2
      · exact Or.inr h2
    · have e' : getA (putA p.ma s (r, false)) k = some m := e
      rw [getA_put] at e'
      by_cases hk : k = s
      · rw [hk, ho]; rfl
      · rw [if_neg hk] at e'
        exact H k m e'
    · rcases h1.gr k r' e with ⟨r'', h2⟩ | h2
      · exact Or.inl (h0 k r'' h2)
      · exact Or.inr h2
  · next hno =>
    refine ⟨GreyTo.refl _ _, fun k r' e => Or.inl ⟨fun hk => ?_, _, e⟩⟩
    subst hk
    obtain ⟨o, ho⟩ := Option.isSome_iff_exists.1 (hh k _ e)
    exact hno o r' ho e
section
variable {h : HSt} {S : Nat → Nat → Prop} {p : PSt}
theorem own_snd (H : Snd h S p) {s r : Nat} (hs : Rch h S s r) : Snd h S (p.own h s r) := by
  have hl : ∀ k m, getA (putA p.ma s (r, true)) k = some m → Rch h S k m.1 := fun k m e => by
    rw [getA_put] at e
    by_cases hk : k = s
    · rw [if_pos hk] at e
      cases e
      rw [hk]
      exact hs
    · rw [if_neg hk] at e
      exact H.ma k m e
  have hp : Snd h S (PSt.push { p with ma := putA p.ma s (r, true) } s) := by
    obtain ⟨a, b⟩ := push_ma { p with ma := putA p.ma s (r, true) } s
    exact ⟨by rw [a]; exact hl, by rw [b]; exact H.me⟩
  unfold PSt.own
  split
  · cases hm : getA p.ma s with
    | none => exact hp
    | some m =>
      obtain ⟨r0, g⟩ := m
      simp only
      by_cases h1 : r0 ≤ r
      · rw [if_pos h1]
        exact H
      · rw [if_neg h1]
        cases g with
        | true =>
          rw [if_pos rfl]
          exact ⟨hl, H.me⟩
        | false =>
          rw [if_neg (by simp)]
          exact hp
  · exact H
theorem meet_snd (H : Snd h S p) {x : Int × Nat} {k r : Nat} {o : Oc} (ho : getC h.cs k = some o) (hx : x ∈ o.rf) (hx1 : x.1 ≠ 1) (hk : Rch h S k r) : Snd h S (p.meet x r) := by
  have hl : Snd h S { p with me := putA p.me x r } := ⟨H.ma, fun y q e => by
    have e' : getA (putA p.me x r) y = some q := e
    rw [getA_put] at e'
    by_cases hy : y = x
    · rw [if_pos hy] at e'
      cases e'
      rw [hy]
      exact ⟨k, o, ho, hx, hx1, hk⟩
    · rw [if_neg hy] at e'
      exact H.me y q e'⟩
  unfold PSt.meet
  split
  · exact hl
  · split
    · exact hl
    · exact H
theorem shade_snd (hn : h.node = 1) (H : Snd h S p) {x : Int × Nat} {k r : Nat} {o : Oc} (hr : r ≤ 40) (ho : getC h.cs k = some o) (hx : x ∈ o.rf) (hk : Rch h S k r) : Snd h S (p.shade h x (r : Int)) := by
  unfold PSt.shade
  rw [clampR_id hr, hn]
  split
  · split
    · next e => exact own_snd H (Rch.ref hk ho hx e)
    · next e => exact meet_snd H ho hx e hk
  · exact H
theorem all_snd (hn : h.node = 1) {k r : Nat} {o : Oc} (hr : r ≤ 40) (ho : getC h.cs k = some o) (hk : Rch h S k r) : ∀ (l : List (Int × Nat)) (p : PSt), (∀ x ∈ l, x ∈ o.rf) → Snd h S p → Snd h S (p.all h l r)
  | [], _, _, H => H
  | x :: l, p, hl, H => all_snd hn hr ho hk l (p.shade h x (r : Int)) (fun y hy => hl y (by simp [hy])) (shade_snd hn H hr ho (hl x (by simp)) hk)
theorem scan_snd (hn : h.node = 1) (HG : Good p) (H : Snd h S p) (s : Nat) : Snd h S (p.scan h s) := by
  unfold PSt.scan
  split
  · next o r ho hm =>
    have hk := H.ma s _ hm
    refine all_snd hn (HG.rk s _ hm) ho hk o.rf _ (fun _ e => e) ⟨fun k m e => ?_, H.me⟩
    have e' : getA (putA p.ma s (r, false)) k = some m := e
    rw [getA_put] at e'
    by_cases hks : k = s
    · rw [if_pos hks] at e'
      cases e'
      rw [hks]
      exact hk
    · rw [if_neg hks] at e'
      exact H.ma k m e'
  · exact H
end
/-- What marking keeps. -/
structure MI (h : HSt) (S : Nat → Nat → Prop) (p : PSt) (m : MSt) : Prop where
  snd : Snd h S p
  has : ∀ k m, getA p.ma k = some m → (getC h.cs k).isSome = true
  grey : ∀ k r, getA p.ma k = some (r, true) → k ∈ p.stk ∨ p.ov = true ∨ (m.on = true ∧ m.pass < k)
  plc : ∀ o ∈ h.cs, o.s ≤ m.place → 0 < o.d → ∃ mk, getA p.ma o.s = some mk ∧ mk.1 ≤ o.d
  good : Good p
  tight : Tight h p
/-- What the heap has. -/
structure MH (h : HSt) (S : Nat → Nat → Prop) : Prop where
  node : h.node = 1
  ok : h.Ok
  rf : ∀ k o, getC h.cs k = some o → ∀ x ∈ o.rf, RefOk h x
  inn : ∀ o ∈ h.cs, 0 < o.d → S o.s o.d
  names : ∀ o ∈ h.cs, namesB (1, o.s) = true
section
variable {h : HSt} {S : Nat → Nat → Prop} {p : PSt} {m : MSt}
theorem MI.new (h : HSt) (S : Nat → Nat → Prop) (ok : h.Ok) (M : Nat) : MI h S (PSt.new M) ⟨0, 0, false⟩ := by
  refine ⟨⟨fun k m e => (by cases e), fun x q e => (by cases e)⟩, fun k m e => (by cases e), fun k r e => (by cases e), fun o ho hl => ?_, ⟨fun k m e => (by cases e), fun e he => (by cases he)⟩, new_tight h M⟩
  have := (ok.le o ho).1
  have hl : o.s ≤ 0 := hl
  omega
/-- A source is shaded. -/
theorem MI.src (H : MI h S p m) (hh : MH h S) {s r : Nat} (hr : r ≤ 40) (hs : S s r) : MI h S (p.shade h (1, s) (r : Int)) m := by
  have hF := shade_keeps h p (1, s) (r : Int)
  have hG := shade_greyTo h p (1, s) (r : Int)
  refine ⟨?_, hG.has H.has, fun k r' e => ?_, fun o ho hl hd => ?_, hF.2.1 H.good, shade_tight H.tight _ _⟩
  · unfold PSt.shade
    rw [clampR_id hr, hh.node]
    split
    · split
      · exact own_snd H.snd (Rch.src hs)
      · next e => exact absurd rfl e
    · exact H.snd
  · rcases hG.gr k r' e with ⟨r'', h1⟩ | h1 | h1
    · rcases H.grey k r'' h1 with h2 | h2 | h2
      · exact Or.inl (hG.st k h2)
      · exact Or.inr (Or.inl (hG.ov h2))
      · exact Or.inr (Or.inr h2)
    · exact Or.inl h1
    · exact Or.inr (Or.inl h1)
  · obtain ⟨mk, e1, e2⟩ := H.plc o ho hl hd
    obtain ⟨mk', e3, e4⟩ := hF.1.ma _ _ e1
    exact ⟨mk', e3, by omega⟩
theorem MH.rank (p : PSt) (hh : MH h S) {s r : Nat} (hr : r ≤ 40) (hs : (getC h.cs s).isSome = true) : ∃ mk, getA (p.shade h (1, s) (r : Int)).ma s = some mk ∧ mk.1 ≤ r := by
  obtain ⟨o, ho⟩ := Option.isSome_iff_exists.1 hs
  obtain ⟨h1, h2⟩ := getC_mem ho
  have hn := hh.names o h1
  rw [h2] at hn
  rcases shade_cov hh.node p (x := (1, s)) hr (Or.inr ⟨hn, fun _ => hs⟩) with e | ⟨_, e⟩ | ⟨e, _⟩
  · cases e
  · exact e
  · exact absurd (show (1 : Int) < 1 from e) (by decide)
/-- A scan, ahead of which all grey ones but that one are covered. -/
theorem MI.scan' {q : PSt} {m' : MSt} {s : Nat} (hh : MH h S) (hsnd : Snd h S q) (hhas : ∀ k m, getA q.ma k = some m → (getC h.cs k).isSome = true) (hg : ∀ k r, k ≠ s → getA q.ma k = some (r, true) → k ∈ q.stk ∨ q.ov = true ∨ (m'.on = true ∧ m'.pass < k)) (hplc : ∀ o ∈ h.cs, o.s ≤ m'.place → 0 < o.d → ∃ mk, getA q.ma o.s = some mk ∧ mk.1 ≤ o.d) (hgood : Good q) (ht : Tight h q) : MI h S (q.scan h s) m' := by
  obtain ⟨g1, g2⟩ := scan_greyTo hhas s
  have hF := scan_keeps hh.ok q s
  refine ⟨scan_snd hh.node hgood hsnd s, g1.has hhas, fun k r e => ?_, fun o ho hl hd => ?_, hF.2.1 hgood, scan_tight hh.node hh.ok hh.rf hgood ht s⟩
  · rcases g2 k r e with ⟨h1, r', h2⟩ | h1 | h1
    · rcases hg k r' h1 h2 with h3 | h3 | h3
      · exact Or.inl (g1.st k h3)
      · exact Or.inr (Or.inl (g1.ov h3))
      · exact Or.inr (Or.inr h3)
    · exact Or.inl h1
    · exact Or.inr (Or.inl h1)
  · obtain ⟨mk, e1, e2⟩ := hplc o ho hl hd
    obtain ⟨mk', e3, e4⟩ := hF.1.ma _ _ e1
    exact ⟨mk', e3, by omega⟩
theorem MI.tail (H : MI h S p m) (hh : MH h S) : MI h S (tailR h p m).2.1 (tailR h p m).2.2 := by
  unfold tailR
  split
  · refine ⟨⟨H.snd.ma, H.snd.me⟩, H.has, fun k r e => ?_, H.plc, ⟨H.good.rk, H.good.nm⟩, H.tight⟩
    obtain ⟨o, ho⟩ := Option.isSome_iff_exists.1 (H.has k _ e)
    obtain ⟨h1, h2⟩ := getC_mem ho
    have := (hh.ok.le o h1).1
    refine Or.inr (Or.inr ⟨rfl, ?_⟩)
    show 0 < k
    omega
  · split
    · exact H
    · next o ha =>
      obtain ⟨hm, hl⟩ := above_mem ha
      have hG : ∀ (q : PSt), (∀ k r, getA q.ma k = some (r, true) → k ∈ q.stk ∨ q.ov = true ∨ (m.on = true ∧ m.pass < k)) → ∀ k r, getA q.ma k = some (r, true) → k ∈ q.stk ∨ q.ov = true ∨ ((⟨o.s, m.pass, m.on⟩ : MSt).on = true ∧ (⟨o.s, m.pass, m.on⟩ : MSt).pass < k) := fun _ h => h
      by_cases hd : 0 < o.d
      · rw [if_pos hd, hh.node]
        have H2 := H.src hh (hh.ok.fl o hm).2.2.2 (hh.inn o hm hd)
        have hc : (getC h.cs o.s).isSome = true := by rw [getC_of_mem hh.ok hm]; rfl
        refine ⟨H2.snd, H2.has, hG _ H2.grey, fun q hq hl2 hd2 => ?_, H2.good, H2.tight⟩
        by_cases e : q.s ≤ m.place
        · exact H2.plc q hq e hd2
        · have h3 := above_least hh.ok.srt ha q hq (by omega)
          have hl3 : q.s ≤ o.s := hl2
          have h4 : q.s = o.s := by omega
          have h5 : q = o := by
            have a := getC_of_mem hh.ok hq
            rw [h4, getC_of_mem hh.ok hm] at a
            cases a
            rfl
          rw [h5]
          exact MH.rank p hh (hh.ok.fl o hm).2.2.2 hc
      · rw [if_neg hd]
        refine ⟨H.snd, H.has, hG _ H.grey, fun q hq hl2 hd2 => ?_, H.good, H.tight⟩
        by_cases e : q.s ≤ m.place
        · exact H.plc q hq e hd2
        · have h3 := above_least hh.ok.srt ha q hq (by omega)
          have hl3 : q.s ≤ o.s := hl2
          have h4 : q.s = o.s := by omega
          have h5 : q = o := by
            have a := getC_of_mem hh.ok hq
            rw [h4, getC_of_mem hh.ok hm] at a
            cases a
            rfl
          rw [h5] at hd2
          exact absurd hd2 hd
theorem MI.step (H : MI h S p m) (hh : MH h S) : MI h S (stepR h p m).2.1 (stepR h p m).2.2 := by
  unfold stepR
  cases hg : p.stk.getLast? with
  | some a =>
    have hst : ∀ k ∈ p.stk, k ≠ a → k ∈ p.pop.stk := fun k hk hne => by
      have e : p.stk = p.stk.dropLast ++ [a] := by
        have hem : p.stk ≠ [] := fun e => by rw [e] at hg; cases hg
        rw [List.getLast?_eq_some_getLast hem] at hg
        cases hg
        exact (List.dropLast_concat_getLast hem).symm
      rw [e] at hk
      rcases List.mem_append.1 hk with h1 | h1
      · exact h1
      · exact absurd (List.mem_singleton.1 h1) hne
    refine MI.scan' hh ⟨H.snd.ma, H.snd.me⟩ H.has (fun k r hne e => ?_) H.plc ⟨H.good.rk, H.good.nm⟩ H.tight
    rcases H.grey k r e with h1 | h1 | h1
    · exact Or.inl (hst k h1 hne)
    · exact Or.inr (Or.inl h1)
    · exact Or.inr (Or.inr h1)
  | none =>
    cases hon : m.on with
    | false =>
      simp only [Bool.false_eq_true, if_false]
      exact H.tail hh
    | true =>
      simp only [if_true]
      cases ha : aboveC h.cs m.pass with
      | some o =>
        refine MI.scan' (m' := ⟨m.place, o.s, true⟩) hh H.snd H.has (fun k r hne e => ?_) H.plc H.good H.tight
        rcases H.grey k r e with h1 | h1 | ⟨_, h1⟩
        · exact Or.inl h1
        · exact Or.inr (Or.inl h1)
        · refine Or.inr (Or.inr ⟨rfl, ?_⟩)
          obtain ⟨q, hq⟩ := Option.isSome_iff_exists.1 (H.has k _ e)
          obtain ⟨q1, q2⟩ := getC_mem hq
          have := above_least hh.ok.srt ha q q1 (by omega)
          show o.s < k
          omega
      | none =>
        refine MI.tail (m := ⟨m.place, m.pass, false⟩) ⟨H.snd, H.has, fun k r e => ?_, H.plc, H.good, H.tight⟩ hh
        rcases H.grey k r e with h1 | h1 | ⟨_, h1⟩
        · exact Or.inl h1
        · exact Or.inr (Or.inl h1)
        · obtain ⟨q, hq⟩ := Option.isSome_iff_exists.1 (H.has k _ e)
          obtain ⟨q1, q2⟩ := getC_mem hq
          have := above_none ha q q1
          omega
/-- In the end: nothing is grey, and all that can be reached is marked with no greater rank. -/
theorem MI.done (H : MI h S p m) (hI : Idle h p m) : ∀ k mk, getA p.ma k = some mk → mk.2 = false := by
  intro k mk e
  obtain ⟨r, g⟩ := mk
  cases g with
  | false => rfl
  | true =>
    rcases H.grey k r e with h1 | h1 | ⟨h0, h1⟩
    · rw [hI.stk] at h1
      cases h1
    · rw [hI.ov] at h1
      cases h1
    · obtain ⟨q, hq⟩ := Option.isSome_iff_exists.1 (H.has k _ e)
      obtain ⟨q1, q2⟩ := getC_mem hq
      have := hI.pass h0 q q1
      omega
theorem MI.least (H : MI h S p m) (hI : Idle h p m) (hsrc : ∀ k r, S k r → (∃ mk, getA p.ma k = some mk ∧ mk.1 ≤ r) ∨ ∃ o ∈ h.cs, o.s = k ∧ 0 < o.d ∧ o.d ≤ r) : ∀ k r, Rch h S k r → ∃ mk, getA p.ma k = some mk ∧ mk.1 ≤ r := by
  intro k r hk
  induction hk with
  | src hs =>
    rcases hsrc _ _ hs with h1 | ⟨o, ho, h2, h3, h4⟩
    · exact h1
    · obtain ⟨mk, e1, e2⟩ := H.plc o ho (hI.place o ho) h3
      rw [← h2]
      exact ⟨mk, e1, by omega⟩
  | @ref k r o x _ ho hx hx1 ih =>
    obtain ⟨⟨r0, g⟩, e1, e2⟩ := ih
    have hg : g = false := H.done hI k _ e1
    subst hg
    rcases H.tight k o r0 ho e1 x hx with e | ⟨_, mk, e3, e4⟩ | ⟨e, _⟩
    · rw [e] at hx1
      cases hx1
    · exact ⟨mk, e3, Nat.le_trans e4 e2⟩
    · omega
/-- What was met: with the least rank of those that lead to it. -/
theorem MI.met (H : MI h S p m) (hI : Idle h p m) {k r : Nat} {o : Oc} {x : Int × Nat} (ho : getC h.cs k = some o) (hx : x ∈ o.rf) (hx1 : 1 < x.1) {mk : Nat × Bool} (hm : getA p.ma k = some mk) (hr : mk.1 = r) : ∃ q, getA p.me x = some q ∧ q ≤ r := by
  obtain ⟨r0, g⟩ := mk
  have hg : g = false := H.done hI k _ hm
  subst hg
  rcases H.tight k o r0 ho hm x hx with e | ⟨e, _⟩ | ⟨_, q, e3, e4⟩
  · rw [e] at hx1
    exact absurd hx1 (by decide)
  · omega
  · exact ⟨q, e3, by rw [← hr]; exact e4⟩
end
end Go.Proofs.YtebcigjnjapcgaaDoor

namespace Go.Proofs.YtebcigjnjapcgaaDoor
open Go.RowKit

/-- Those of no greater rank than v lead to none but such. -/
def ShutV (E : Nat → Nat → Prop) (f : Nat → Int) (v : Int) : Prop := ∀ j x, 0 ≤ f j → f j ≤ v → E j x → 0 ≤ f x ∧ f x ≤ v
/-- How many have a rank of no more than v. -/
def cntV (n : Nat) (f : Nat → Int) (v : Int) : Nat := (List.range n).countP (fun j => decide (0 ≤ f (j + 1) ∧ f (j + 1) ≤ v))
theorem cnt_succ (n : Nat) (f : Nat → Int) (v : Int) : cntV (n + 1) f v = cntV n f v + (if 0 ≤ f (n + 1) ∧ f (n + 1) ≤ v then 1 else 0) := by
  unfold cntV
  rw [List.range_succ, List.countP_append, List.countP_cons, List.countP_nil]
  simp
theorem cntV_le (n : Nat) (f : Nat → Int) (v : Int) : cntV n f v ≤ n := by
  unfold cntV
  have := List.countP_le_length (p := fun j => decide (0 ≤ f (j + 1) ∧ f (j + 1) ≤ v)) (l := List.range n)
  simpa using this
theorem cnt_mono {n : Nat} {f g : Nat → Int} {v : Int} (h : ∀ j, 0 ≤ f j → f j ≤ v → 0 ≤ g j ∧ g j ≤ v) : cntV n f v ≤ cntV n g v := by
  induction n with
  | zero => exact Nat.le_refl _
  | succ n ih =>
    rw [cnt_succ, cnt_succ]
    by_cases e : 0 ≤ f (n + 1) ∧ f (n + 1) ≤ v
    · rw [if_pos e, if_pos (h _ e.1 e.2)]
      omega
    · rw [if_neg e]
      omega
theorem cnt_more {n : Nat} {f g : Nat → Int} {v : Int} (h : ∀ j, 0 ≤ f j → f j ≤ v → 0 ≤ g j ∧ g j ≤ v) {s : Nat} (h1 : 1 ≤ s) (h2 : s ≤ n) (h3 : 0 ≤ g s ∧ g s ≤ v) (h4 : ¬ (0 ≤ f s ∧ f s ≤ v)) : cntV n f v + 1 ≤ cntV n g v := by
  induction n with
  | zero => omega
  | succ n ih =>
    rw [cnt_succ, cnt_succ]
    by_cases e : s = n + 1
    · subst e
      rw [if_neg h4, if_pos h3]
      have := cnt_mono (n := n) h
      omega
    · have := ih (by omega)
      by_cases e2 : 0 ≤ f (n + 1) ∧ f (n + 1) ≤ v
      · rw [if_pos e2, if_pos (h _ e2.1 e2.2)]
        omega
      · rw [if_neg e2]
        omega
/-- What holds between rounds. -/
structure RndV (n : Nat) (E : Nat → Nat → Prop) (R : Nat → Nat → Prop) (t : Nat) (f : Nat → Int) : Prop where
  shut : ∀ v, ShutV E f v ∨ t ≤ cntV n f v
  snd : ∀ j, 0 ≤ f j → 1 ≤ j ∧ j ≤ n ∧ R j (f j).toNat
  lo : ∀ j, -1 ≤ f j
/-- What holds within a round: those below i are done, of i those of D. -/
structure MidV (n : Nat) (E : Nat → Nat → Prop) (R : Nat → Nat → Prop) (f0 f : Nat → Int) (i : Nat) (D : Nat → Prop) : Prop where
  mono : ∀ j, 0 ≤ f0 j → 0 ≤ f j ∧ f j ≤ f0 j
  proc : ∀ j x, (j < i ∨ (j = i ∧ D x)) → 0 ≤ f0 j → E j x → 0 ≤ f x ∧ f x ≤ f0 j
  old : ∀ v, ShutV E f0 v → ∀ j, 0 ≤ f j → f j ≤ v → 0 ≤ f0 j ∧ f0 j ≤ v
  snd : ∀ j, 0 ≤ f j → 1 ≤ j ∧ j ≤ n ∧ R j (f j).toNat
  lo : ∀ j, -1 ≤ f j
section
variable {n : Nat} {E : Nat → Nat → Prop} {R : Nat → Nat → Prop} {f0 f f' : Nat → Int} {i x : Nat} {D D' : Nat → Prop}
theorem RndV.start {t : Nat} (h : RndV n E R t f) : MidV n E R f f 1 (fun _ => False) :=
  ⟨fun _ e => ⟨e, Int.le_refl _⟩, fun j x hj h0 _ => by
    rcases hj with hj | ⟨_, hj⟩
    · have := (h.snd j h0).1
      omega
    · exact hj.elim, fun _ _ j h1 h2 => ⟨h1, h2⟩, h.snd, h.lo⟩
theorem MidV.done (h : MidV n E R f0 f i D) (hD : ∀ x, E i x → 0 ≤ f i → D x) (hD0 : 0 ≤ f0 i → 0 ≤ f i) : MidV n E R f0 f (i + 1) (fun _ => False) := by
  refine ⟨h.mono, fun j x hj h0 he => ?_, h.old, h.snd, h.lo⟩
  rcases hj with hj | ⟨_, hj⟩
  · by_cases e : j = i
    · subst e
      exact h.proc j x (Or.inr ⟨rfl, hD x he (hD0 h0)⟩) h0 he
    · exact h.proc j x (Or.inl (by omega)) h0 he
  · exact hj.elim
/-- One reference is looked at. -/
theorem MidV.look (h : MidV n E R f0 f i D) (hi : 0 ≤ f i) (he : E i x) (hx : 1 ≤ x ∧ x ≤ n) (hR : ∀ r, R i r → R x r) (hf : f' = fun j => if j = x then (if f x < 0 ∨ f i < f x then f i else f x) else f j) (hD' : ∀ y, D' y → D y ∨ y = x) : MidV n E R f0 f' i D' := by
  have hv : ∀ j, 0 ≤ f j → 0 ≤ f' j ∧ f' j ≤ f j := fun j hj => by
    rw [hf]
    simp only
    by_cases e : j = x
    · subst e
      rw [if_pos rfl]
      split <;> omega
    · rw [if_neg e]
      exact ⟨hj, Int.le_refl _⟩
  have hxv : 0 ≤ f' x ∧ f' x ≤ f i := by
    rw [hf]
    simp only [if_true]
    split <;> omega
  have hj' : ∀ j, f' j = f j ∨ (j = x ∧ f' j = f i) := fun j => by
    rw [hf]
    simp only
    by_cases e : j = x
    · subst e
      rw [if_pos rfl]
      split
      · exact Or.inr ⟨rfl, rfl⟩
      · exact Or.inl rfl
    · rw [if_neg e]
      exact Or.inl rfl
  refine ⟨fun j hj => ?_, fun j y hj h0 hy => ?_, fun v hs j h1 h2 => ?_, fun j h1 => ?_, fun j => ?_⟩
  · have a := h.mono j hj
    have b := hv j a.1
    omega
  · by_cases e : j = i ∧ y = x
    · obtain ⟨rfl, rfl⟩ := e
      have a := h.mono j h0
      omega
    · have a := h.proc j y (by
        rcases hj with hj | ⟨hj, hd⟩
        · exact Or.inl hj
        · rcases hD' y hd with hd | hd
          · exact Or.inr ⟨hj, hd⟩
          · exact absurd ⟨hj, hd⟩ e) h0 hy
      have b := hv y a.1
      omega
  · rcases hj' j with e | ⟨e1, e2⟩
    · rw [e] at h1 h2
      exact h.old v hs j h1 h2
    · rw [e2] at h1 h2
      have a := h.old v hs i h1 h2
      rw [e1]
      exact hs i x a.1 a.2 he
  · rcases hj' j with e | ⟨e1, e2⟩
    · rw [e] at h1 ⊢
      exact h.snd j h1
    · rw [e2] at h1 ⊢
      rw [e1]
      exact ⟨hx.1, hx.2, hR _ (h.snd i h1).2.2⟩
  · rcases hj' j with e | ⟨_, e2⟩
    · rw [e]
      exact h.lo j
    · rw [e2]
      omega
theorem MidV.ends {t : Nat} (h0 : RndV n E R t f0) (h : MidV n E R f0 f (n + 1) (fun _ => False)) : RndV n E R (t + 1) f := by
  refine ⟨fun v => ?_, h.snd, h.lo⟩
  have hm : ∀ j, 0 ≤ f0 j → f0 j ≤ v → 0 ≤ f j ∧ f j ≤ v := fun j a b => by
    have := h.mono j a
    omega
  by_cases hs : ShutV E f0 v
  · left
    intro j x a b he
    have c := h.old v hs j a b
    have d := hs j x c.1 c.2 he
    exact hm x d.1 d.2
  · have ht : t ≤ cntV n f0 v := by
      rcases h0.shut v with a | a
      · exact absurd a hs
      · exact a
    by_cases hn : ∃ j, (0 ≤ f j ∧ f j ≤ v) ∧ ¬ (0 ≤ f0 j ∧ f0 j ≤ v)
    · right
      obtain ⟨j, a, b⟩ := hn
      have c := h.snd j a.1
      have := cnt_more (n := n) hm c.1 c.2.1 a b
      omega
    · left
      intro j x a b he
      have c : 0 ≤ f0 j ∧ f0 j ≤ v := Decidable.byContradiction (fun e => hn ⟨j, ⟨a, b⟩, e⟩)
      have d := h.proc j x (Or.inl (by have := (h.snd j a).2.1; omega)) c.1 he
      omega
/-- Behind n + 1 rounds nothing leads to a greater rank. -/
theorem RndV.closed (h : RndV n E R (n + 1) f) : ∀ j x, 0 ≤ f j → E j x → 0 ≤ f x ∧ f x ≤ f j := by
  intro j x hj he
  rcases h.shut (f j) with a | a
  · exact a j x hj (Int.le_refl _) he
  · have := cntV_le n f (f j)
    omega
theorem RndV.zero (hs : ∀ j, 0 ≤ f j → 1 ≤ j ∧ j ≤ n ∧ R j (f j).toNat) (hl : ∀ j, -1 ≤ f j) : RndV n E R 0 f := ⟨fun _ => Or.inr (Nat.zero_le _), hs, hl⟩
end
/-- Both ways lead to the same ranks. -/
theorem ranks_same {h : HSt} {S : Nat → Nat → Prop} {p : PSt} {m : MSt} {n : Nat} {f : Nat → Int} (H : MI h S p m) (hI : Idle h p m) (hsrc : ∀ k r, S k r → (∃ mk, getA p.ma k = some mk ∧ mk.1 ≤ r) ∨ ∃ o ∈ h.cs, o.s = k ∧ 0 < o.d ∧ o.d ≤ r)
    (hf : RndV n (fun k x => ∃ o, getC h.cs k = some o ∧ ∃ y ∈ o.rf, y.1 = 1 ∧ y.2 = x) (Rch h S) (n + 1) f) (hf0 : ∀ k r, S k r → 0 ≤ f k ∧ f k ≤ (r : Int)) (k : Nat) :
    (getA p.ma k = none ∧ f k = -1) ∨ ∃ r : Nat, getA p.ma k = some (r, false) ∧ f k = (r : Int) := by
  have hc := hf.closed
  have h1 : ∀ k r, Rch h S k r → 0 ≤ f k ∧ f k ≤ (r : Int) := fun k r hk => by
    induction hk with
    | src hs => exact hf0 _ _ hs
    | @ref k r o x _ ho hx hx1 ih =>
      have := hc k x.2 ih.1 ⟨o, ho, x, hx, hx1, rfl⟩
      omega
  have h2 := H.least hI hsrc
  cases hm : getA p.ma k with
  | none =>
    left
    refine ⟨rfl, ?_⟩
    have := hf.lo k
    by_cases e : 0 ≤ f k
    · obtain ⟨mk, e1, _⟩ := h2 k _ (hf.snd k e).2.2
      rw [hm] at e1
      cases e1
    · omega
  | some mk =>
    right
    obtain ⟨r, g⟩ := mk
    have hg : g = false := H.done hI k _ hm
    subst hg
    refine ⟨r, rfl, ?_⟩
    have a := h1 k r (H.snd.ma k _ hm)
    obtain ⟨mk, e1, e2⟩ := h2 k _ (hf.snd k a.1).2.2
    rw [hm] at e1
    cases e1
    simp only at e2
    omega
end Go.Proofs.YtebcigjnjapcgaaDoor

namespace Go.Proofs.YtebcigjnjapcgaaDoor
open Go.RowKit

theorem m2_refs60 {g : Gr} {n : Nat} {h : HSt} (m : M2 g n n 0 h) (hok : h.Ok) (hn2 : n ≤ 60) : ∀ k o, getC h.cs k = some o → ∀ x ∈ o.rf, RefOk h x := by
  intro k o hk x hx
  obtain ⟨ho, hs⟩ := getC_mem hk
  have hle := hok.le o ho
  rw [hs, m.last] at hle
  obtain ⟨o', h1, h2, h3⟩ := m.at_ (k - 1) (by omega)
  have e : k - 1 + 1 = k := by omega
  rw [e, hk] at h1
  cases h1
  obtain ⟨q, hq, rfl⟩ := List.getElem_of_mem hx
  have ht := h3 q (by omega) (Or.inl (by omega))
  rw [List.getElem?_eq_getElem hq] at ht
  simp only [Option.some.injEq] at ht
  rw [ht]
  unfold targetR targetF
  split
  · exact Or.inl rfl
  · have p2 := pickN_lt (rawR g (k - 1) q) 2 (by omega)
    have p4 := pickN_lt (wrap64 ((rawR g (k - 1) q).tdiv 2)) 4 (by omega)
    have pn := pickN_lt (rawR g (k - 1) q) n (by omega)
    split
    · refine Or.inr ⟨?_, fun e => ?_⟩
      · simp only [namesB, Bool.and_eq_true, decide_eq_true_eq]
        omega
      · have e' : 2 + (pickN (rawR g (k - 1) q) 2 : Int) = 1 := e
        omega
    · refine Or.inr ⟨?_, fun _ => ?_⟩
      · simp only [namesB, Bool.and_eq_true, decide_eq_true_eq]
        omega
      · obtain ⟨o2, g1, _⟩ := m.at_ (pickN (rawR g (k - 1) q) n) pn
        show (getC h.cs (1 + pickN (rawR g (k - 1) q) n)).isSome = true
        rw [Nat.add_comm, g1]
        rfl
theorem m2_in {g : Gr} {n : Nat} {h : HSt} (m : M2 g n n 0 h) (hok : h.Ok) : ∀ k o, getC h.cs k = some o → 1 ≤ k ∧ k ≤ n := by
  intro k o hk
  obtain ⟨ho, hs⟩ := getC_mem hk
  have hle := hok.le o ho
  rw [hs, m.last] at hle
  exact hle
theorem m2_mh {g : Gr} {n : Nat} {h : HSt} {S : Nat → Nat → Prop} (m : M2 g n n 0 h) (hok : h.Ok) (hn2 : n ≤ 60) (hS : ∀ o ∈ h.cs, 0 < o.d → S o.s o.d) : MH h S :=
  ⟨m.node, hok, m2_refs60 m hok hn2, hS, fun o ho => by
    have := hok.le o ho
    have := m.last
    simp only [namesB, Bool.and_eq_true, decide_eq_true_eq]
    omega⟩
end Go.Proofs.YtebcigjnjapcgaaDoor

namespace Go.Proofs.YtebcigjnjapcgaaDoor
open Go.RowKit

theorem getA_iff {κ β : Type} [DecidableEq κ] {l : List (κ × β)} (hn : (l.map (·.1)).Nodup) (x : κ) (r : β) : (x, r) ∈ l ↔ getA l x = some r := by
  induction l with
  | nil => exact ⟨fun h => (by cases h), fun h => (by cases h)⟩
  | cons p l ih =>
    obtain ⟨y, q⟩ := p
    rw [List.map_cons, List.nodup_cons] at hn
    unfold getA
    rw [List.find?_cons]
    by_cases e : y = x
    · subst e
      simp only [decide_true, Option.map_some, Option.some.injEq]
      refine ⟨fun h => ?_, fun h => by rw [h]; exact List.mem_cons_self⟩
      rcases List.mem_cons.1 h with h | h
      · cases h
        rfl
      · exact absurd (List.mem_map.2 ⟨_, h, rfl⟩) hn.1
    · have e2 : decide (y = x) = false := decide_eq_false e
      simp only [e2]
      refine ⟨fun h => ?_, fun h => List.mem_cons_of_mem _ ((ih hn.2).2 h)⟩
      rcases List.mem_cons.1 h with h | h
      · cases h
        exact absurd rfl e
      · exact (ih hn.2).1 h
theorem outs_keys {l L : List ((Int × Nat) × Nat)} (h : OutsOf l L) : (l.map (·.1)).Nodup := by
  refine (h.1.map (·.1)).nodup ?_
  rw [List.Nodup, List.pairwise_map]
  exact h.2.imp (fun a b => by
    rw [b] at a
    omega)
theorem nodup_of_keys {l : List ((Int × Nat) × Nat)} (h : (l.map (·.1)).Nodup) : l.Nodup := by
  rw [List.Nodup, List.pairwise_map] at h
  exact h.imp (fun a e => a (by rw [e]))
theorem outs_same {l m L M : List ((Int × Nat) × Nat)} (h1 : OutsOf l L) (h2 : OutsOf m M) (hs : ∀ x, getA l x = getA m x) : L = M := by
  have n1 := outs_keys h1
  have n2 := outs_keys h2
  have hp : l.Perm m := by
    rw [List.perm_ext_iff_of_nodup (nodup_of_keys n1) (nodup_of_keys n2)]
    rintro ⟨x, r⟩
    rw [getA_iff n1, getA_iff n2, hs]
  exact outsOf_uniq h1 ⟨h2.1.trans hp.symm, h2.2⟩
section
variable {h : HSt} {S : Nat → Nat → Prop} {p q : PSt} {m n : MSt}
theorem marks_le (H : MI h S p m) (G : MI h S q n) (hJ : Idle h q n) (hsrc : ∀ k r, S k r → (∃ mk, getA q.ma k = some mk ∧ mk.1 ≤ r) ∨ ∃ o ∈ h.cs, o.s = k ∧ 0 < o.d ∧ o.d ≤ r) {k r : Nat} {g : Bool} (hk : getA p.ma k = some (r, g)) : ∃ r', getA q.ma k = some (r', false) ∧ r' ≤ r := by
  obtain ⟨⟨r', g'⟩, e1, e2⟩ := G.least hJ hsrc k r (H.snd.ma k _ hk)
  have hg : g' = false := G.done hJ k _ e1
  subst hg
  exact ⟨r', e1, e2⟩
theorem marks_same (H : MI h S p m) (hI : Idle h p m) (hsp : ∀ k r, S k r → (∃ mk, getA p.ma k = some mk ∧ mk.1 ≤ r) ∨ ∃ o ∈ h.cs, o.s = k ∧ 0 < o.d ∧ o.d ≤ r) (G : MI h S q n) (hJ : Idle h q n) (hsq : ∀ k r, S k r → (∃ mk, getA q.ma k = some mk ∧ mk.1 ≤ r) ∨ ∃ o ∈ h.cs, o.s = k ∧ 0 < o.d ∧ o.d ≤ r) (k : Nat) : getA p.ma k = getA q.ma k := by
  cases h1 : getA p.ma k with
  | none =>
    cases h2 : getA q.ma k with
    | none => rfl
    | some mk =>
      obtain ⟨r, g⟩ := mk
      obtain ⟨r', e, _⟩ := marks_le G H hI hsp h2
      rw [h1] at e
      cases e
  | some mk =>
    obtain ⟨r, g⟩ := mk
    have hg : g = false := H.done hI k _ h1
    subst hg
    obtain ⟨r', e, l⟩ := marks_le H G hJ hsq h1
    obtain ⟨r'', e', l'⟩ := marks_le G H hI hsp e
    rw [h1] at e'
    cases e'
    have : r = r' := by omega
    rw [e, this]
theorem met_le (H : MI h S p m) (G : MI h S q n) (hJ : Idle h q n) (hsrc : ∀ k r, S k r → (∃ mk, getA q.ma k = some mk ∧ mk.1 ≤ r) ∨ ∃ o ∈ h.cs, o.s = k ∧ 0 < o.d ∧ o.d ≤ r) {x : Int × Nat} {r : Nat} (hx : getA p.me x = some r) (hn : namesB x = true) : ∃ r', getA q.me x = some r' ∧ r' ≤ r := by
  obtain ⟨k, o, h1, h2, h3, h4⟩ := H.snd.me x r hx
  obtain ⟨mk, e1, e2⟩ := G.least hJ hsrc k r h4
  have hb := names_lt hn
  obtain ⟨b, e3, e4⟩ := G.met hJ h1 h2 (by omega) e1 rfl
  exact ⟨b, e3, by omega⟩
theorem met_same (H : MI h S p m) (hI : Idle h p m) (hsp : ∀ k r, S k r → (∃ mk, getA p.ma k = some mk ∧ mk.1 ≤ r) ∨ ∃ o ∈ h.cs, o.s = k ∧ 0 < o.d ∧ o.d ≤ r) (G : MI h S q n) (hJ : Idle h q n) (hsq : ∀ k r, S k r → (∃ mk, getA q.ma k = some mk ∧ mk.1 ≤ r) ∨ ∃ o ∈ h.cs, o.s = k ∧ 0 < o.d ∧ o.d ≤ r) (x : Int × Nat) : getA p.me x = getA q.me x := by
  have np : ∀ r, getA p.me x = some r → namesB x = true := fun r e => by
    unfold getA at e
    obtain ⟨y, h1, h2⟩ := Option.map_eq_some_iff.1 e
    have h3 := H.good.nm y (List.mem_of_find?_eq_some h1)
    have h4 : y.1 = x := by simpa using List.find?_some h1
    rw [← h4]
    exact h3
  have nq : ∀ r, getA q.me x = some r → namesB x = true := fun r e => by
    unfold getA at e
    obtain ⟨y, h1, h2⟩ := Option.map_eq_some_iff.1 e
    have h3 := G.good.nm y (List.mem_of_find?_eq_some h1)
    have h4 : y.1 = x := by simpa using List.find?_some h1
    rw [← h4]
    exact h3
  cases h1 : getA p.me x with
  | none =>
    cases h2 : getA q.me x with
    | none => rfl
    | some r =>
      obtain ⟨r', e, _⟩ := met_le G H hI hsp h2 (nq r h2)
      rw [h1] at e
      cases e
  | some r =>
    obtain ⟨r', e, l⟩ := met_le H G hJ hsq h1 (np r h1)
    obtain ⟨r'', e', l'⟩ := met_le G H hI hsp e (np r h1)
    rw [h1] at e'
    cases e'
    have : r = r' := by omega
    rw [e, this]
end
end Go.Proofs.YtebcigjnjapcgaaDoor

namespace Go.Proofs.YtebcigjnjapcgaaDoor
open Go.RowKit

theorem wrap_mid (x : Int) (h0 : 0 ≤ x) (h1 : x < 1000000) : wrap64 x = x ∧ IntKind.i64.wrap x = x := by
  refine ⟨by rw [wrap64]; omega, by rw [IntKind.wrap_i64]; omega⟩
theorem end_bound (n : Nat) : 41 * n * (n + 1) + n ≤ 42 * (n + 1) * (n + 1) := by
  have h1 : 41 * n * (n + 1) ≤ 41 * (n + 1) * (n + 1) := Nat.mul_le_mul_right _ (by omega)
  have h2 : 1 * (n + 1) ≤ (n + 1) * (n + 1) := Nat.mul_le_mul_right _ (by omega)
  have h3 : 42 * (n + 1) * (n + 1) = 41 * (n + 1) * (n + 1) + (n + 1) * (n + 1) := by
    rw [← Nat.add_mul]
    congr 1
    omega
  omega
theorem end_bound2 (n : Nat) : 42 * (n + 1) * (n + 1) ≤ 42 * (n + 2) * (n + 2) := Nat.mul_le_mul (by omega) (by omega)
theorem small_prod {a b : Nat} (ha : a ≤ 62) (hb : b ≤ 62) : 42 * a * b < 1000000 := by
  have h1 : 42 * a * b ≤ 42 * 62 * 62 := Nat.mul_le_mul (by omega) hb
  omega
section
variable {w0 w w' : World} {B xb pb hb : Nat} {h h' : HSt} {p p' : PSt} {m m' : MSt} {X : Nat → Prop}
theorem idle_step (hI : Idle h p m) (hon : m.on = false) : stepR h p m = (false, p, m) := by
  have ha : aboveC h.cs m.place = none := by
    cases e : aboveC h.cs m.place with
    | none => rfl
    | some o =>
      obtain ⟨h1, h2⟩ := above_mem e
      have := hI.place o h1
      omega
  unfold stepR tailR
  rw [hI.stk, hI.ov, hon, ha]
  rfl
set_option maxRecDepth 20000 in
set_option maxHeartbeats 1000000 in
theorem mall_any {J : PSt → MSt → Prop} (x : PM w0 B w xb pb hb h p m X) (hs : SB p) (n : Nat) (hn : n ≤ 60) (hin : ∀ k o, getC h.cs k = some o → 1 ≤ k ∧ k ≤ n) (hlen : h.cs.length ≤ n) (hL : leftM n h p m ≤ 42 * (n + 2) * (n + 2)) (hJ0 : J p m) (hJ : ∀ p m, J p m → J (stepR h p m).2.1 (stepR h p m).2.2) :
    Calls Tryd.prog 14 #[.pointer (some ⟨xb, 0, none⟩), .int .i64 (n : Int)] w fun e w' => ∃ (k : Nat) (p' : PSt) (m' : MSt), e = .returned (.tuple #[.int .i64 (k : Int), .bool true]) ∧ k ≤ leftM n h p m ∧ J p' m' ∧ Idle h p' m' ∧ m'.on = false ∧ SB p' ∧ PM w0 B w' xb pb hb h p' m' X ∧ Kept w w' (MIts B X xb) := by
  obtain ⟨D, hD⟩ : ∃ D, D = n + 2 := ⟨_, rfl⟩
  obtain ⟨E, hE⟩ : ∃ E, E = 42 * D := ⟨_, rfl⟩
  obtain ⟨L, hLe⟩ : ∃ L, L = E * D := ⟨_, rfl⟩
  have hLs : L < 1000000 := by
    rw [hLe, hE]
    exact small_prod (by omega) (by omega)
  have a1 : (n : Int) + 2 = (D : Int) := by omega
  have a2 : 42 * (D : Int) = (E : Int) := by omega
  have a3 : (E : Int) * (D : Int) = (L : Int) := by rw [hLe]; simp
  obtain ⟨b1, b2⟩ := wrap_mid (D : Int) (by omega) (by omega)
  obtain ⟨b3, b4⟩ := wrap_mid (E : Int) (by omega) (by omega)
  obtain ⟨b5, b6⟩ := wrap_mid (L : Int) (by omega) (by omega)
  have HL : Hid (leftM n h p m ≤ L) := by
    have e : leftM n h p m ≤ L := by
      rw [hLe, hE, hD]
      exact hL
    exact e
  have HO : Hid h.Ok := x.ph.ok
  have HX : Hid _ := hidden x
  have HS : Hid _ := hidden hs
  have HSL := fun p m => step_left (n := n) (h := h) hin hlen p m
  have HJ0 : Hid _ := hidden hJ0
  have HJ : Hid _ := hidden hJ
  have HB : Hid (L < 1000000) := hidden hLs
  have HQ : Hid _ := hidden HSL
  clear x hs hin hlen hL hJ0 hJ hD hE hLe hn HSL hLs
  obtain ⟨T, hTe⟩ : ∃ T, T = leftM n h p m := ⟨_, rfl⟩
  have HT : Hid (leftM n h p m ≤ T) := by
    have e : leftM n h p m ≤ T := by omega
    exact e
  rw [← hTe] at HL ⊢
  clear hTe
  go_enter Tryd.func14, Tryd.ntmps14
  go_wp2
  go_loopw [6] (fun t wr => ∃ (k : Nat) (p1 : PSt) (m1 : MSt), t = .int .i64 (k : Int) ∧ k + leftM n h p1 m1 ≤ T ∧ J p1 m1 ∧ SB p1 ∧ PM w0 B wr xb pb hb h p1 m1 X ∧ Kept w wr (MIts B X xb)) (fun t _ => L + 1 - (intOf t).toNat)
  case atStart => exact ⟨0, p, m, rfl, by have := HT.out; omega, HJ0.out, HS.out, HX.out, Kept.refl _ _⟩
  case round =>
    clear HX HS HJ0
    obtain ⟨k, p1, m1, rfl, hk, j1, s1, x1, k1⟩ := hrel
    have hT := mstep_any x1 s1
    have hq := HQ.out p1 m1
    have j2 := HJ.out p1 m1 j1
    have s2 := SB.step (m := m1) HO.out s1
    have hkl : (k : Int) ≤ (L : Int) := by have := HL.out; omega
    have hkb : k < 1000000 := by have := HB.out; omega
    have HK1 : Hid _ := hidden k1
    generalize leftM n h p1 m1 = T1 at *
    generalize stepR h p1 m1 = R at *
    obtain ⟨b, p2, m2⟩ := R
    simp only at hT hq j2 s2
    have HJ2 : Hid _ := hidden j2
    have HS2 : Hid _ := hidden s2
    clear x1 j1 s1 k1 j2 s2
    cases b with
    | true =>
      have hq' : leftM n h p2 m2 + 1 ≤ T1 := by
        rcases hq with hq | hq
        · exact hq.2
        · exact absurd hq.1 (by simp)
      have HM : Hid (k + 1 + leftM n h p2 m2 ≤ T) := by
        have e : k + 1 + leftM n h p2 m2 ≤ T := by omega
        exact e
      have HM2 : Hid (k < L + 1) := by
        have e : k < L + 1 := by omega
        exact e
      clear hq hq' hk
      go_wp2_with fail
      refine hT.mono ?_
      rintro e w1 ⟨rfl, x2, k2⟩
      have HX2 : Hid _ := hidden x2
      have HK2 : Hid _ := hidden (mits_t HK1.out k2)
      clear hT x2 k2
      go_wp2
      go_roundw
      case rel => exact ⟨k + 1, p2, m2, by go_num, HM.out, HJ2.out, HS2.out, HX2.out, HK2.out⟩
      case measure => have := HM2.out; simp [intOf]; omega
    | false =>
      have hq' : p2 = p1 ∧ Idle h p1 m2 ∧ m2.on = false := by
        rcases hq with hq | hq
        · exact absurd hq.1 (by simp)
        · exact hq.2
      obtain ⟨rfl, hI, hon⟩ := hq'
      have HI : Hid _ := hidden hI
      have HON : Hid _ := hidden hon
      have HM : Hid (k ≤ T) := by
        have e : k ≤ T := by omega
        exact e
      clear hq hI hon hk
      go_wp2_with fail
      refine hT.mono ?_
      rintro e w1 ⟨rfl, x2, k2⟩
      have HX2 : Hid _ := hidden x2
      have HK2 : Hid _ := hidden (mits_t HK1.out k2)
      clear hT x2 k2
      go_wp2
      go_ret2
      exact ⟨k, p2, m2, rfl, HM.out, HJ2.out, HI.out, HON.out, HS2.out, HX2.out, HK2.out⟩
end

set_option maxRecDepth 20000 in
set_option maxHeartbeats 2000000 in
theorem markEnds_any {w : World} {vr vo vi : Value} {g : Gr} (x : GI w vr vo vi g) (hT : TB w) (grey : Int) :
    Calls Tryd.prog 6 #[.agg #[vr, vo, vi], .int .i64 grey] w fun e w' => e = .returned (.bool true) ∧ Below w.heap.size w w' := by
  obtain ⟨a1, c1, a2, c2, a3, c3, rfl, rfl, rfl⟩ := x.shape
  have hA : ∀ o, Below w.heap.size w (w.alloc o) := fun o => bel_alloc w o
  have hHp := fun o => heaps_at (x.below (hA o)) (hT.below (hA o)) 40 (by omega)
  have hP := fun W => pick_any grey 8 (by omega) (by omega) W
  have hpk := pickN_lt grey 8 (by omega)
  generalize pickN grey 8 = pk at *
  clear x
  go_enter Tryd.func6, Tryd.ntmps6
  go_wp2_with fail
  refine (hHp _).mono ?_
  rintro e w1 ⟨hb, rb, h, rfl, y1, m1⟩
  obtain ⟨wA, hwA⟩ : ∃ z, z = w.alloc (.cells #[.slice a1 g.refs.length c1, .slice a2 g.out.length c2, .slice a3 g.inn.length c3] 29) := ⟨_, rfl⟩
  rw [← hwA] at y1
  have hbA : Below w.heap.size w wA := by rw [hwA]; exact hA _
  have hTA : TB wA := hT.below hbA
  clear hHp hwA hA hT
  have hok := y1.ok
  obtain ⟨N, hN⟩ : ∃ N, N = min g.refs.length 40 := ⟨_, rfl⟩
  rw [← hN] at m1
  have hla : h.last = N := m1.last
  have hN40 : N ≤ 40 := by omega
  have HIN : Hid (∀ k o, getC h.cs k = some o → 1 ≤ k ∧ k ≤ N) := m2_in m1 hok
  have hlen : h.cs.length ≤ N := by have := m1.len; omega
  have HLN : Hid _ := hidden hlen
  clear m1 hN hlen
  go_wp2_with fail
  refine (mknown_any _ (hTA.below (y1.bel.mono (Nat.le_refl _)))).mono ?_
  rintro e w2 ⟨rfl, b2⟩
  have y2 := y1.read b2
  have hrc := y2.rlast
  rw [hla] at hrc
  clear y1 b2 hla hTA
  have hN2 : (N : Int) ≤ 40 := by omega
  go_wp2_with fail
  refine (hP _).mono ?_
  rintro e _ ⟨rfl, rfl⟩
  clear hP
  have hPl := y2.pl (1 + pk) (by omega) (by omega)
  have hcast : ((1 + pk : Nat) : Int) = 1 + (pk : Int) := by omega
  rw [hcast] at hPl
  have hpk2 : (pk : Int) < 8 := by omega
  clear hcast y2
  go_wp2_with fail
  refine hPl.mono ?_
  rintro e w3 ⟨pb, rfl, z3, b3⟩
  have hM := z3.ph.mnew
  clear hPl z3 b3 hrc
  go_wp2_with fail
  refine hM.mono ?_
  rintro e w4 ⟨rfl, x4, b4⟩
  have hAll := mall_any (J := fun _ _ => True) x4 (SB.new _) N (by omega) HIN.out HLN.out (Nat.le_trans (left_new N h HLN.out (1 + pk)) (Nat.le_trans (end_bound N) (end_bound2 N))) trivial (fun _ _ _ => trivial)
  have HLT : Hid (∀ k, k ≤ leftM N h (PSt.new (1 + pk)) ⟨0, 0, false⟩ → k ≤ 42 * (N + 1) * (N + 1)) := fun k hk => Nat.le_trans hk (Nat.le_trans (left_new N h HLN.out (1 + pk)) (end_bound N))
  generalize w3.heap.size = xb at *
  clear hM x4 b4
  go_wp2_with fail
  refine hAll.mono ?_
  rintro e w5 ⟨k, p5, m5, rfl, hk, _, hI, hon, hs5, x5, k5⟩
  have hk' := HLT.out k hk
  have hS := mstep_any x5 hs5
  rw [idle_step hI hon] at hS
  obtain ⟨D, hD⟩ : ∃ D, D = N + 1 := ⟨_, rfl⟩
  obtain ⟨E, hE⟩ : ∃ E, E = 42 * D := ⟨_, rfl⟩
  obtain ⟨L, hLe⟩ : ∃ L, L = E * D := ⟨_, rfl⟩
  have hLs : L < 1000000 := by
    rw [hLe, hE]
    exact small_prod (by omega) (by omega)
  have c1' : (N : Int) + 1 = (D : Int) := by omega
  have c2' : 42 * (D : Int) = (E : Int) := by omega
  have c3' : (E : Int) * (D : Int) = (L : Int) := by rw [hLe]; simp
  obtain ⟨b1, b2⟩ := wrap_mid (D : Int) (by omega) (by omega)
  obtain ⟨b3, b4⟩ := wrap_mid (E : Int) (by omega) (by omega)
  obtain ⟨b5, b6⟩ := wrap_mid (L : Int) (by omega) (by omega)
  have hkl : (k : Int) ≤ (L : Int) := Int.ofNat_le.2 (by rw [hLe, hE, hD]; exact hk')
  clear hAll HLT HIN HLN hk hk' hI hon hs5 x5 k5 hD hE hLe hLs hN40 hpk
  go_wp2_with fail
  refine hS.mono ?_
  rintro e w6 ⟨rfl, x6, k6⟩
  have HB : Hid _ := hidden (hbA.trans (x6.ph.bel.mono hbA.size))
  clear hS x6 k6
  go_wp2
  go_ret
  exact ⟨rfl, HB.out⟩
end Go.Proofs.YtebcigjnjapcgaaDoor

