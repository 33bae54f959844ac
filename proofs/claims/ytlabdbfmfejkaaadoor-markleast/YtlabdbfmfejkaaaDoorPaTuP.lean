import Derived.Test.YtlabdbfmfejkaaaDoorPaTP
/- PaintTurns. -/
/- What shading and scanning keep: ranks fall, nothing is lost. -/
/- When nothing is grey each reference of a marked object leads to one that is marked, or met, with no greater rank. -/
namespace Go.Proofs.YtlabdbfmfejkaaaDoor
open Go.RowKit

theorem push_turns (p : PSt) (s : Nat) : (p.push s).turns = p.turns := by unfold PSt.push; split <;> rfl
theorem own_turns (h : HSt) (p : PSt) (s r : Nat) : (p.own h s r).turns = p.turns := by
  unfold PSt.own
  split
  · split
    · exact push_turns _ _
    · split
      · rfl
      · split
        · rfl
        · exact push_turns _ _
  · rfl
theorem meet_turns (p : PSt) (x : Int × Nat) (r : Nat) : (p.meet x r).turns = p.turns := by
  unfold PSt.meet
  split
  · rfl
  · split <;> rfl
theorem shade_turns (h : HSt) (p : PSt) (x : Int × Nat) (r : Int) : (p.shade h x r).turns = p.turns := by
  unfold PSt.shade
  split
  · split
    · exact own_turns _ _ _ _
    · exact meet_turns _ _ _
  · rfl
theorem all_turns (h : HSt) (l : List (Int × Nat)) (r : Nat) : ∀ p : PSt, (p.all h l r).turns = p.turns := by
  unfold PSt.all
  induction l with
  | nil => intro p; rfl
  | cons x l ih => intro p; rw [List.foldl_cons, ih, shade_turns]
theorem scan_turns (h : HSt) (p : PSt) (s : Nat) : (p.scan h s).turns = p.turns := by
  unfold PSt.scan
  split
  · rw [all_turns]
  · rfl
theorem markR_turn (h : HSt) (p : PSt) (s : Nat) : markR h p.turn s = (0, false, false) := by
  unfold markR
  have : getA p.turn.ma s = none := rfl
  rw [this]
  split
  · next h2 => cases h2
  · rfl

end Go.Proofs.YtlabdbfmfejkaaaDoor

namespace Go.Proofs.YtlabdbfmfejkaaaDoor
open Go.RowKit

/-- Ranks only fall, and nothing that is marked or met is lost. -/
structure Fall (p q : PSt) : Prop where
  ma : ∀ k m, getA p.ma k = some m → ∃ m', getA q.ma k = some m' ∧ m'.1 ≤ m.1
  me : p.me.length ≤ q.me.length
  ms : ∀ x r, getA p.me x = some r → ∃ r', getA q.me x = some r' ∧ r' ≤ r
theorem Fall.refl (p : PSt) : Fall p p := ⟨fun _ m h => ⟨m, h, Nat.le_refl _⟩, Nat.le_refl _, fun _ r h => ⟨r, h, Nat.le_refl _⟩⟩
theorem Fall.trans {a b c : PSt} (h1 : Fall a b) (h2 : Fall b c) : Fall a c := by
  refine ⟨fun k m hm => ?_, Nat.le_trans h1.me h2.me, fun x r hr => ?_⟩
  · obtain ⟨m1, e1, l1⟩ := h1.ma k m hm
    obtain ⟨m2, e2, l2⟩ := h2.ma k m1 e1
    exact ⟨m2, e2, by omega⟩
  · obtain ⟨m1, e1, l1⟩ := h1.ms x r hr
    obtain ⟨m2, e2, l2⟩ := h2.ms x m1 e1
    exact ⟨m2, e2, by omega⟩
/-- Ranks are within 0 and 40; what was met names; so many were met. -/
structure Good (p : PSt) : Prop where
  rk : ∀ k m, getA p.ma k = some m → m.1 ≤ 40
  nm : ∀ e ∈ p.me, namesB e.1 = true
theorem push_ma (p : PSt) (s : Nat) : (p.push s).ma = p.ma ∧ (p.push s).me = p.me := by unfold PSt.push; split <;> exact ⟨rfl, rfl⟩
theorem put_fall {p q : PSt} {s : Nat} {v : Nat × Bool} (hq : q.ma = putA p.ma s v) (hm : q.me = p.me) (hv : ∀ m, getA p.ma s = some m → v.1 ≤ m.1) : Fall p q := by
  refine ⟨fun k m h => ?_, by rw [hm]; exact Nat.le_refl _, fun x r h => ⟨r, by rw [hm]; exact h, Nat.le_refl _⟩⟩
  rw [hq, getA_put]
  by_cases e : k = s
  · subst e
    rw [if_pos rfl]
    exact ⟨v, rfl, hv m h⟩
  · rw [if_neg e]
    exact ⟨m, h, Nat.le_refl _⟩
theorem put_good {p q : PSt} {s : Nat} {v : Nat × Bool} (hq : q.ma = putA p.ma s v) (hm : q.me = p.me) (hv : v.1 ≤ 40) (H : Good p) : Good q := by
  refine ⟨fun k m h => ?_, by rw [hm]; exact H.nm⟩
  rw [hq, getA_put] at h
  by_cases e : k = s
  · rw [if_pos e] at h
    cases h
    exact hv
  · rw [if_neg e] at h
    exact H.rk k m h
theorem putA_mem {κ β : Type} [DecidableEq κ] {l : List (κ × β)} {x : κ} {v : β} {e : κ × β} (h : e ∈ putA l x v) : e ∈ l ∨ e = (x, v) := by
  unfold putA at h
  split at h
  · obtain ⟨p, hp, rfl⟩ := List.mem_map.1 h
    split
    · exact Or.inr rfl
    · exact Or.inl hp
  · rcases List.mem_append.1 h with h | h
    · exact Or.inl h
    · exact Or.inr (List.mem_singleton.1 h)
theorem own_keeps (h : HSt) (p : PSt) (s r : Nat) (hr : r ≤ 40) : Fall p (p.own h s r) ∧ (Good p → Good (p.own h s r)) ∧ (p.own h s r).me.length ≤ p.me.length + 1 := by
  unfold PSt.own
  split
  · cases hm : getA p.ma s with
    | none =>
      have e := push_ma { p with ma := putA p.ma s (r, true) } s
      exact ⟨put_fall e.1 e.2 (fun m h => by rw [hm] at h; cases h), put_good e.1 e.2 hr, by rw [e.2]; exact Nat.le_succ _⟩
    | some m =>
      obtain ⟨r0, g⟩ := m
      simp only
      by_cases h1 : r0 ≤ r
      · rw [if_pos h1]
        exact ⟨Fall.refl _, id, Nat.le_succ _⟩
      · rw [if_neg h1]
        have hv : ∀ m, getA p.ma s = some m → (r, true).1 ≤ m.1 := fun m h => by
          rw [hm] at h
          cases h
          show r ≤ r0
          omega
        cases g with
        | true =>
          rw [if_pos rfl]
          exact ⟨put_fall rfl rfl hv, put_good rfl rfl hr, Nat.le_succ _⟩
        | false =>
          rw [if_neg (by simp)]
          have e := push_ma { p with ma := putA p.ma s (r, true) } s
          exact ⟨put_fall e.1 e.2 hv, put_good e.1 e.2 hr, by rw [e.2]; exact Nat.le_succ _⟩
  · exact ⟨Fall.refl _, id, Nat.le_succ _⟩
theorem meet_keeps (p : PSt) (x : Int × Nat) (r : Nat) (hx : namesB x = true) : Fall p (p.meet x r) ∧ (Good p → Good (p.meet x r)) ∧ (p.meet x r).me.length ≤ p.me.length + 1 := by
  have hput : (∀ r0, getA p.me x = some r0 → r ≤ r0) → Fall p { p with me := putA p.me x r } ∧ (Good p → Good { p with me := putA p.me x r }) ∧ ({ p with me := putA p.me x r } : PSt).me.length ≤ p.me.length + 1 := fun hv => by
    refine ⟨⟨fun k m h => ⟨m, h, Nat.le_refl _⟩, (putA_len p.me x r).2, fun y r0 h => ?_⟩, fun H => ⟨H.rk, fun e he => ?_⟩, (putA_len p.me x r).1⟩
    · show ∃ r', getA (putA p.me x r) y = some r' ∧ _
      rw [getA_put]
      by_cases e : y = x
      · subst e
        rw [if_pos rfl]
        exact ⟨r, rfl, hv r0 h⟩
      · rw [if_neg e]
        exact ⟨r0, h, Nat.le_refl _⟩
    · rcases putA_mem he with h | h
      · exact H.nm e h
      · rw [h]; exact hx
  unfold PSt.meet
  cases hm : getA p.me x with
  | none => exact hput (fun r0 h => by rw [hm] at h; cases h)
  | some r0 =>
    simp only
    by_cases h1 : r < r0
    · rw [if_pos h1]
      exact hput (fun r1 h => by rw [hm] at h; cases h; omega)
    · rw [if_neg h1]
      exact ⟨Fall.refl _, id, Nat.le_succ _⟩
theorem shade_keeps (h : HSt) (p : PSt) (x : Int × Nat) (r : Int) : Fall p (p.shade h x r) ∧ (Good p → Good (p.shade h x r)) ∧ (p.shade h x r).me.length ≤ p.me.length + 1 := by
  unfold PSt.shade
  split
  · next hx =>
    split
    · exact own_keeps h p x.2 _ (clampR_le r)
    · exact meet_keeps p x _ hx
  · exact ⟨Fall.refl _, id, Nat.le_succ _⟩
theorem all_keeps (h : HSt) (r : Nat) : ∀ (l : List (Int × Nat)) (p : PSt), Fall p (p.all h l r) ∧ (Good p → Good (p.all h l r)) ∧ (p.all h l r).me.length ≤ p.me.length + l.length
  | [], p => ⟨Fall.refl _, id, Nat.le_refl _⟩
  | x :: l, p => by
    obtain ⟨a1, a2, a3⟩ := shade_keeps h p x (r : Int)
    obtain ⟨b1, b2, b3⟩ := all_keeps h r l (p.shade h x (r : Int))
    refine ⟨a1.trans b1, fun H => b2 (a2 H), ?_⟩
    have e : p.all h (x :: l) r = (p.shade h x (r : Int)).all h l r := rfl
    rw [e]
    simp only [List.length_cons]
    omega
theorem scan_keeps {h : HSt} (hok : h.Ok) (p : PSt) (s : Nat) : Fall p (p.scan h s) ∧ (Good p → Good (p.scan h s)) ∧ (p.scan h s).me.length ≤ p.me.length + 7 := by
  unfold PSt.scan
  split
  · next o r hg hm =>
    have hl := (hok.fl o (getC_mem hg).1).1
    obtain ⟨b1, b2, b3⟩ := all_keeps h r o.rf { p with ma := putA p.ma s (r, false) }
    have hf : Fall p { p with ma := putA p.ma s (r, false) } := put_fall rfl rfl (fun m h2 => by rw [hm] at h2; cases h2; exact Nat.le_refl _)
    refine ⟨hf.trans b1, fun H => b2 (put_good rfl rfl (by have := H.rk s _ hm; exact this) H), ?_⟩
    have e : ({ p with ma := putA p.ma s (r, false) } : PSt).me.length = p.me.length := rfl
    omega
  · exact ⟨Fall.refl _, id, by omega⟩
/-- What was told of the marks of 1 to n: 41 of one that was not marked. -/
def wasV (p : PSt) (k : Nat) : Nat := match getA p.ma k with
  | some (r, _) => r
  | none => 41
theorem new_good (M : Nat) : Good (PSt.new M) := ⟨fun k m h => (by cases h), fun e he => (by cases he)⟩
/-- Mark's answer, held against what was told. -/
theorem mark_falls {h : HSt} {p q : PSt} (hF : Fall p q) (hG : Good q) {k : Nat} (hk : (getC h.cs k).isSome = true) :
    ((markR h q k).2.2 = false ∧ wasV p k = 41 ∧ wasV q k = 41) ∨ ((markR h q k).2.2 = true ∧ (markR h q k).1 ≤ wasV p k ∧ wasV q k = (markR h q k).1) := by
  obtain ⟨o, ho⟩ := Option.isSome_iff_exists.1 hk
  unfold markR wasV
  rw [ho]
  cases hq : getA q.ma k with
  | none =>
    left
    cases hp : getA p.ma k with
    | none => exact ⟨rfl, rfl, rfl⟩
    | some m =>
      obtain ⟨m', e, _⟩ := hF.ma k m hp
      rw [hq] at e
      cases e
  | some m =>
    obtain ⟨r, g⟩ := m
    right
    refine ⟨rfl, ?_, rfl⟩
    cases hp : getA p.ma k with
    | none =>
      have := hG.rk k _ hq
      show r ≤ 41
      simp only at this
      omega
    | some m =>
      obtain ⟨r0, g0⟩ := m
      obtain ⟨m', e, l⟩ := hF.ma k _ hp
      rw [hq] at e
      cases e
      exact l

end Go.Proofs.YtlabdbfmfejkaaaDoor

namespace Go.Proofs.YtlabdbfmfejkaaaDoor
open Go.RowKit

/-- What x names is marked, or met, with no greater rank than r. -/
def Cov (p : PSt) (x : Int × Nat) (r : Nat) : Prop :=
  x = (0, 0) ∨ (x.1 = 1 ∧ ∃ m, getA p.ma x.2 = some m ∧ m.1 ≤ r) ∨ (1 < x.1 ∧ ∃ q, getA p.me x = some q ∧ q ≤ r)
theorem Cov.fall {p q : PSt} {x : Int × Nat} {r : Nat} (h : Cov p x r) (hF : Fall p q) : Cov q x r := by
  rcases h with h | ⟨h, m, h1, h2⟩ | ⟨h, m, h1, h2⟩
  · exact Or.inl h
  · obtain ⟨m', e, l⟩ := hF.ma _ _ h1
    exact Or.inr (Or.inl ⟨h, m', e, by omega⟩)
  · obtain ⟨m', e, l⟩ := hF.ms _ _ h1
    exact Or.inr (Or.inr ⟨h, m', e, by omega⟩)
/-- A reference leads nowhere, to an object, or out. -/
def RefOk (h : HSt) (x : Int × Nat) : Prop := x = (0, 0) ∨ (namesB x = true ∧ (x.1 = 1 → (getC h.cs x.2).isSome = true))
theorem own_cov (h : HSt) (p : PSt) (s r : Nat) (hs : (getC h.cs s).isSome = true) : ∃ m, getA (p.own h s r).ma s = some m ∧ m.1 ≤ r := by
  unfold PSt.own
  rw [if_pos hs]
  cases hm : getA p.ma s with
  | none =>
    have e := (push_ma { p with ma := putA p.ma s (r, true) } s).1
    exact ⟨(r, true), by rw [e]; show getA (putA p.ma s (r, true)) s = _; rw [getA_put, if_pos rfl], Nat.le_refl _⟩
  | some m =>
    obtain ⟨r0, g⟩ := m
    simp only
    by_cases h1 : r0 ≤ r
    · rw [if_pos h1]
      exact ⟨_, hm, h1⟩
    · rw [if_neg h1]
      cases g with
      | true =>
        rw [if_pos rfl]
        exact ⟨(r, true), by show getA (putA p.ma s (r, true)) s = _; rw [getA_put, if_pos rfl], Nat.le_refl _⟩
      | false =>
        rw [if_neg (by simp)]
        have e := (push_ma { p with ma := putA p.ma s (r, true) } s).1
        exact ⟨(r, true), by rw [e]; show getA (putA p.ma s (r, true)) s = _; rw [getA_put, if_pos rfl], Nat.le_refl _⟩
theorem meet_cov (p : PSt) (x : Int × Nat) (r : Nat) : ∃ q, getA (p.meet x r).me x = some q ∧ q ≤ r := by
  unfold PSt.meet
  cases hm : getA p.me x with
  | none => exact ⟨r, by show getA (putA p.me x r) x = _; rw [getA_put, if_pos rfl], Nat.le_refl _⟩
  | some r0 =>
    simp only
    by_cases h1 : r < r0
    · rw [if_pos h1]
      exact ⟨r, by show getA (putA p.me x r) x = _; rw [getA_put, if_pos rfl], Nat.le_refl _⟩
    · rw [if_neg h1]
      exact ⟨r0, hm, by omega⟩
theorem clampR_id {r : Nat} (h : r ≤ 40) : clampR (r : Int) = r := by unfold clampR; omega
theorem shade_cov {h : HSt} (hn : h.node = 1) (p : PSt) {x : Int × Nat} {r : Nat} (hr : r ≤ 40) (hx : RefOk h x) : Cov (p.shade h x (r : Int)) x r := by
  rcases hx with hx | ⟨h1, h2⟩
  · exact Or.inl hx
  · have hb := names_lt h1
    unfold PSt.shade
    rw [if_pos h1, clampR_id hr, hn]
    by_cases e : x.1 = ((1 : Nat) : Int)
    · rw [if_pos e]
      have e1 : x.1 = 1 := e
      obtain ⟨m, a, b⟩ := own_cov h p x.2 r (h2 e1)
      exact Or.inr (Or.inl ⟨e1, m, a, b⟩)
    · rw [if_neg e]
      obtain ⟨m, a, b⟩ := meet_cov p x r
      have e1 : ¬ x.1 = 1 := e
      exact Or.inr (Or.inr ⟨by omega, m, a, b⟩)
theorem all_cov {h : HSt} (hn : h.node = 1) {r : Nat} (hr : r ≤ 40) : ∀ (l : List (Int × Nat)) (p : PSt), (∀ x ∈ l, RefOk h x) → ∀ x ∈ l, Cov (p.all h l r) x r
  | [], _, _, x, hx => by cases hx
  | y :: l, p, hl, x, hx => by
    have e : p.all h (y :: l) r = (p.shade h y (r : Int)).all h l r := rfl
    rw [e]
    rcases List.mem_cons.1 hx with rfl | hx
    · exact (shade_cov hn p hr (hl x (by simp))).fall (all_keeps h r l _).1
    · exact all_cov hn hr l _ (fun z hz => hl z (by simp [hz])) x hx
/-- One that is black was black. -/
theorem own_black {h : HSt} {p : PSt} {s r k r0 : Nat} (hk : getA (p.own h s r).ma k = some (r0, false)) : getA p.ma k = some (r0, false) := by
  have hput : ∀ q : PSt, q.ma = putA p.ma s (r, true) → getA q.ma k = some (r0, false) → getA p.ma k = some (r0, false) := fun q hq h => by
    rw [hq, getA_put] at h
    by_cases e : k = s
    · rw [if_pos e] at h
      cases h
    · rw [if_neg e] at h
      exact h
  unfold PSt.own at hk
  split at hk
  · cases hm : getA p.ma s with
    | none =>
      rw [hm] at hk
      exact hput _ (push_ma { p with ma := putA p.ma s (r, true) } s).1 hk
    | some m =>
      obtain ⟨r1, g⟩ := m
      rw [hm] at hk
      simp only at hk
      by_cases h1 : r1 ≤ r
      · rw [if_pos h1] at hk
        exact hk
      · rw [if_neg h1] at hk
        cases g with
        | true =>
          rw [if_pos rfl] at hk
          exact hput _ rfl hk
        | false =>
          rw [if_neg (by simp)] at hk
          exact hput _ (push_ma { p with ma := putA p.ma s (r, true) } s).1 hk
  · exact hk
theorem meet_ma (p : PSt) (x : Int × Nat) (r : Nat) : (p.meet x r).ma = p.ma := by
  unfold PSt.meet
  split
  · rfl
  · split <;> rfl
theorem shade_black {h : HSt} {p : PSt} {x : Int × Nat} {r : Int} {k r0 : Nat} (hk : getA (p.shade h x r).ma k = some (r0, false)) : getA p.ma k = some (r0, false) := by
  unfold PSt.shade at hk
  split at hk
  · split at hk
    · exact own_black hk
    · rw [meet_ma] at hk
      exact hk
  · exact hk
theorem all_black {h : HSt} {r k r0 : Nat} : ∀ (l : List (Int × Nat)) (p : PSt), getA (p.all h l r).ma k = some (r0, false) → getA p.ma k = some (r0, false)
  | [], _, hk => hk
  | x :: l, p, hk => shade_black (all_black l (p.shade h x (r : Int)) hk)
/-- What every black object has. -/
def Tight (h : HSt) (p : PSt) : Prop := ∀ k o r, getC h.cs k = some o → getA p.ma k = some (r, false) → ∀ x ∈ o.rf, Cov p x r
theorem shade_tight {h : HSt} {p : PSt} (H : Tight h p) (x : Int × Nat) (r : Int) : Tight h (p.shade h x r) :=
  fun k o r0 ho hk y hy => (H k o r0 ho (shade_black hk) y hy).fall (shade_keeps h p x r).1
theorem scan_tight {h : HSt} (hn : h.node = 1) (hok : h.Ok) (hrf : ∀ k o, getC h.cs k = some o → ∀ x ∈ o.rf, RefOk h x) {p : PSt} (HG : Good p) (H : Tight h p) (s : Nat) : Tight h (p.scan h s) := by
  have hsk := scan_keeps hok p s
  unfold PSt.scan at hsk ⊢
  cases hg : getC h.cs s with
  | none => exact H
  | some o =>
    cases hm : getA p.ma s with
    | none => exact H
    | some m =>
      obtain ⟨r, gr⟩ := m
      cases gr with
      | false => exact H
      | true =>
        rw [hg, hm] at hsk
        simp only at hsk ⊢
        intro k o' r0 ho hk y hy
        have hb := all_black o.rf _ hk
        by_cases e : k = s
        · subst e
          have hb2 : getA (putA p.ma k (r, false)) k = some (r0, false) := hb
          rw [getA_put, if_pos rfl] at hb2
          cases hb2
          rw [hg] at ho
          cases ho
          exact all_cov hn (HG.rk k _ hm) o.rf _ (hrf k o hg) y hy
        · have hb2 : getA (putA p.ma s (r, false)) k = some (r0, false) := hb
          rw [getA_put, if_neg e] at hb2
          exact (H k o' r0 ho hb2 y hy).fall hsk.1
theorem new_tight (h : HSt) (M : Nat) : Tight h (PSt.new M) := fun k o r _ hk => by cases hk

/-- How much is left to be done at an object, at all of 1 to n. -/
def phi1 (p : PSt) (k : Nat) : Nat := match getA p.ma k with
  | none => 83
  | some (r, g) => 2 * r + (if g then 1 else 0)
def phi (n : Nat) (p : PSt) : Nat := ((List.range n).map (fun k => phi1 p (k + 1))).sum
theorem phi_mono {n : Nat} {p q : PSt} (h : ∀ k, phi1 q k ≤ phi1 p k) : phi n q ≤ phi n p := by
  unfold phi
  induction n with
  | zero => exact Nat.le_refl _
  | succ n ih =>
    rw [List.range_succ, List.map_append, List.sum_append, List.map_append, List.sum_append]
    have := h (n + 1)
    simp
    omega
theorem phi_less {n : Nat} {p q : PSt} (h : ∀ k, phi1 q k ≤ phi1 p k) {s : Nat} (h1 : 1 ≤ s) (h2 : s ≤ n) (h3 : phi1 q s < phi1 p s) : phi n q < phi n p := by
  induction n with
  | zero => omega
  | succ n ih =>
    have e : ∀ p, phi (n + 1) p = phi n p + phi1 p (n + 1) := fun p => by
      unfold phi
      rw [List.range_succ, List.map_append, List.sum_append]
      simp
    rw [e, e]
    by_cases hs : s = n + 1
    · subst hs
      have := phi_mono (n := n) h
      omega
    · have := ih (by omega)
      have := h (n + 1)
      omega
theorem own_phi {h : HSt} {p : PSt} {s r : Nat} (hr : r ≤ 40) : ∀ k, phi1 (p.own h s r) k ≤ phi1 p k := by
  intro k
  have hput : ∀ q : PSt, q.ma = putA p.ma s (r, true) → (∀ m, getA p.ma s = some m → r < m.1) → phi1 q k ≤ phi1 p k := fun q hq hv => by
    unfold phi1
    rw [hq, getA_put]
    by_cases e : k = s
    · subst e
      rw [if_pos rfl]
      simp only [if_true]
      cases hm : getA p.ma k with
      | none => simp only; omega
      | some m =>
        obtain ⟨r0, g⟩ := m
        have := hv _ hm
        simp only at this ⊢
        omega
    · rw [if_neg e]
      exact Nat.le_refl _
  unfold PSt.own
  split
  · cases hm : getA p.ma s with
    | none => exact hput _ (push_ma { p with ma := putA p.ma s (r, true) } s).1 (fun m h2 => by rw [hm] at h2; cases h2)
    | some m =>
      obtain ⟨r1, g⟩ := m
      simp only
      by_cases h1 : r1 ≤ r
      · rw [if_pos h1]
        exact Nat.le_refl _
      · rw [if_neg h1]
        have hv : ∀ m, getA p.ma s = some m → r < m.1 := fun m h2 => by
          rw [hm] at h2
          cases h2
          show r < r1
          omega
        cases g with
        | true =>
          rw [if_pos rfl]
          exact hput _ rfl hv
        | false =>
          rw [if_neg (by simp)]
          exact hput _ (push_ma { p with ma := putA p.ma s (r, true) } s).1 hv
  · exact Nat.le_refl _
theorem shade_phi (h : HSt) (p : PSt) (x : Int × Nat) (r : Int) : ∀ k, phi1 (p.shade h x r) k ≤ phi1 p k := by
  intro k
  unfold PSt.shade
  split
  · split
    · exact own_phi (clampR_le r) k
    · unfold phi1
      rw [meet_ma]
      exact Nat.le_refl _
  · exact Nat.le_refl _
theorem all_phi (h : HSt) (r : Nat) : ∀ (l : List (Int × Nat)) (p : PSt) (k : Nat), phi1 (p.all h l r) k ≤ phi1 p k
  | [], _, _ => Nat.le_refl _
  | x :: l, p, k => Nat.le_trans (all_phi h r l (p.shade h x (r : Int)) k) (shade_phi h p x r k)
/-- A scan does something, or nothing. -/
theorem scan_phi {n : Nat} (h : HSt) (p : PSt) {s : Nat} (h1 : 1 ≤ s) (h2 : s ≤ n) : (scanR h p s = true ∧ phi n (p.scan h s) < phi n p) ∨ (scanR h p s = false ∧ p.scan h s = p) := by
  unfold scanR PSt.scan
  cases hg : getC h.cs s with
  | none => exact Or.inr ⟨rfl, rfl⟩
  | some o =>
    cases hm : getA p.ma s with
    | none => exact Or.inr ⟨rfl, rfl⟩
    | some m =>
      obtain ⟨r, g⟩ := m
      cases g with
      | false => exact Or.inr ⟨rfl, rfl⟩
      | true =>
        left
        refine ⟨rfl, ?_⟩
        have hp1 : ∀ k, phi1 { p with ma := putA p.ma s (r, false) } k ≤ phi1 p k ∧ (k = s → phi1 { p with ma := putA p.ma s (r, false) } k < phi1 p k) := fun k => by
          unfold phi1
          show (match getA (putA p.ma s (r, false)) k with | none => 83 | some (r, g) => 2 * r + (if g then 1 else 0)) ≤ _ ∧ (_ → (match getA (putA p.ma s (r, false)) k with | none => 83 | some (r, g) => 2 * r + (if g then 1 else 0)) < _)
          rw [getA_put]
          by_cases e : k = s
          · subst e
            rw [if_pos rfl, hm]
            simp
          · rw [if_neg e]
            exact ⟨Nat.le_refl _, fun h => absurd h e⟩
        refine phi_less (fun k => Nat.le_trans (all_phi h r o.rf _ k) (hp1 k).1) h1 h2 (Nat.lt_of_le_of_lt (all_phi h r o.rf _ s) ((hp1 s).2 rfl))
/-- One that a scan does nothing at is not grey. -/
theorem scan_grey {h : HSt} {p : PSt} {s : Nat} (hs : (getC h.cs s).isSome = true) (h0 : scanR h p s = false) : ∀ m, getA p.ma s = some m → m.2 = false := by
  intro m hm
  unfold scanR at h0
  rw [hs, hm] at h0
  simpa using h0

end Go.Proofs.YtlabdbfmfejkaaaDoor
