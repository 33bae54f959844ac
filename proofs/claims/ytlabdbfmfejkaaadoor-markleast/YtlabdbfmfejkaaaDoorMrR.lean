/- MarkLeast, reckoned. -/
import Derived.Test.YtlabdbfmfejkaaaDoorMrK
import Derived.Test.YtlabdbfmfejkaaaDoorMpS
namespace Go.Proofs.YtlabdbfmfejkaaaDoor
open Go.RowKit

theorem step_fall {h : HSt} (ok : h.Ok) (p : PSt) (m : MSt) : Fall p (stepR h p m).2.1 := by
  have h0 : ∀ q : PSt, q.ma = p.ma → q.me = p.me → Fall p q := fun q e1 e2 => ⟨fun _ m h => ⟨m, by rw [e1]; exact h, Nat.le_refl _⟩, by rw [e2]; exact Nat.le_refl _, fun _ r h => ⟨r, by rw [e2]; exact h, Nat.le_refl _⟩⟩
  have ht : ∀ m : MSt, Fall p (tailR h p m).2.1 := fun m => by
    unfold tailR
    split
    · exact h0 p.rest rfl rfl
    · split
      · exact Fall.refl p
      · next o _ =>
        show Fall p (if 0 < o.d then p.shade h ((h.node : Int), o.s) (o.d : Int) else p)
        split
        · exact (shade_keeps h p _ _).1
        · exact Fall.refl p
  unfold stepR
  split
  · next a _ => exact (h0 p.pop rfl rfl).trans (scan_keeps ok p.pop a).1
  · split
    · split
      · next o _ => exact (scan_keeps ok p o.s).1
      · exact ht _
    · exact ht _
/-- The roots of a list of numbers. -/
def rsL (l : List Int) (n : Nat) : List (Int × Nat) := l.map (fun z => (1, 1 + pickN z n))
theorem rsL_snoc (l : List Int) (z : Int) (n : Nat) : rsL (l ++ [z]) n = rsL l n ++ [(1, 1 + pickN z n)] := by simp [rsL]
theorem rsL_len (l : List Int) (n : Nat) : (rsL l n).length = l.length := by simp [rsL]
theorem rsL_in {l : List Int} {n : Nat} (hn : 0 < n) : ∀ r ∈ rsL l n, r.1 = 1 ∧ 1 ≤ r.2 ∧ r.2 ≤ n := fun r hr => by
  obtain ⟨z, _, rfl⟩ := List.mem_map.1 hr
  have := pickN_lt z n hn
  exact ⟨rfl, by simp, by simp; omega⟩
/-- It is held so by others. -/
def HeldL (h : HSt) (k r : Nat) : Prop := ∃ o ∈ h.cs, o.s = k ∧ 0 < o.d ∧ o.d = r
theorem heldL_src (h : HSt) (p : PSt) (k r : Nat) (e : HeldL h k r) : (∃ mk, getA p.ma k = some mk ∧ mk.1 ≤ r) ∨ ∃ o ∈ h.cs, o.s = k ∧ 0 < o.d ∧ o.d ≤ r := by
  obtain ⟨o, h1, h2, h3, h4⟩ := e
  exact Or.inr ⟨o, h1, h2, h3, by omega⟩
/-- From where ranks come: what others hold, and roots. -/
def SrcL (h : HSt) (l : List (Int × Nat)) (k r : Nat) : Prop := HeldL h k r ∨ (r = 0 ∧ (1, k) ∈ l)
/-- What marking keeps. -/
structure MJ (h : HSt) (l : List (Int × Nat)) (q : List (Int × Nat)) (p : PSt) (m : MSt) : Prop where
  mi : MI h (SrcL h l) p m
  rt : ∀ k, (1, k) ∈ q → ∃ mk, getA p.ma k = some mk ∧ mk.1 ≤ 0
section
variable {h : HSt} {l q : List (Int × Nat)} {p : PSt} {m : MSt} {g : Gr} {n : Nat}
theorem MJ.step (H : MJ h l q p m) (hh : MH h (SrcL h l)) : MJ h l q (stepR h p m).2.1 (stepR h p m).2.2 :=
  ⟨H.mi.step hh, fun k hk => by
    obtain ⟨mk, h1, h2⟩ := H.rt k hk
    obtain ⟨mk', h3, h4⟩ := (step_fall hh.ok p m).ma k mk h1
    exact ⟨mk', h3, by omega⟩⟩
theorem MJ.root (H : MJ h l q p m) (hh : MH h (SrcL h l)) {s : Nat} (hs : (1, s) ∈ l) (hg : (getC h.cs s).isSome = true) : MJ h l (q ++ [(1, s)]) (p.shade h (1, s) 0) m := by
  refine ⟨H.mi.src hh (r := 0) (by omega) (Or.inr ⟨rfl, hs⟩), fun k hk => ?_⟩
  rcases List.mem_append.1 hk with hk | hk
  · obtain ⟨mk, h1, h2⟩ := H.rt k hk
    obtain ⟨mk', h3, h4⟩ := (shade_keeps h p (1, s) 0).1.ma k mk h1
    exact ⟨mk', h3, by omega⟩
  · rw [List.mem_singleton] at hk
    cases hk
    exact MH.rank p hh (r := 0) (by omega) hg
theorem MJ.hsrc (H : MJ h l l p m) : ∀ k r, SrcL h l k r → (∃ mk, getA p.ma k = some mk ∧ mk.1 ≤ r) ∨ ∃ o ∈ h.cs, o.s = k ∧ 0 < o.d ∧ o.d ≤ r := fun k r hs => by
  rcases hs with hs | ⟨rfl, hs⟩
  · exact heldL_src h p k r hs
  · exact Or.inl (H.rt k hs)
/-- The edges of a graph's heap. -/
def EdL (h : HSt) (k x : Nat) : Prop := ∃ o, getC h.cs k = some o ∧ ∃ y ∈ o.rf, y.1 = 1 ∧ y.2 = x
theorem m2_rf (m2 : M2 g n n 0 h) {i : Nat} (hi : i < n) : ∃ o, getC h.cs (i + 1) = some o ∧ ∀ y, y ∈ o.rf ↔ ∃ k, k < fl g i ∧ targetR g i k n = y := by
  obtain ⟨o, h1, h2, h3⟩ := m2.at_ i hi
  refine ⟨o, h1, fun y => ⟨fun hy => ?_, ?_⟩⟩
  · obtain ⟨k, hk, e⟩ := List.getElem_of_mem hy
    have := h3 k (by omega) (Or.inl hi)
    rw [List.getElem?_eq_getElem hk] at this
    simp only [Option.some.injEq] at this
    exact ⟨k, by omega, this.symm.trans e⟩
  · rintro ⟨k, hk, rfl⟩
    exact List.mem_of_getElem? (h3 k hk (Or.inl hi))
theorem target_in {i q n x : Nat} (hn : 0 < n) (e : targetR g i q n = (1, x)) : 1 ≤ x ∧ x ≤ n := by
  unfold targetR targetF at e
  have p2 := pickN_lt (rawR g i q) 2 (by omega)
  have pn := pickN_lt (rawR g i q) n hn
  split at e
  · simp at e
  · split at e
    · simp only [Prod.mk.injEq] at e
      omega
    · simp only [Prod.mk.injEq] at e
      omega
theorem edV_m2 (m2 : M2 g n n 0 h) : EdV g n (EdL h) (Rch h (SrcL h l)) := by
  refine ⟨fun i q x hi hq e => ?_, fun i x hi he => ?_, fun i x r he hr => ?_⟩
  · obtain ⟨o, h1, h2⟩ := m2_rf m2 hi
    exact ⟨⟨o, h1, (1, x), (h2 _).2 ⟨q, hq, e⟩, rfl, rfl⟩, target_in (by omega) e⟩
  · obtain ⟨o, h1, h2⟩ := m2_rf m2 hi
    obtain ⟨o', h3, y, h4, h5, h6⟩ := he
    rw [h1] at h3
    cases h3
    obtain ⟨k, hk, e⟩ := (h2 y).1 h4
    exact ⟨k, hk, by rw [e]; exact Prod.ext h5 h6⟩
  · obtain ⟨o, h1, y, h2, h3, rfl⟩ := he
    exact Rch.ref hr h1 h2 h3
theorem ini_src (m2 : M2 g n n 0 h) (hl : ∀ r ∈ l, r.1 = 1 ∧ 1 ≤ r.2 ∧ r.2 ≤ n) (j : Nat) (hj : 0 ≤ ini2 g n l j) : 1 ≤ j ∧ j ≤ n ∧ Rch h (SrcL h l) j (ini2 g n l j).toNat := by
  unfold ini2 at *
  by_cases e : (1, j) ∈ l
  · rw [if_pos e]
    obtain ⟨_, h1, h2⟩ := hl _ e
    exact ⟨h1, h2, Rch.src (Or.inr ⟨rfl, e⟩)⟩
  · rw [if_neg e] at hj ⊢
    unfold ini1 at *
    by_cases e2 : 1 ≤ j ∧ j ≤ n ∧ 0 < distR g (j - 1)
    · rw [if_pos e2]
      obtain ⟨o, h1, h2⟩ := m2.dis (j - 1) (by omega)
      have ej : j - 1 + 1 = j := by omega
      rw [ej] at h1
      obtain ⟨h3, h4⟩ := getC_mem h1
      exact ⟨e2.1, e2.2.1, Rch.src (Or.inl ⟨o, h3, h4, by omega, by omega⟩)⟩
    · rw [if_neg e2] at hj
      omega
theorem src_ini (m2 : M2 g n n 0 h) (ok : h.Ok) {f : Nat → Int} (hf : ∀ j, 0 ≤ ini2 g n l j → 0 ≤ f j ∧ f j ≤ ini2 g n l j) (k r : Nat) (hs : SrcL h l k r) : 0 ≤ f k ∧ f k ≤ (r : Int) := by
  have key : 0 ≤ ini2 g n l k ∧ ini2 g n l k ≤ (r : Int) := by
    unfold ini2
    by_cases e : (1, k) ∈ l
    · rw [if_pos e]; omega
    · rw [if_neg e]
      rcases hs with ⟨o, h1, h2, h3, h4⟩ | ⟨_, h1⟩
      · have hle := ok.le o h1
        rw [h2, m2.last] at hle
        obtain ⟨o', h5, h6⟩ := m2.dis (k - 1) (by omega)
        have ek : k - 1 + 1 = k := by omega
        rw [ek] at h5
        have h7 := getC_of_mem ok h1
        rw [h2, h5] at h7
        cases h7
        unfold ini1
        rw [if_pos ⟨by omega, by omega, by omega⟩]
        omega
      · exact absurd h1 e
  have := hf k key.1
  omega
/-- What the least rank of those that lead to a reference is, so far. -/
structure Lst (g : Gr) (n : Nat) (f : Nat → Int) (x : Int × Nat) (i k : Nat) (v : Int) : Prop where
  lo : ∀ j q, (j < i ∧ q < fl g j ∨ j = i ∧ q < k) → 0 ≤ f (j + 1) → targetR g j q n = x → v ≤ f (j + 1)
  wit : v = 41 ∨ ∃ j q, j < n ∧ q < fl g j ∧ 0 ≤ f (j + 1) ∧ targetR g j q n = x ∧ v = f (j + 1)
theorem Lst.new {f : Nat → Int} {x : Int × Nat} : Lst g n f x 0 0 41 := ⟨fun j q h => by omega, Or.inl rfl⟩
theorem Lst.look {f : Nat → Int} {x : Int × Nat} {i k : Nat} {v : Int} (H : Lst g n f x i k v) (hi : i < n) (hk : k < fl g i) (h0 : 0 ≤ f (i + 1)) (e : targetR g i k n = x) : Lst g n f x i (k + 1) (min v (f (i + 1))) := by
  refine ⟨fun j q hj h1 h2 => ?_, ?_⟩
  · by_cases e2 : j = i ∧ q = k
    · obtain ⟨rfl, rfl⟩ := e2
      omega
    · have := H.lo j q (by omega) h1 h2
      omega
  · by_cases hv : v ≤ f (i + 1)
    · rw [Int.min_eq_left hv]
      exact H.wit
    · rw [Int.min_eq_right (by omega)]
      exact Or.inr ⟨i, k, hi, hk, h0, e, rfl⟩
theorem Lst.pass {f : Nat → Int} {x : Int × Nat} {i k : Nat} {v : Int} (H : Lst g n f x i k v) (e : targetR g i k n ≠ x) : Lst g n f x i (k + 1) v := by
  refine ⟨fun j q hj h1 h2 => ?_, H.wit⟩
  by_cases e2 : j = i ∧ q = k
  · obtain ⟨rfl, rfl⟩ := e2
    exact absurd h2 e
  · exact H.lo j q (by omega) h1 h2
theorem Lst.up {f : Nat → Int} {x : Int × Nat} {i k : Nat} {v : Int} (H : Lst g n f x i k v) (e : f (i + 1) < 0 ∨ k = fl g i) : Lst g n f x (i + 1) 0 v := by
  refine ⟨fun j q hj h1 h2 => ?_, H.wit⟩
  by_cases e2 : j = i
  · subst e2
    rcases e with e | e
    · omega
    · exact H.lo j q (by omega) h1 h2
  · exact H.lo j q (by omega) h1 h2
/-- It is with which it was met. -/
theorem Lst.ends {f : Nat → Int} {x : Int × Nat} {v : Int} {r : Nat} (H : Lst g n f x n 0 v) (m2 : M2 g n n 0 h) (hin : ∀ k o, getC h.cs k = some o → 1 ≤ k ∧ k ≤ n) (J : MJ h l l p m) (hI : Idle h p m) (hx : getA p.me x = some r) (hnm : namesB x = true)
    (hf : ∀ k, (getA p.ma k = none ∧ f k = -1) ∨ ∃ r : Nat, getA p.ma k = some (r, false) ∧ f k = (r : Int)) : v = (r : Int) := by
  have hb := names_lt hnm
  obtain ⟨k, o, h1, h2, h3, h4⟩ := J.mi.snd.me x r hx
  obtain ⟨mk, h5, h6⟩ := J.mi.least hI J.hsrc k r h4
  have hk := hin k o h1
  have hfk : f k = (mk.1 : Int) := by
    rcases hf k with ⟨e, _⟩ | ⟨r', e, e2⟩
    · rw [h5] at e; cases e
    · rw [h5] at e
      cases e
      exact e2
  obtain ⟨j, rfl⟩ : ∃ j, k = j + 1 := ⟨k - 1, by omega⟩
  obtain ⟨o', h7, h8⟩ := m2_rf m2 (i := j) (by omega)
  rw [h1] at h7
  cases h7
  obtain ⟨q, h9, h10⟩ := (h8 x).1 h2
  have hlo := H.lo j q (Or.inl ⟨by omega, h9⟩) (by omega) h10
  have hr40 : (mk.1 : Int) ≤ 40 := by
    have := J.mi.good.rk _ _ h5
    omega
  rcases H.wit with e | ⟨j', q', a1, a2, a3, a4, a5⟩
  · omega
  · obtain ⟨o2, b1, b2⟩ := m2_rf m2 a1
    rcases hf (j' + 1) with ⟨_, e⟩ | ⟨r', e, e2⟩
    · omega
    · obtain ⟨r'', c1, c2⟩ := J.mi.met hI b1 ((b2 x).2 ⟨q', a2, a4⟩) (by omega) e rfl
      rw [hx] at c1
      cases c1
      simp only at c2
      omega
end
section
variable {w0 w w' : World} {B pb hb : Nat} {h : HSt} {p : PSt} {X : Nat → Prop}
/-- New blocks stay, too, and some that stay are written. -/
theorem PH.fresh2 (x : PH w0 B w pb hb h p X) {S : Nat → Prop} (hk : Kept w w' S) (hS : ∀ k, S k → k < w.heap.size → X k ∧ B ≤ k) : PH w0 B w' pb hb h p (fun k => X k ∨ (w.heap.size ≤ k ∧ k < w'.heap.size)) := by
  have hk' : Kept w w' (fun k => X k ∧ B ≤ k) := hk.mono (fun k hl e => hS k e hl)
  have hs := hk.size
  obtain ⟨F0, G0, hp0, hn0, hF0, hG0⟩ := x.ex
  have l1 := hp0.lt
  have l2 := hn0.lt
  have hpos := x.pos
  refine ⟨⟨F0, G0, hp0.kept hk' (fun e => by have := e.2; omega) (fun k a b => (hF0 k a).2.1 b.1), hn0.kept hk' (fun k a b => hG0 k a b.1), fun k a => ⟨(hF0 k a).1, fun e => ?_, (hF0 k a).2.2⟩, fun k a e => ?_⟩, x.bel.trans (hk'.below x.le (fun i hi e => by have := e.2; omega)), Nat.le_trans x.le hs, fun k e => ?_, x.pos⟩
  · rcases e with e | e
    · exact (hF0 k a).2.1 e
    · have := l1 k a; omega
  · rcases e with e | e
    · exact hG0 k a e
    · have := l2 k a; omega
  · rcases e with e | e
    · exact Nat.lt_of_lt_of_le (x.xs k e) hs
    · exact e.2
theorem sr_one (w : World) (pk : Nat) (T : TypeId) : Sr (w.alloc (.cells #[.int .i64 1, .int .u64 (1 + (pk : Int))] T)) (.slice (some ⟨w.heap.size, 0, none⟩) 1 1) 2 [((1 : Int), 1 + pk)].length (idsV [((1 : Int), 1 + pk)]) := by
  have h := sr_id w 1 (1 + pk) T
  have e : ((1 + pk : Nat) : Int) = 1 + (pk : Int) := by omega
  rw [e] at h
  exact h
end
end Go.Proofs.YtlabdbfmfejkaaaDoor
