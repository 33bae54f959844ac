/- The plain heap: Ref, Val, SetVal, SetIn; ID. -/
import Derived.Test.YtbgaejjoomnklaaDoorHpT
import Derived.Deep.RegionHeld
namespace Go.Proofs.YtbgaejjoomnklaaDoor
open Go.RowKit

set_option maxRecDepth 20000 in
set_option maxHeartbeats 400000 in
theorem rid_any (a : Int) (n : Nat) (w : World) :
    Calls Tryd.prog 61 #[.agg #[.int .i64 a, .int .u64 (n : Int)]] w fun e w' => e = .returned (.bool (rightI (a, n))) ∧ Below w.heap.size w w' := by
  by_cases hz : a = 0
  · subst hz
    have e : rightI (0, n) = ((n : Int) == 0) := by
      by_cases hn : n = 0
      · subst hn; rfl
      · rw [rightI_no (by omega) (by omega)]
        symm
        rw [beq_eq_false_iff_ne]
        omega
    rw [e]
    go_enter Tryd.func61, Tryd.ntmps61
    go_wp2
    go_ret
    exact ⟨rfl, (Below.refl _ _).alloc (Nat.le_refl _) _⟩
  have hzi : (a == 0) = false := by rw [beq_eq_false_iff_ne]; exact hz
  have hz' : ¬ (a = 0 ∧ n = 0) := fun e => hz e.1
  by_cases h1 : 1 ≤ a
  · by_cases h1' : a ≤ 64
    · by_cases h2 : 1 ≤ n
      · have h2i : (1 : Int) ≤ (n : Int) := by omega
        by_cases h3 : n ≤ 72057594037927935
        · have h3i : (n : Int) ≤ 72057594037927935 := by omega
          rw [rightI_yes (Or.inr ⟨h1, h1', h2, h3⟩)]
          clear h2 h3 hz hz'
          go_enter Tryd.func61, Tryd.ntmps61
          go_wp2
          go_ret
          exact ⟨rfl, (Below.refl _ _).alloc (Nat.le_refl _) _⟩
        · have h3i : decide ((n : Int) ≤ 72057594037927935) = false := decide_eq_false (by omega)
          rw [rightI_no hz' (fun e => h3 e.2.2.2)]
          clear h2 h3 hz hz'
          go_enter Tryd.func61, Tryd.ntmps61
          go_wp2
          go_ret
          exact ⟨rfl, (Below.refl _ _).alloc (Nat.le_refl _) _⟩
      · have h2i : decide ((1 : Int) ≤ (n : Int)) = false := decide_eq_false (by omega)
        rw [rightI_no hz' (fun e => h2 e.2.2.1)]
        clear h2 hz hz'
        go_enter Tryd.func61, Tryd.ntmps61
        go_wp2
        go_ret
        exact ⟨rfl, (Below.refl _ _).alloc (Nat.le_refl _) _⟩
    · have h1d : decide (a ≤ 64) = false := decide_eq_false h1'
      rw [rightI_no hz' (fun e => h1' e.2.1)]
      clear hz hz' h1'
      go_enter Tryd.func61, Tryd.ntmps61
      go_wp2
      go_ret
      exact ⟨rfl, (Below.refl _ _).alloc (Nat.le_refl _) _⟩
  · have h1d : decide (1 ≤ a) = false := decide_eq_false h1
    rw [rightI_no hz' (fun e => h1 e.1)]
    clear hz hz' h1
    go_enter Tryd.func61, Tryd.ntmps61
    go_wp2
    go_ret
    exact ⟨rfl, (Below.refl _ _).alloc (Nat.le_refl _) _⟩

section
variable {w : World} {rb ra rc rt : Nat} {lv : Value} {h : HSt} {M : List Pl}
set_option maxRecDepth 20000 in
set_option maxHeartbeats 1000000 in
theorem rref_any (x : RX w rb ra rc rt lv h M) (s : Nat) (f : Int) :
    Calls Tryd.prog 62 #[.pointer (some ⟨rb, 0, none⟩), .int .u64 (s : Int), .int .i64 f] w fun e w' => e = .returned (.tuple #[.agg #[.int .i64 (refR h.cs s f).1.1, .int .u64 ((refR h.cs s f).1.2 : Int)], .int .i64 ((refR h.cs s f).2 : Int)]) ∧ Below w.heap.size w w' := by
  have hA : Below w.heap.size w (w.alloc (.cells #[.int .i64 0, .int .u64 0] 31)) := (Below.refl _ _).alloc (Nat.le_refl _) _
  have x1 := x.below hA
  have hG := rget_any x1 s
  unfold ptrOf at hG
  cases hg : getP M s with
  | none =>
    rw [refR_no (fun o ho => by rw [x.get, hg] at ho; cases ho)]
    rw [hg] at hG
    simp only [Option.map_none] at hG
    go_enter Tryd.func62, Tryd.ntmps62
    go_wp2_with (go_at_call 63; refine hG.mono ?_; rintro e _ ⟨rfl, rfl⟩)
    refine bodyPost_ret (v := .tuple #[.agg #[.int .i64 0, .int .u64 0], .int .i64 5]) (by simp [results, Tryd.results62, go_sem, *]) rfl ⟨rfl, ?_⟩
    exact (Below.refl _ _).alloc (Nat.le_refl _) _
  | some p =>
    have hp := (getP_mem hg).1
    have hgc : getC h.cs s = some p.o := by rw [x.get, hg]; rfl
    rw [hg] at hG
    simp only [Option.map_some] at hG
    have d2 := x1.pc hp 2 _ rfl
    have hfl := (x.fl hp).1
    by_cases hf : f < 0
    · rw [refR_no (fun o ho => by rw [hgc] at ho; cases ho; exact Or.inl hf)]
      generalize p.o.rf.length = n at *
      go_enter Tryd.func62, Tryd.ntmps62
      go_wp2_with (go_at_call 63; refine hG.mono ?_; rintro e _ ⟨rfl, rfl⟩)
      refine bodyPost_ret (v := .tuple #[.agg #[.int .i64 0, .int .u64 0], .int .i64 5]) (by simp [results, Tryd.results62, go_sem, *]) rfl ⟨rfl, ?_⟩
      exact (Below.refl _ _).alloc (Nat.le_refl _) _
    by_cases hf2 : (p.o.rf.length : Int) ≤ f
    · rw [refR_no (fun o ho => by rw [hgc] at ho; cases ho; exact Or.inr hf2)]
      generalize p.o.rf.length = n at *
      go_enter Tryd.func62, Tryd.ntmps62
      go_wp2_with (go_at_call 63; refine hG.mono ?_; rintro e _ ⟨rfl, rfl⟩)
      refine bodyPost_ret (v := .tuple #[.agg #[.int .i64 0, .int .u64 0], .int .i64 5]) (by simp [results, Tryd.results62, go_sem, *]) rfl ⟨rfl, ?_⟩
      exact (Below.refl _ _).alloc (Nat.le_refl _) _
    · obtain ⟨i, rfl⟩ : ∃ i : Nat, f = (i : Int) := ⟨f.toNat, by omega⟩
      have hi : i < p.o.rf.length := by omega
      rw [refR_ok hgc hi]
      obtain ⟨r0, r1⟩ := x1.rc' hp i hi
      have hii : (i : Int) < (p.o.rf.length : Int) := by omega
      generalize p.o.rf[i] = y at *
      generalize p.o.rf.length = n at *
      clear hf2 hf
      go_enter Tryd.func62, Tryd.ntmps62
      go_wp2_with (go_at_call 63; refine hG.mono ?_; rintro e _ ⟨rfl, rfl⟩)
      refine bodyPost_ret (v := .tuple #[.agg #[.int .i64 y.1, .int .u64 (y.2 : Int)], .int .i64 0]) (by simp [results, Tryd.results62, go_sem, *]) rfl ⟨rfl, ?_⟩
      exact (Below.refl _ _).alloc (Nat.le_refl _) _

theorem valR_some (x : RX w rb ra rc rt lv h M) {s : Nat} {f : Int} (hE : (valR h.cs s f).2 = 0) : ∃ p i, getP M s = some p ∧ f = (i : Nat) ∧ i < p.o.vl.length := by
  unfold valR at hE
  rw [x.get] at hE
  cases hg : getP M s with
  | none => rw [hg] at hE; cases hE
  | some p =>
    rw [hg] at hE
    simp only [Option.map_some] at hE
    split at hE
    · next hf => exact ⟨p, f.toNat, rfl, by omega, by omega⟩
    · cases hE
theorem rrefR_some (x : RX w rb ra rc rt lv h M) {s : Nat} {f : Int} (hE : (refR h.cs s f).2 = 0) : ∃ p i, getP M s = some p ∧ f = (i : Nat) ∧ i < p.o.rf.length := by
  unfold refR at hE
  rw [x.get] at hE
  cases hg : getP M s with
  | none => rw [hg] at hE; cases hE
  | some p =>
    rw [hg] at hE
    simp only [Option.map_some] at hE
    split at hE
    · next hf => exact ⟨p, f.toNat, rfl, by omega, by omega⟩
    · cases hE
theorem kept_r {w' : World} {k0 : Nat} (hk : Kept w w' (fun k => k = k0)) (hm : k0 ∈ rBl rb ra rc rt lv M) : Kept w w' (fun k => k ∈ rBl rb ra rc rt lv M) :=
  hk.mono (fun k _ e => by have e' : k = k0 := e; rw [e']; exact hm)
end

end Go.Proofs.YtbgaejjoomnklaaDoor
