/- MailPlays: two slices alike; what a box and a slice of one's own hold. -/
import Derived.Test.YteaoafdedjenaaaMlE
import Derived.Test.YteaoafdedjenaaaMlD
import Derived.Test.YteaoafdedjenaaaPick
import Derived.Deep.CutRange
import Derived.Deep.CutBlock
import Derived.Deep.QuietTactic
import Derived.BigQuiet
namespace Go.Proofs.Yteaoafdedjenaaa
open Go.RowKit Go.Conc

set_option maxRecDepth 20000 in
set_option maxHeartbeats 1000000 in
theorem ints_any (xs : List Int) (va vb : Value) (w : World) (ha : Vs w va (xs.map (Value.int .i64))) (hb : Vs w vb (xs.map (Value.int .i64))) (hl : xs.length ≤ 140737488355328) :
    Calls Try.prog 19 #[va, vb] w fun e w' => e = .returned (.bool true) ∧ Below w.heap.size w w' ∧ w'.heap.size = w.heap.size := by
  obtain ⟨ao, ac, hae, _, _⟩ := id ha
  obtain ⟨bo, bc, hbe, _, _⟩ := id hb
  rw [List.length_map] at hae hbe
  subst hae hbe
  go_enter Try.func19, Try.ntmps19
  go_wp2
  go_loopw [5] (fun i wr => ∃ k : Nat, k ≤ xs.length ∧ i = .int .i64 (k : Int) ∧ Below w.heap.size w wr ∧ wr.heap.size = w.heap.size) (fun i _ => xs.length - (intOf i).toNat)
  case atStart => exact ⟨0, Nat.zero_le _, rfl, Below.refl _ _, rfl⟩
  case round =>
    obtain ⟨k, hk, rfl, hbr, hsr⟩ := hrel
    by_cases hlt : k < xs.length
    · obtain ⟨b1, o1, hao, hbl1, hc1⟩ := (ha.below hbr).cell k (by simpa using hlt)
      obtain ⟨b2, o2, hbo, hbl2, hc2⟩ := (hb.below hbr).cell k (by simpa using hlt)
      subst hao hbo
      simp only [List.getElem_map] at hc1 hc2
      have hk0 : (k : Int) < (xs.length : Int) := by omega
      have HS : Hid (wr.heap.size = w.heap.size) := hsr
      clear hsr
      generalize xs[k] = x at *
      go_wp2
      go_quiet (fail)
      go_wp2
      go_roundw
      case rel => exact ⟨k + 1, by omega, by go_num, hbr.trans ((below_drewN0 _ _).mono (by rw [HS.out]; exact Nat.le_refl _)), HS.out⟩
      case measure => simp [intOf]; omega
    · go_wp2
      go_ret
      exact ⟨rfl, hbr, hsr⟩

theorem Win.blk {w : World} {g : Option Nat} {b o n cap : Nat} {T : TypeId} {xs : List Value} (h : Win w g (.slice (some ⟨b, o, none⟩) n cap) T xs) : g = some b ∧ b < w.heap.size ∧ n = xs.length := by
  obtain ⟨⟨_, h, _⟩ | ⟨b', off, cap', cur, hg, hs, hb, _⟩⟩ := h
  · cases h
  · simp only [Value.slice.injEq, Option.some.injEq, Addr.mk.injEq] at hs
    obtain ⟨⟨rfl, rfl, _⟩, rfl, rfl⟩ := hs
    exact ⟨hg, (Array.getElem?_eq_some_iff.1 hb).1, rfl⟩
/-- What is left of a window of one place whose one element goes. -/
theorem Win.last {w : World} {g : Option Nat} {b o n : Nat} {T : TypeId} {x : Value} {xs : List Value} (h : Win w g (.slice (some ⟨b, o, none⟩) n 1) T (x :: xs)) : xs = [] ∧ Win w g (.slice (some ⟨b, o, none⟩) 0 0) T [] := by
  obtain ⟨⟨_, h, _⟩ | ⟨b', off, cap', cur, hg, hs, hb, h1, h2, h3, h4⟩⟩ := h
  · cases h
  · simp only [Value.slice.injEq, Option.some.injEq, Addr.mk.injEq] at hs
    obtain ⟨⟨rfl, rfl, _⟩, rfl, rfl⟩ := hs
    refine ⟨List.eq_nil_of_length_eq_zero (by simpa using h1), ⟨Or.inr ⟨b, o, 0, cur, hg, rfl, hb, Nat.le_refl _, Nat.zero_le _, by omega, fun i u hu => by simp at hu⟩⟩⟩

/-- A box of M at g, and a slice of one's own, hold q. -/
structure PI (w wr : World) (g M : Nat) (q : List Int) (iv : Value) : Prop where
  b : BX wr 49 (g + 1) g M (q.map (Value.int .i64))
  le : q.length ≤ M
  win : ∃ go, Win wr go iv 3 (q.map (Value.int .i64)) ∧ ∀ b, go = some b → g + 1 < b
  bel : Below g w wr
theorem PI.slice {w wr : World} {g M : Nat} {q : List Int} {iv : Value} (h : PI w wr g M q iv) : ∃ ao cap, iv = .slice ao q.length cap := by
  obtain ⟨go, hw, _⟩ := h.win
  obtain ⟨ao, cap, e⟩ := hw.slice
  exact ⟨ao, cap, by rw [e, List.length_map]⟩
theorem PI.below {w wr w' : World} {g M : Nat} {q : List Int} {iv : Value} (h : PI w wr g M q iv) (hb : Below wr.heap.size wr w') : PI w w' g M q iv := by
  obtain ⟨go, hw, hg⟩ := h.win
  have hk := kept_of_below hb (fun _ => False)
  exact ⟨h.b.kept hk id id, h.le, ⟨go, hw.kept hk (fun _ _ => id), hg⟩, h.bel.trans (hb.mono (Nat.le_of_lt h.b.lt.2))⟩
/-- The box turned: the slice is as it was. -/
theorem PI.turn {w wr w' : World} {g M : Nat} {q : List Int} {iv : Value} (h : PI w wr g M q iv) (hk : Kept wr w' (fun i => i = g)) : (∃ go, Win w' go iv 3 (q.map (Value.int .i64)) ∧ ∀ b, go = some b → g + 1 < b) ∧ Below g w w' := by
  obtain ⟨go, hw, hg⟩ := h.win
  exact ⟨⟨go, hw.kept hk (fun b hb => by have := hg b hb; show ¬ (b = g); omega), hg⟩, h.bel.trans (hk.below (Nat.le_of_lt h.b.lt.2) (fun i hi => by show ¬ (i = g); omega))⟩

end Go.Proofs.Yteaoafdedjenaaa
