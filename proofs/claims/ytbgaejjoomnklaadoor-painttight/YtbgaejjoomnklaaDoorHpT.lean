/- The plain heap: Get, Ref, Val, Next. -/
import Derived.Test.YtbgaejjoomnklaaDoorHpS
namespace Go.Proofs.YtbgaejjoomnklaaDoor
open Go.RowKit

def ptrOf (o : Option Pl) : Value := .pointer (o.map (fun p => ⟨p.pb, 0, none⟩))
theorem getP_first {M : List Pl} {s k : Nat} (hk : k < M.length) (h0 : ∀ p ∈ M.take k, p.o.s ≠ s) (h1 : M[k].o.s = s) : getP M s = some M[k] := by
  unfold getP
  rw [List.find?_eq_some_iff_getElem]
  refine ⟨by simpa using h1, k, hk, rfl, fun j hj => ?_⟩
  have : M[j] ∈ M.take k := by
    rw [List.mem_take_iff_getElem]
    exact ⟨j, by omega, rfl⟩
  simpa using h0 _ this
theorem getP_none {M : List Pl} {s : Nat} (h0 : ∀ p ∈ M, p.o.s ≠ s) : getP M s = none := by
  unfold getP
  rw [List.find?_eq_none]
  intro p hp
  simpa using h0 p hp
theorem take_pl {q : Pl → Prop} {M : List Pl} {k : Nat} (hk : k < M.length) (h0 : ∀ p ∈ M.take k, q p) (h : q M[k]) : ∀ p ∈ M.take (k + 1), q p := by
  intro p hp
  rw [List.take_succ_eq_append_getElem hk, List.mem_append] at hp
  rcases hp with hp | hp
  · exact h0 p hp
  · simp only [List.mem_singleton] at hp
    rw [hp]; exact h

section
variable {w : World} {rb ra rc rt : Nat} {lv : Value} {h : HSt} {M : List Pl}
set_option maxRecDepth 20000 in
set_option maxHeartbeats 1000000 in
theorem rget_any (x : RX w rb ra rc rt lv h M) (s : Nat) :
    Calls Tryd.prog 63 #[.pointer (some ⟨rb, 0, none⟩), .int .u64 (s : Int)] w fun e w' => e = .returned (ptrOf (getP M s)) ∧ w = w' := by
  have c4 := x.c4
  have hfew := x.few
  obtain ⟨ao, cap, hlv, hcap, _, _⟩ := x.slice
  go_enter Tryd.func63, Tryd.ntmps63
  go_wp2
  go_loop [5] (fun i => ∃ k : Nat, k ≤ M.length ∧ i = .int .i64 (k : Int) ∧ ∀ p ∈ M.take k, p.o.s ≠ s) (fun i => M.length - (intOf i).toNat)
  case atStart => exact ⟨0, Nat.zero_le _, rfl, by simp⟩
  case round =>
    obtain ⟨k, hk, rfl, h0⟩ := hrel
    by_cases hlt : (k : Int) < (M.length : Int)
    · have hkl : k < M.length := by omega
      obtain ⟨g, cap', hlv', hcap', hgl, hat⟩ := x.at k hkl
      rw [hlv'] at c4
      have hc := hat k hkl
      have hs := x.pc (List.getElem_mem hkl) 0 _ rfl
      have HK : Hid (k + 1 ≤ M.length) := by
        have e : k + 1 ≤ M.length := by omega
        exact e
      have HT : Hid (¬ M[k].o.s = s → ∀ p ∈ M.take (k + 1), p.o.s ≠ s) := fun e => take_pl (q := fun p => p.o.s ≠ s) hkl h0 e
      have HF : Hid (M[k].o.s = s → getP M s = some M[k]) := fun e => getP_first hkl h0 e
      clear hlv hlv' hat h0 x
      by_cases he : M[k].o.s = s
      · have hei : ((M[k].o.s : Int) == (s : Int)) = true := by rw [beq_iff_eq]; omega
        have HP : Hid _ := hidden (HF.out he)
        generalize M[k] = p at *
        clear he HF HT
        go_wp2
        go_ret
        rw [HP.out]
        exact ⟨rfl, rfl⟩
      · have hei : ((M[k].o.s : Int) == (s : Int)) = false := by rw [beq_eq_false_iff_ne]; omega
        have HT' : Hid _ := hidden (HT.out he)
        generalize M[k] = p at *
        clear he HF HT
        go_wp2
        go_round
        case rel => exact ⟨k + 1, HK.out, by go_num, HT'.out⟩
        case measure => have := HK.out; simp [intOf]; omega
    · have hG : Hid (getP M s = none) := by
        have e : getP M s = none := getP_none (fun p hp => h0 p (by rw [List.take_of_length_le (by omega)]; exact hp))
        exact e
      rw [hlv] at c4
      clear hlv x h0
      go_wp2
      go_ret
      rw [hG.out]
      exact ⟨rfl, rfl⟩

end

end Go.Proofs.YtbgaejjoomnklaaDoor
