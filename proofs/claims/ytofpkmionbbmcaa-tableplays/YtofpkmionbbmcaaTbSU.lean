/- slices.BinarySearch over keys that rise: uint64. -/
import Derived.Test.YtofpkmionbbmcaaRows
import Derived.Test.YtofpkmionbbmcaaTbM
import Derived.Deep.LoopGhost
import Derived.Deep.Draws
namespace Go.Proofs.Ytofpkmionbbmcaa
open Go.RowKit

/-- Numbers as keys. -/
def ltN (a b : Nat) : Bool := decide (a < b)
theorem koN : KO ltN := ⟨fun a => by simp [ltN], fun a b c h1 h2 => by simp [ltN] at *; omega, fun a b h1 h2 => by simp [ltN] at *; omega⟩
def kfU (n : Nat) : Value := .int .u64 (n : Int)
theorem kfU_inj {a b : Nat} (h : kfU a = kfU b) : a = b := by
  simp only [kfU, Value.int.injEq, true_and] at h
  omega

set_option maxHeartbeats 1000000 in
theorem cnanU (x : Nat) (w : World) : Calls Try.prog 71 #[.int .u64 (x : Int)] w fun e w' => e = .returned (.bool false) ∧ w = w' := by
  go_enter Try.func71, Try.ntmps71
  go_wp2
  go_ret
  exact ⟨by simp, rfl⟩
set_option maxHeartbeats 1000000 in
theorem snanU (x : Nat) (w : World) : Calls Try.prog 66 #[.int .u64 (x : Int)] w fun e w' => e = .returned (.bool false) ∧ w = w' := by
  go_enter Try.func66, Try.ntmps66
  go_wp2
  go_ret
  exact ⟨by simp, rfl⟩
set_option maxHeartbeats 1000000 in
theorem clessU (x y : Nat) (w : World) : Calls Try.prog 65 #[.int .u64 (x : Int), .int .u64 (y : Int)] w fun e w' => e = .returned (.bool (ltN x y)) ∧ w = w' := by
  go_enter Try.func65, Try.ntmps65
  go_wp2_with (go_at_call 71; refine (cnanU _ _).mono ?_; rintro e w' ⟨rfl, rfl⟩)
  go_ret
  exact ⟨by simp [ltN], rfl⟩

set_option maxHeartbeats 4000000 in
set_option maxRecDepth 1000000 in
theorem bsU_any (ao : Option Addr) (cap n : Nat) (ks : List Nat) (x : Nat) (w : World) (hn : n = ks.length) (hs : Srt ltN ks) (hbig : n ≤ 1000000) (hao : ks ≠ [] → ∃ g, ao = some ⟨g, 0, none⟩ ∧ ∀ j (h : j < ks.length), w.cell? ⟨g, j, none⟩ = some (kfU ks[j])) :
    Calls Try.prog 58 #[.slice ao n cap, .int .u64 (x : Int)] w fun e w' => e = .returned (.tuple #[.int .i64 (posK ltN x ks : Int), .bool (hasK ltN x ks)]) ∧ ∃ q, w' = w.drewN q := by
  have HB : Hid (∀ t (h : t < ks.length), t < posK ltN x ks → ltN ks[t] x = true) := posK_below x ks
  have HA : Hid (∀ t (h : t < ks.length), posK ltN x ks ≤ t → ltN ks[t] x = false) := posK_above koN x ks hs
  have hpl := posK_le (lt := ltN) x ks
  have HH : Hid (hasK ltN x ks = decide (ks[posK ltN x ks]? = some x)) := rfl
  generalize hasK ltN x ks = hb at *
  generalize posK ltN x ks = P at *
  clear hs
  have HN : Hid (n = ks.length) := hn
  rw [← hn] at hpl
  clear hn
  go_enter Try.func58, Try.ntmps58
  go_wp2
  go_loopg [7, 8] n (fun g s7 s8 wr => ∃ lo hi q : Nat, s7 = .int .i64 lo ∧ s8 = .int .i64 hi ∧ lo ≤ P ∧ P ≤ hi ∧ hi ≤ n ∧ hi - lo ≤ g ∧ wr = w.drewN q)
  case atStart => exact ⟨0, n, 0, rfl, rfl, Nat.zero_le _, hpl, Nat.le_refl _, by omega, rfl⟩
  case round =>
    obtain ⟨lo, hi, q, rfl, rfl, hlo, hhi, hin, hgk, rfl⟩ := hrel
    by_cases hlt : lo < hi
    · have hnn := HN.out
      obtain ⟨g, rfl, hc⟩ := hao (by intro e; subst e; simp at hnn; omega)
      have hm : (lo + hi) / 2 < ks.length := by omega
      have cm := hc _ hm
      have B1 := HB.out _ hm
      have A1 := HA.out _ hm
      clear hc hao
      generalize ks[(lo + hi) / 2] = y at *
      unfold kfU at cm
      clear hm hnn
      cases hyx : ltN y x
      · have HP : Hid (P ≤ (lo + hi) / 2) := by
          rcases Nat.lt_or_ge ((lo + hi) / 2) P with h | h
          · rw [B1 h] at hyx; cases hyx
          · exact h
        clear B1 A1
        go_wp2_with (go_at_call 65; refine (clessU y x _).mono ?_; rintro e w' ⟨rfl, rfl⟩; rw [hyx])
        go_roundg ((lo + hi) / 2 - lo)
        case measure => omega
        case rel => exact ⟨lo, (lo + hi) / 2, _, rfl, by rw [show ((lo : Int) + (hi : Int)) / 2 = (((lo + hi) / 2 : Nat) : Int) by omega], hlo, HP.out, by omega, Nat.le_refl _, rfl⟩
      · have HP : Hid ((lo + hi) / 2 < P) := by
          rcases Nat.lt_or_ge ((lo + hi) / 2) P with h | h
          · exact h
          · rw [A1 h] at hyx; cases hyx
        clear B1 A1
        go_wp2_with (go_at_call 65; refine (clessU y x _).mono ?_; rintro e w' ⟨rfl, rfl⟩; rw [hyx])
        go_roundg (hi - ((lo + hi) / 2 + 1))
        case measure => omega
        case rel => exact ⟨(lo + hi) / 2 + 1, hi, _, by rw [show ((lo : Int) + (hi : Int)) / 2 + 1 = (((lo + hi) / 2 + 1 : Nat) : Int) by omega], rfl, by have := HP.out; omega, hhi, hin, Nat.le_refl _, rfl⟩
    · have e1 : hi = lo := by omega
      have e2 : P = lo := by omega
      subst e1
      subst e2
      by_cases hn : P < n
      · have hnn := HN.out
        obtain ⟨g, rfl, hc⟩ := hao (by intro e; subst e; simp at hnn; omega)
        have hm : P < ks.length := by omega
        have cm := hc _ hm
        have hq : hb = decide (ks[P] = x) := by rw [HH.out, List.getElem?_eq_getElem hm]; simp
        clear hc hao HB HA HH
        generalize ks[P] = y at *
        unfold kfU at cm
        clear hm hnn
        by_cases hyx : y = x
        · subst hyx
          have hq2 : hb = true := by rw [hq]; simp
          have HQ : Hid (hb = true) := hq2
          clear hq hq2
          go_wp2_with (go_at_call 66; refine (snanU _ _).mono ?_; rintro e w' ⟨rfl, rfl⟩)
          go_ret2
          rw [HQ.out]
          exact ⟨by simp, _, rfl⟩
        · have hq2 : hb = false := by rw [hq]; exact decide_eq_false hyx
          have HQ : Hid (hb = false) := hq2
          have HY : Hid (y ≠ x) := hyx
          have hne : ¬ ((y : Int) = (x : Int)) := by omega
          clear hq hyx hq2
          go_wp2_with (go_at_call 66; refine (snanU _ _).mono ?_; rintro e w' ⟨rfl, rfl⟩)
          go_ret2
          rw [HQ.out]
          exact ⟨by simp [hne], _, rfl⟩
      · have hq2 : hb = false := by
          rw [HH.out, List.getElem?_eq_none (by have := HN.out; omega)]
          simp
        have HQ : Hid (hb = false) := hq2
        clear hao HB HA HH hq2
        go_wp2
        go_ret2
        rw [HQ.out]
        exact ⟨rfl, _, rfl⟩

end Go.Proofs.Ytofpkmionbbmcaa
