/- slices.BinarySearch over keys that rise: string. -/
import Derived.Test.YtofpkmionbbmcaaRows
import Derived.Test.YtofpkmionbbmcaaTbM
import Derived.Deep.LoopGhost
import Derived.Deep.Draws
import Derived.WideShapes
namespace Go.Proofs.Ytofpkmionbbmcaa
open Go.RowKit

/-- Texts as keys. -/
def ltS (a b : ByteArray) : Bool := Op.bytesLess a.toList b.toList
theorem less_irr : ∀ l : List UInt8, Op.bytesLess l l = false
  | [] => by simp [Op.bytesLess]
  | a :: l => by simp [Op.bytesLess, less_irr l]
theorem less_tr : ∀ a b c : List UInt8, Op.bytesLess a b = true → Op.bytesLess b c = true → Op.bytesLess a c = true
  | _, [], _, h1, _ => by simp [Op.bytesLess] at h1
  | _, _ :: _, [], _, h2 => by simp [Op.bytesLess] at h2
  | [], _ :: _, _ :: _, _, _ => by simp [Op.bytesLess]
  | a :: x, b :: y, c :: z, h1, h2 => by
    simp only [Op.bytesLess, Bool.or_eq_true, decide_eq_true_eq, Bool.and_eq_true, beq_iff_eq] at h1 h2 ⊢
    rcases h1 with h1 | ⟨rfl, h1⟩
    · rcases h2 with h2 | ⟨rfl, h2⟩
      · exact Or.inl (UInt8.lt_trans h1 h2)
      · exact Or.inl h1
    · rcases h2 with h2 | ⟨rfl, h2⟩
      · exact Or.inl h2
      · exact Or.inr ⟨rfl, less_tr x y z h1 h2⟩
theorem less_tri : ∀ a b : List UInt8, Op.bytesLess a b = false → Op.bytesLess b a = false → a = b
  | [], [], _, _ => rfl
  | [], _ :: _, h1, _ => by simp [Op.bytesLess] at h1
  | _ :: _, [], _, h2 => by simp [Op.bytesLess] at h2
  | a :: x, b :: y, h1, h2 => by
    simp only [Op.bytesLess, Bool.or_eq_false_iff, decide_eq_false_iff_not, Bool.and_eq_false_iff, beq_eq_false_iff_ne] at h1 h2
    have e : a = b := by
      have q1 := UInt8.not_lt.1 h1.1
      have q2 := UInt8.not_lt.1 h2.1
      exact UInt8.le_antisymm q2 q1
    subst e
    rcases h1.2 with h | h
    · exact absurd rfl h
    rcases h2.2 with g | g
    · exact absurd rfl g
    rw [less_tri x y h g]
theorem koS : KO ltS := ⟨fun a => less_irr _, fun a b c => less_tr _ _ _, fun a b h1 h2 => Go.WideShapes.bytes_inj (by rw [← ByteArray.toList_eq, ← ByteArray.toList_eq]; exact less_tri _ _ h1 h2)⟩
def kfS (n : ByteArray) : Value := .string n
theorem eqS (a b : ByteArray) : (a.toList == b.toList) = decide (a = b) := by
  rw [Bool.eq_iff_iff, beq_iff_eq, decide_eq_true_eq]
  exact ⟨fun h => Go.WideShapes.bytes_inj (by rw [← ByteArray.toList_eq, ← ByteArray.toList_eq]; exact h), fun h => by rw [h]⟩

set_option maxHeartbeats 1000000 in
theorem cnanS (x : ByteArray) (w : World) : Calls Try.prog 68 #[.string x] w fun e w' => e = .returned (.bool false) ∧ w = w' := by
  go_enter Try.func68, Try.ntmps68
  go_wp2
  go_ret
  exact ⟨by simp, rfl⟩
set_option maxHeartbeats 1000000 in
theorem snanS (x : ByteArray) (w : World) : Calls Try.prog 62 #[.string x] w fun e w' => e = .returned (.bool false) ∧ w = w' := by
  go_enter Try.func62, Try.ntmps62
  go_wp2
  go_ret
  exact ⟨by simp, rfl⟩
set_option maxHeartbeats 1000000 in
theorem clessS (x y : ByteArray) (w : World) : Calls Try.prog 61 #[.string x, .string y] w fun e w' => e = .returned (.bool (ltS x y)) ∧ w = w' := by
  go_enter Try.func61, Try.ntmps61
  go_wp2_with (go_at_call 68; refine (cnanS _ _).mono ?_; rintro e w' ⟨rfl, rfl⟩)
  go_ret
  exact ⟨rfl, rfl⟩

set_option maxHeartbeats 4000000 in
set_option maxRecDepth 1000000 in
theorem bsS_any (ao : Option Addr) (cap n : Nat) (ks : List ByteArray) (x : ByteArray) (w : World) (hn : n = ks.length) (hs : Srt ltS ks) (hbig : n ≤ 1000000) (hao : ks ≠ [] → ∃ g, ao = some ⟨g, 0, none⟩ ∧ ∀ j (h : j < ks.length), w.cell? ⟨g, j, none⟩ = some (kfS ks[j])) :
    Calls Try.prog 53 #[.slice ao n cap, .string x] w fun e w' => e = .returned (.tuple #[.int .i64 (posK ltS x ks : Int), .bool (hasK ltS x ks)]) ∧ ∃ q, w' = w.drewN q := by
  have HB : Hid (∀ t (h : t < ks.length), t < posK ltS x ks → ltS ks[t] x = true) := posK_below x ks
  have HA : Hid (∀ t (h : t < ks.length), posK ltS x ks ≤ t → ltS ks[t] x = false) := posK_above koS x ks hs
  have hpl := posK_le (lt := ltS) x ks
  have HH : Hid (hasK ltS x ks = decide (ks[posK ltS x ks]? = some x)) := rfl
  generalize hasK ltS x ks = hb at *
  generalize posK ltS x ks = P at *
  clear hs
  have HN : Hid (n = ks.length) := hn
  rw [← hn] at hpl
  clear hn
  go_enter Try.func53, Try.ntmps53
  go_wp2
  go_loopg [7, 8] n (fun g s7 s8 wr => ∃ lo hi q : Nat, s7 = .int .i64 lo ∧ s8 = .int .i64 hi ∧ lo ≤ P ∧ P ≤ hi ∧ hi ≤ n ∧ hi - lo ≤ g ∧ wr = w.drewN q)
  case atStart => exact ⟨0, n, 0, rfl, rfl, Nat.zero_le _, hpl, Nat.le_refl _, by omega, rfl⟩
  case round =>
    obtain ⟨lo, hi, q, rfl, rfl, hlo, hhi, hin, hgk, rfl⟩ := hrel
    by_cases hlt : lo < hi
    · have hnn := HN.out
      obtain ⟨g, rfl, hc⟩ := hao (by intro e; subst e; simp at hnn; omega)
      have hm : (lo + hi) / 2 < ks.length := by omega
      have cm := hc _ hm
      have B1 := HB.out _ hm
      have A1 := HA.out _ hm
      clear hc hao
      generalize ks[(lo + hi) / 2] = y at *
      unfold kfS at cm
      clear hm hnn
      cases hyx : ltS y x
      · have HP : Hid (P ≤ (lo + hi) / 2) := by
          rcases Nat.lt_or_ge ((lo + hi) / 2) P with h | h
          · rw [B1 h] at hyx; cases hyx
          · exact h
        clear B1 A1
        go_wp2_with (go_at_call 61; refine (clessS y x _).mono ?_; rintro e w' ⟨rfl, rfl⟩; rw [hyx])
        go_roundg ((lo + hi) / 2 - lo)
        case measure => omega
        case rel => exact ⟨lo, (lo + hi) / 2, _, rfl, by rw [show ((lo : Int) + (hi : Int)) / 2 = (((lo + hi) / 2 : Nat) : Int) by omega], hlo, HP.out, by omega, Nat.le_refl _, rfl⟩
      · have HP : Hid ((lo + hi) / 2 < P) := by
          rcases Nat.lt_or_ge ((lo + hi) / 2) P with h | h
          · exact h
          · rw [A1 h] at hyx; cases hyx
        clear B1 A1
        go_wp2_with (go_at_call 61; refine (clessS y x _).mono ?_; rintro e w' ⟨rfl, rfl⟩; rw [hyx])
        go_roundg (hi - ((lo + hi) / 2 + 1))
        case measure => omega
        case rel => exact ⟨(lo + hi) / 2 + 1, hi, _, by rw [show ((lo : Int) + (hi : Int)) / 2 + 1 = (((lo + hi) / 2 + 1 : Nat) : Int) by omega], rfl, by have := HP.out; omega, hhi, hin, Nat.le_refl _, rfl⟩
    · have e1 : hi = lo := by omega
      have e2 : P = lo := by omega
      subst e1
      subst e2
      by_cases hn : P < n
      · have hnn := HN.out
        obtain ⟨g, rfl, hc⟩ := hao (by intro e; subst e; simp at hnn; omega)
        have hm : P < ks.length := by omega
        have cm := hc _ hm
        have hq : hb = decide (ks[P] = x) := by rw [HH.out, List.getElem?_eq_getElem hm]; simp
        clear hc hao HB HA HH
        generalize ks[P] = y at *
        unfold kfS at cm
        clear hm hnn
        by_cases hyx : y = x
        · subst hyx
          have hq2 : hb = true := by rw [hq]; simp
          have HQ : Hid (hb = true) := hq2
          clear hq hq2
          go_wp2_with (go_at_call 62; refine (snanS _ _).mono ?_; rintro e w' ⟨rfl, rfl⟩)
          go_ret2
          rw [HQ.out]
          exact ⟨by simp, _, rfl⟩
        · have hq2 : hb = false := by rw [hq]; exact decide_eq_false hyx
          have HQ : Hid (hb = false) := hq2
          have HY : Hid (y ≠ x) := hyx
          have hne : (y.toList == x.toList) = false := by rw [eqS]; exact decide_eq_false hyx
          clear hq hyx hq2
          go_wp2_with (go_at_call 62; refine (snanS _ _).mono ?_; rintro e w' ⟨rfl, rfl⟩)
          go_ret2
          rw [HQ.out]
          exact ⟨by simp, _, rfl⟩
      · have hq2 : hb = false := by
          rw [HH.out, List.getElem?_eq_none (by have := HN.out; omega)]
          simp
        have HQ : Hid (hb = false) := hq2
        clear hao HB HA HH hq2
        go_wp2
        go_ret2
        rw [HQ.out]
        exact ⟨rfl, _, rfl⟩

end Go.Proofs.Ytofpkmionbbmcaa
