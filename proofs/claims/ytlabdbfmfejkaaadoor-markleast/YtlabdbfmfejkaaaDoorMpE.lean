/- Marking to the end; MarkEnds. -/
import Derived.Test.YtlabdbfmfejkaaaDoorMpAP
import Derived.Test.YtlabdbfmfejkaaaDoorMkMP
import Derived.Test.YtlabdbfmfejkaaaDoorPick
namespace Go.Proofs.YtlabdbfmfejkaaaDoor
open Go.RowKit

theorem wrap_mid (x : Int) (h0 : 0 ≤ x) (h1 : x < 1000000) : wrap64 x = x ∧ IntKind.i64.wrap x = x := by
  refine ⟨by rw [wrap64]; omega, by rw [IntKind.wrap_i64]; omega⟩
theorem end_bound (n : Nat) : 41 * n * (n + 1) + n ≤ 42 * (n + 1) * (n + 1) := by
  have h1 : 41 * n * (n + 1) ≤ 41 * (n + 1) * (n + 1) := Nat.mul_le_mul_right _ (by omega)
  have h2 : 1 * (n + 1) ≤ (n + 1) * (n + 1) := Nat.mul_le_mul_right _ (by omega)
  have h3 : 42 * (n + 1) * (n + 1) = 41 * (n + 1) * (n + 1) + (n + 1) * (n + 1) := by
    rw [← Nat.add_mul]
    congr 1
    omega
  omega
theorem end_bound2 (n : Nat) : 42 * (n + 1) * (n + 1) ≤ 42 * (n + 2) * (n + 2) := Nat.mul_le_mul (by omega) (by omega)
theorem small_prod {a b : Nat} (ha : a ≤ 62) (hb : b ≤ 62) : 42 * a * b < 1000000 := by
  have h1 : 42 * a * b ≤ 42 * 62 * 62 := Nat.mul_le_mul (by omega) hb
  omega
section
variable {w0 w w' : World} {B xb pb hb : Nat} {h h' : HSt} {p p' : PSt} {m m' : MSt} {X : Nat → Prop}
theorem idle_step (hI : Idle h p m) (hon : m.on = false) : stepR h p m = (false, p, m) := by
  have ha : aboveC h.cs m.place = none := by
    cases e : aboveC h.cs m.place with
    | none => rfl
    | some o =>
      obtain ⟨h1, h2⟩ := above_mem e
      have := hI.place o h1
      omega
  unfold stepR tailR
  rw [hI.stk, hI.ov, hon, ha]
  rfl
set_option maxRecDepth 20000 in
set_option maxHeartbeats 1000000 in
theorem mall_any {J : PSt → MSt → Prop} (x : PM w0 B w xb pb hb h p m X) (hs : SB p) (n : Nat) (hn : n ≤ 60) (hin : ∀ k o, getC h.cs k = some o → 1 ≤ k ∧ k ≤ n) (hlen : h.cs.length ≤ n) (hL : leftM n h p m ≤ 42 * (n + 2) * (n + 2)) (hJ0 : J p m) (hJ : ∀ p m, J p m → J (stepR h p m).2.1 (stepR h p m).2.2) :
    Calls Tryd.prog 14 #[.pointer (some ⟨xb, 0, none⟩), .int .i64 (n : Int)] w fun e w' => ∃ (k : Nat) (p' : PSt) (m' : MSt), e = .returned (.tuple #[.int .i64 (k : Int), .bool true]) ∧ k ≤ leftM n h p m ∧ J p' m' ∧ Idle h p' m' ∧ m'.on = false ∧ SB p' ∧ PM w0 B w' xb pb hb h p' m' X ∧ Kept w w' (MIts B X xb) := by
  obtain ⟨D, hD⟩ : ∃ D, D = n + 2 := ⟨_, rfl⟩
  obtain ⟨E, hE⟩ : ∃ E, E = 42 * D := ⟨_, rfl⟩
  obtain ⟨L, hLe⟩ : ∃ L, L = E * D := ⟨_, rfl⟩
  have hLs : L < 1000000 := by
    rw [hLe, hE]
    exact small_prod (by omega) (by omega)
  have a1 : (n : Int) + 2 = (D : Int) := by omega
  have a2 : 42 * (D : Int) = (E : Int) := by omega
  have a3 : (E : Int) * (D : Int) = (L : Int) := by rw [hLe]; simp
  obtain ⟨b1, b2⟩ := wrap_mid (D : Int) (by omega) (by omega)
  obtain ⟨b3, b4⟩ := wrap_mid (E : Int) (by omega) (by omega)
  obtain ⟨b5, b6⟩ := wrap_mid (L : Int) (by omega) (by omega)
  have HL : Hid (leftM n h p m ≤ L) := by
    have e : leftM n h p m ≤ L := by
      rw [hLe, hE, hD]
      exact hL
    exact e
  have HO : Hid h.Ok := x.ph.ok
  have HX : Hid _ := hidden x
  have HS : Hid _ := hidden hs
  have HSL := fun p m => step_left (n := n) (h := h) hin hlen p m
  have HJ0 : Hid _ := hidden hJ0
  have HJ : Hid _ := hidden hJ
  have HB : Hid (L < 1000000) := hidden hLs
  have HQ : Hid _ := hidden HSL
  clear x hs hin hlen hL hJ0 hJ hD hE hLe hn HSL hLs
  obtain ⟨T, hTe⟩ : ∃ T, T = leftM n h p m := ⟨_, rfl⟩
  have HT : Hid (leftM n h p m ≤ T) := by
    have e : leftM n h p m ≤ T := by omega
    exact e
  rw [← hTe] at HL ⊢
  clear hTe
  go_enter Tryd.func14, Tryd.ntmps14
  go_wp2
  go_loopw [6] (fun t wr => ∃ (k : Nat) (p1 : PSt) (m1 : MSt), t = .int .i64 (k : Int) ∧ k + leftM n h p1 m1 ≤ T ∧ J p1 m1 ∧ SB p1 ∧ PM w0 B wr xb pb hb h p1 m1 X ∧ Kept w wr (MIts B X xb)) (fun t _ => L + 1 - (intOf t).toNat)
  case atStart => exact ⟨0, p, m, rfl, by have := HT.out; omega, HJ0.out, HS.out, HX.out, Kept.refl _ _⟩
  case round =>
    clear HX HS HJ0
    obtain ⟨k, p1, m1, rfl, hk, j1, s1, x1, k1⟩ := hrel
    have hT := mstep_any x1 s1
    have hq := HQ.out p1 m1
    have j2 := HJ.out p1 m1 j1
    have s2 := SB.step (m := m1) HO.out s1
    have hkl : (k : Int) ≤ (L : Int) := by have := HL.out; omega
    have hkb : k < 1000000 := by have := HB.out; omega
    have HK1 : Hid _ := hidden k1
    generalize leftM n h p1 m1 = T1 at *
    generalize stepR h p1 m1 = R at *
    obtain ⟨b, p2, m2⟩ := R
    simp only at hT hq j2 s2
    have HJ2 : Hid _ := hidden j2
    have HS2 : Hid _ := hidden s2
    clear x1 j1 s1 k1 j2 s2
    cases b with
    | true =>
      have hq' : leftM n h p2 m2 + 1 ≤ T1 := by
        rcases hq with hq | hq
        · exact hq.2
        · exact absurd hq.1 (by simp)
      have HM : Hid (k + 1 + leftM n h p2 m2 ≤ T) := by
        have e : k + 1 + leftM n h p2 m2 ≤ T := by omega
        exact e
      have HM2 : Hid (k < L + 1) := by
        have e : k < L + 1 := by omega
        exact e
      clear hq hq' hk
      go_wp2_with fail
      refine hT.mono ?_
      rintro e w1 ⟨rfl, x2, k2⟩
      have HX2 : Hid _ := hidden x2
      have HK2 : Hid _ := hidden (mits_t HK1.out k2)
      clear hT x2 k2
      go_wp2
      go_roundw
      case rel => exact ⟨k + 1, p2, m2, by go_num, HM.out, HJ2.out, HS2.out, HX2.out, HK2.out⟩
      case measure => have := HM2.out; simp [intOf]; omega
    | false =>
      have hq' : p2 = p1 ∧ Idle h p1 m2 ∧ m2.on = false := by
        rcases hq with hq | hq
        · exact absurd hq.1 (by simp)
        · exact hq.2
      obtain ⟨rfl, hI, hon⟩ := hq'
      have HI : Hid _ := hidden hI
      have HON : Hid _ := hidden hon
      have HM : Hid (k ≤ T) := by
        have e : k ≤ T := by omega
        exact e
      clear hq hI hon hk
      go_wp2_with fail
      refine hT.mono ?_
      rintro e w1 ⟨rfl, x2, k2⟩
      have HX2 : Hid _ := hidden x2
      have HK2 : Hid _ := hidden (mits_t HK1.out k2)
      clear hT x2 k2
      go_wp2
      go_ret2
      exact ⟨k, p2, m2, rfl, HM.out, HJ2.out, HI.out, HON.out, HS2.out, HX2.out, HK2.out⟩
end

end Go.Proofs.YtlabdbfmfejkaaaDoor
