/- CodecSums: the walk. -/
import Derived.Test.YtmnajmlfioiboabWalkF
import Derived.Test.YtmnajmlfioiboabWalkS
import Derived.Deep.RegionHeld
namespace Go.Proofs.Ytmnajmlfioiboab
open Go.RowKit

/-- What any bytes are unsealed as. -/
def unsealL (l : List UInt8) : List UInt8 × Nat :=
  if l.length < 4 then ([], 20) else
  if l.drop (l.length - 4) = sumBytes (crc (l.take (l.length - 4))) then (l.take (l.length - 4), 0) else ([], 23)

theorem four_of {l : List UInt8} (h : l.length = 4) : ∃ a b c d, l = [a, b, c, d] := by
  match l, h with
  | [a, b, c, d], _ => exact ⟨a, b, c, d, rfl⟩

theorem unsealL_cases (l : List UInt8) : (l.length < 4 ∧ unsealL l = ([], 20)) ∨
    (∃ m x0 x1 x2 x3, l = m ++ [x0, x1, x2, x3] ∧ sumOf x0 x1 x2 x3 = crc m ∧ unsealL l = (m, 0)) ∨
    (∃ m x0 x1 x2 x3, l = m ++ [x0, x1, x2, x3] ∧ sumOf x0 x1 x2 x3 ≠ crc m ∧ unsealL l = ([], 23)) := by
  by_cases h : l.length < 4
  · exact Or.inl ⟨h, by simp [unsealL, h]⟩
  · obtain ⟨x0, x1, x2, x3, hd⟩ := four_of (l := l.drop (l.length - 4)) (by simp; omega)
    have e : l = l.take (l.length - 4) ++ [x0, x1, x2, x3] := by rw [← hd]; simp
    have hs := sumOf_sumBytes (crc (l.take (l.length - 4))) (crc_lt _)
    by_cases h2 : sumOf x0 x1 x2 x3 = crc (l.take (l.length - 4))
    · refine Or.inr (Or.inl ⟨_, x0, x1, x2, x3, e, h2, ?_⟩)
      rw [← hs] at h2
      obtain ⟨e0, e1, e2, e3⟩ := sumOf_inj h2
      rw [unsealL, if_neg h, if_pos]
      rw [hd, sumBytes, ← e0, ← e1, ← e2, ← e3]
    · refine Or.inr (Or.inr ⟨_, x0, x1, x2, x3, e, h2, ?_⟩)
      rw [unsealL, if_neg h, if_neg]
      intro h3
      rw [hd, sumBytes] at h3
      simp only [List.cons.injEq, and_true] at h3
      obtain ⟨rfl, rfl, rfl, rfl⟩ := h3
      exact h2 hs

theorem unseal_any (v : Value) (l : List UInt8) (w : World) (hv : Bs w v l) (hl : l.length ≤ 140737488355004) :
    Calls Try.prog 14 #[v] w fun e w' => ∃ v', e = .returned (.tuple #[v', .int .i64 ((unsealL l).2 : Int)]) ∧ Bs w' v' (unsealL l).1 ∧ Below w.heap.size w w' := by
  rcases unsealL_cases l with ⟨h, e⟩ | ⟨m, x0, x1, x2, x3, rfl, h, e⟩ | ⟨m, x0, x1, x2, x3, rfl, h, e⟩
  · rw [e]
    exact (unseal_short v l w hv h).mono fun _ _ ⟨h1, h2⟩ => ⟨_, h1, Bs.nil _, h2 ▸ Below.refl _ _⟩
  · rw [e]
    exact (unseal_ok v m x0 x1 x2 x3 w hv (by simpa using hl) h).mono fun _ _ ⟨h1, h2, h3, _⟩ => ⟨_, h1, Bs.ofBlock h2 (List.take_of_length_le (by simp)) (Nat.le_refl _), h3⟩
  · rw [e]
    exact (unseal_bad v m x0 x1 x2 x3 w hv (by simpa using hl) h).mono fun _ _ ⟨h1, h2⟩ => ⟨_, h1, Bs.nil _, h2 ▸ Below.refl _ _⟩

theorem refUnseal_any (v : Value) (l : List UInt8) (w : World) (hv : Bs w v l) (hl : l.length ≤ 140737488355004) :
    Calls Try.prog 15 #[v] w fun e w' => ∃ v', e = .returned (.tuple #[v', .int .i64 ((unsealL l).2 : Int)]) ∧ Bs w' v' (unsealL l).1 ∧ Below w.heap.size w w' := by
  rcases unsealL_cases l with ⟨h, e⟩ | ⟨m, x0, x1, x2, x3, rfl, h, e⟩ | ⟨m, x0, x1, x2, x3, rfl, h, e⟩
  · rw [e]
    exact (refUnseal_short v l w hv h).mono fun _ _ ⟨h1, h2⟩ => ⟨_, h1, Bs.nil _, h2 ▸ Below.refl _ _⟩
  · rw [e]
    exact refUnseal_ok v m x0 x1 x2 x3 w hv (by simpa using hl) h
  · rw [e]
    exact (refUnseal_bad v m x0 x1 x2 x3 w hv (by simpa using hl) h).mono fun _ _ ⟨h1, h2⟩ => ⟨_, h1, Bs.nil _, h2 ▸ Below.refl _ _⟩

theorem unsealL_seal (l : List UInt8) : unsealL (l ++ sumBytes (crc l)) = (l, 0) := by
  have e : (l ++ sumBytes (crc l)).length - 4 = l.length := by simp [length_sumBytes]
  rw [unsealL, if_neg (by simp [length_sumBytes]), e, List.take_left, List.drop_left, if_pos rfl]

/-- A slice that goes on holding what it holds: its text, in each later world. -/
theorem Bs.later {w : World} {v : Value} {l : List UInt8} (h : Bs w v l) : ∀ W, Below w.heap.size w W → (convert 22 9 v).run Try.prog W = .ok (.string ⟨l.toArray⟩) W :=
  fun _ hb => (h.below hb).str 22 9 5 Try.underlying22 Try.underlying5 Try.underlying9

set_option maxRecDepth 20000 in
set_option maxHeartbeats 1000000 in
theorem sums_any (v : Value) (l : List UInt8) (w : World) (hv : Bs w v l) (hl : l.length ≤ 140737488354000) :
    Calls Try.prog 4 #[v] w fun e w' => e = .returned (.bool true) ∧ Below w.heap.size w w' := by
  obtain ⟨i, hi, hz0, hz1, hz2⟩ := info_parts Try.infoByte
  have hsl : (l ++ sumBytes (crc l)).length ≤ 140737488355004 := by simp [length_sumBytes]; omega
  have hv0 := hv
  obtain ⟨ao, cap, rfl, hc, hx⟩ := hv
  clear hx
  go_enter Try.func4, Try.ntmps4
  go_wp2_with (first
    | (at_builtin; refine wpList_append_bs rfl (.tmp 11) (.tmp 12) 22 rfl w.heap.size 5 i Try.underlying22 hi hz0 hz1 hz2 (.slice (some ⟨w.heap.size, 0, none⟩) 0 0) 0 [] rfl rfl (World.ownsRow_lit w #[] 0 (Nat.le_refl _) (by simp [maxLen]) rfl) _ rfl l (hv0.below ((Below.refl _ _).alloc (Nat.le_refl _) _)) (by omega) (by simp) ?_; intro v1 w1 hown1 hkept1 hmoved1; have hb1 := ((Below.refl w.heap.size w).alloc (Nat.le_refl _) _).trans (own_below (World.ownsRow_lit w #[] 0 (Nat.le_refl _) (by simp [maxLen]) rfl) hkept1 (by simp)); have ho1 := Bs.ofOwns hown1; have hi1 := hv0.below hb1; clear hown1 hkept1 hmoved1; rw [List.nil_append] at ho1)
    | (go_at_call_of 14 v1; refine (unseal_any _ l _ ho1 (by omega)).mono ?_; rintro e w2 ⟨v2, rfl, hx2, hb2⟩; have ho2 := ho1.below hb2; have hi2 := hi1.below hb2)
    | (go_at_call 15; refine (refUnseal_any _ l _ hi2 (by omega)).mono ?_; rintro e w3 ⟨v3, rfl, hy3, hb3⟩; have ho3 := ho2.below hb3; have hi3 := hi2.below hb3; have hx3 := hx2.below hb3)
    | (go_at_call 16; refine (seal_any _ l _ ho3 (by omega)).mono ?_; rintro e w4 ⟨rfl, hg4, hb4, hlt4⟩; have hs4 := seal_bs hg4; have ho4 := ho3.below hb4; have hi4 := hi3.below hb4; have hx4 := hx3.below hb4; have hy4 := hy3.below hb4)
    | (go_at_call 14; refine (unseal_any _ (l ++ sumBytes (crc l)) _ hs4 hsl).mono ?_; rintro e w5 ⟨v5, rfl, hu5, hb5⟩; rw [unsealL_seal] at hu5; rw [unsealL_seal]; have ho5 := ho4.below hb5; have hi5 := hi4.below hb5; have hx5 := hx4.below hb5; have hy5 := hy4.below hb5; have hs5 := hs4.below hb5))
  have hB : Below w.heap.size w w5 := (((hb1.trans (hb2.mono hb1.size)).trans (hb3.mono (Nat.le_trans hb1.size hb2.size))).trans (hb4.mono (Nat.le_trans hb1.size (Nat.le_trans hb2.size hb3.size)))).trans (hb5.mono (Nat.le_trans hb1.size (Nat.le_trans hb2.size (Nat.le_trans hb3.size hb4.size))))
  clear ho1 hi1 hx2 ho2 hi2 hy3 ho3 hi3 hx3 hs4 ho4 hi4 hx4 hy4 hb1 hb2 hb3 hb4 hb5 hg4 hlt4 hv0 hi hz0 hz1 hz2 hsl
  have ko := ho5.later
  have ki := hi5.later
  have kx := hx5.later
  have ky := hy5.later
  have ks := hs5.later
  have ku := hu5.later
  have b0 : Below w5.heap.size w5 w5.drew := (Below.refl _ _).drew
  go_region_held (fun W => Below w5.heap.size w5 W) (assumption) (first
    | (go_at_call 7; refine (known_any _).mono ?_; rintro e w6 ⟨rfl, hb6⟩; have b6 : Below w5.heap.size w5 w6 := b0.trans hb6)
    | (go_at_call 17; refine (sum_any _ l _ ?_ (by omega)).mono ?_; exact ho5.below b6; rintro e w' ⟨rfl, rfl⟩)
    | (go_at_call 18; refine (refSum_any _ l _ ?_ (by omega)).mono ?_; exact hi5.below b6; rintro e w' ⟨rfl, rfl⟩)
    | (go_at_call 19; refine (refSeal_any _ l _ ?_ (by omega)).mono ?_; exact hi5.below b6; rintro e w7 ⟨v7, rfl, hr7, hb7⟩; have b7 : Below w5.heap.size w5 w7 := b6.trans (hb7.mono b6.size); have kr := hr7.later; have br := Below.refl w7.heap.size w7))
  clear ko ki kx ky ks ku kr
  go_wp2
  go_ret
  exact ⟨rfl, hB.trans (b7.mono hB.size)⟩

end Go.Proofs.Ytmnajmlfioiboab
