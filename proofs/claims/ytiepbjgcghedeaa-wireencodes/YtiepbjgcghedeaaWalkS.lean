/- The plain saying of chapter 1 (seals), call by call. -/
import Derived.Test.YtiepbjgcghedeaaWalkR
namespace Go.Proofs.Ytiepbjgcghedeaa
open Go.RowKit

/-- The four bytes of a sum as they are laid in a block of their own. -/
theorem Bs.four (w : World) (c : Nat) (hc : c < 4294967296) (t : TypeId) : Bs (w.alloc (.cells #[.int .u8 ((c : Int) % 256), .int .u8 ((c : Int) / 256 % 256), .int .u8 ((c : Int) / 65536 % 256), .int .u8 ((c : Int) / 16777216)] t)) (.slice (some ⟨w.heap.size, 0, none⟩) 4 4) (sumBytes c) := by
  refine Bs.ofBlock (l := sumBytes c) (heap_alloc_new w _) ?_ (by simp [sumBytes])
  simp [sumBytes, bv, UInt8.toNat_ofNat']
  omega

set_option maxHeartbeats 400000 in
theorem refSeal_any (v : Value) (l : List UInt8) (w : World) (hv : Bs w v l) (hl : l.length ≤ 140737488355000) :
    Calls Try.prog 18 #[v] w fun e w' => ∃ v', e = .returned v' ∧ Bs w' v' (l ++ sumBytes (crc l)) ∧ Below w.heap.size w w' := by
  obtain ⟨i, hi, hz0, hz1, hz2⟩ := info_parts Try.infoByte
  have hcl := crc_lt l
  have hv0 := hv
  obtain ⟨ao, cap, rfl, hc, hx⟩ := hv
  clear hx
  go_enter Try.func18, Try.ntmps18
  go_wp2_with (first
    | (go_at_call 45; refine (refSum_any _ l _ hv0 (by omega)).mono ?_; rintro e w' ⟨rfl, rfl⟩)
    | (at_builtin; refine wpList_append_bs rfl (.tmp 7) (.tmp 8) 29 rfl w.heap.size 5 i Try.underlying29 hi hz0 hz1 hz2 (.slice (some ⟨w.heap.size, 0, none⟩) 0 0) 0 [] rfl rfl (World.ownsRow_lit w #[] 0 (Nat.le_refl _) (by simp [maxLen]) rfl) _ rfl l (hv0.below ((Below.refl _ _).alloc (Nat.le_refl _) _)) (by omega) (by simp) ?_; intro v1 w1 hown1 hkept1 hmoved1; have hb1 := own_below (World.ownsRow_lit w #[] 0 (Nat.le_refl _) (by simp [maxLen]) rfl) hkept1 (by simp); obtain ⟨ao1, n1, cp1, rfl⟩ := own_form hown1)
    | (at_builtin; refine wpList_append_bs rfl (.tmp 10) (.tmp 22) 29 rfl w.heap.size 5 i Try.underlying29 hi hz0 hz1 hz2 (.slice ao1 n1 cp1) _ ([] ++ l) rfl rfl (hown1.alloc _) _ rfl (sumBytes (crc l)) (Bs.four _ _ hcl _) (by simp [length_sumBytes]; omega) (by have := hkept1.size; simp at this ⊢; omega) ?_; intro v2 w2 hown2 hkept2 hmoved2; have hb2 := own_below (hown1.alloc _) hkept2 (by have := hkept1.size; simp at this ⊢; omega)))
  go_ret
  refine ⟨_, rfl, by simpa using Bs.ofOwns hown2, ?_⟩
  have hsz1 := hkept1.size
  simp at hsz1
  exact (((Below.refl _ _).alloc (Nat.le_refl _) _).trans hb1).trans (((Below.refl _ _).alloc (by omega) _).trans hb2)

set_option maxHeartbeats 400000 in
theorem refUnseal_short (v : Value) (l : List UInt8) (w : World) (hv : Bs w v l) (hl : l.length < 4) :
    Calls Try.prog 41 #[v] w fun e w' => e = .returned (.tuple #[.slice none 0 0, .int .i64 20]) ∧ w = w' := by
  obtain ⟨ao, cap, rfl, hc, hx⟩ := hv
  go_enter Try.func41, Try.ntmps41
  go_wp2
  go_ret2
  exact ⟨rfl, rfl⟩

/-- The four bytes behind, as they lie. -/
theorem Bs.tail {w : World} {ao : Option Addr} {n cap : Nat} {m : List UInt8} {x0 x1 x2 x3 : UInt8} (h : Bs w (.slice ao n cap) (m ++ [x0, x1, x2, x3])) :
    ∃ b off, ao = some ⟨b, off, none⟩ ∧ w.cell? ⟨b, off + m.length, none⟩ = some (.int .u8 (x0.toNat : Int)) ∧ w.cell? ⟨b, off + (m.length + 1), none⟩ = some (.int .u8 (x1.toNat : Int)) ∧
      w.cell? ⟨b, off + (m.length + 2), none⟩ = some (.int .u8 (x2.toNat : Int)) ∧ w.cell? ⟨b, off + (m.length + 3), none⟩ = some (.int .u8 (x3.toNat : Int)) := by
  obtain ⟨ao', cap', e, hc, hx⟩ := h
  simp only [Value.slice.injEq] at e
  obtain ⟨rfl, rfl, rfl⟩ := e
  obtain ⟨b, off, rfl, _, hs⟩ := hx (by simp)
  exact ⟨b, off, rfl, hs _ x0 (by simp), hs _ x1 (by simp), hs _ x2 (by simp), hs _ x3 (by simp)⟩

theorem sum_bytes_eq (x0 x1 x2 x3 : UInt8) (c : Nat) (_hc : c < 4294967296) : sumOf x0 x1 x2 x3 = c ↔ (x0.toNat : Int) = (c : Int) % 256 ∧ (x1.toNat : Int) = (c : Int) / 256 % 256 ∧ (x2.toNat : Int) = (c : Int) / 65536 % 256 ∧ (x3.toNat : Int) = (c : Int) / 16777216 := by
  have := x0.toNat_lt; have := x1.toNat_lt; have := x2.toNat_lt; have := x3.toNat_lt
  unfold sumOf
  omega

set_option maxRecDepth 20000 in
set_option maxHeartbeats 1000000 in
theorem refUnseal_bad (v : Value) (m : List UInt8) (x0 x1 x2 x3 : UInt8) (w : World) (hv : Bs w v (m ++ [x0, x1, x2, x3])) (hl : m.length ≤ 140737488355000) (hne : sumOf x0 x1 x2 x3 ≠ crc m) :
    Calls Try.prog 41 #[v] w fun e w' => e = .returned (.tuple #[.slice none 0 0, .int .i64 23]) ∧ w = w' := by
  have hv0 := hv
  obtain ⟨ao, cap, rfl, hc, hx⟩ := hv
  have e1 := hv0.pre m.length (by simp)
  obtain ⟨b, off, rfl, c0, c1, c2, c3⟩ := hv0.tail
  simp only [List.take_left, List.length_append, List.length_cons, List.length_nil, Nat.zero_add, Nat.reduceAdd] at hc e1 ⊢
  have E1 : Hid _ := e1
  clear e1 hv0 hx
  have hcl := crc_lt m
  rw [ne_eq, sum_bytes_eq x0 x1 x2 x3 (crc m) hcl] at hne
  have b0 := x0.toNat_lt; have b1 := x1.toNat_lt; have b2 := x2.toNat_lt; have b3 := x3.toNat_lt
  by_cases h0 : (x0.toNat : Int) = (crc m : Int) % 256
  · have t0 : ((x0.toNat : Int) != (crc m : Int) % 256) = false := by rw [bne_eq_false_iff_eq]; exact h0
    by_cases h1 : (x1.toNat : Int) = (crc m : Int) / 256 % 256
    · have t1 : ((x1.toNat : Int) != (crc m : Int) / 256 % 256) = false := by rw [bne_eq_false_iff_eq]; exact h1
      by_cases h2 : (x2.toNat : Int) = (crc m : Int) / 65536 % 256
      · have t2 : ((x2.toNat : Int) != (crc m : Int) / 65536 % 256) = false := by rw [bne_eq_false_iff_eq]; exact h2
        have t3 : ((x3.toNat : Int) != (crc m : Int) / 16777216) = true := by rw [bne_iff_ne]; exact fun h3 => hne ⟨h0, h1, h2, h3⟩
        clear h0 h1 h2 hne
        go_enter Try.func41, Try.ntmps41
        go_wp2_with (go_at_call 45; refine (refSum_any _ m _ E1 (by omega)).mono ?_; rintro e w' ⟨rfl, rfl⟩)
        go_ret2
        exact ⟨rfl, rfl⟩
      · have t2 : ((x2.toNat : Int) != (crc m : Int) / 65536 % 256) = true := by rw [bne_iff_ne]; exact h2
        clear h0 h1 h2 hne
        go_enter Try.func41, Try.ntmps41
        go_wp2_with (go_at_call 45; refine (refSum_any _ m _ E1 (by omega)).mono ?_; rintro e w' ⟨rfl, rfl⟩)
        go_ret2
        exact ⟨rfl, rfl⟩
    · have t1 : ((x1.toNat : Int) != (crc m : Int) / 256 % 256) = true := by rw [bne_iff_ne]; exact h1
      clear h0 h1 hne
      go_enter Try.func41, Try.ntmps41
      go_wp2_with (go_at_call 45; refine (refSum_any _ m _ E1 (by omega)).mono ?_; rintro e w' ⟨rfl, rfl⟩)
      go_ret2
      exact ⟨rfl, rfl⟩
  · have t0 : ((x0.toNat : Int) != (crc m : Int) % 256) = true := by rw [bne_iff_ne]; exact h0
    clear h0 hne
    go_enter Try.func41, Try.ntmps41
    go_wp2_with (go_at_call 45; refine (refSum_any _ m _ E1 (by omega)).mono ?_; rintro e w' ⟨rfl, rfl⟩)
    go_ret2
    exact ⟨rfl, rfl⟩

set_option maxRecDepth 20000 in
set_option maxHeartbeats 1000000 in
theorem refUnseal_ok (v : Value) (m : List UInt8) (x0 x1 x2 x3 : UInt8) (w : World) (hv : Bs w v (m ++ [x0, x1, x2, x3])) (hl : m.length ≤ 140737488355000) (he : sumOf x0 x1 x2 x3 = crc m) :
    Calls Try.prog 41 #[v] w fun e w' => ∃ v', e = .returned (.tuple #[v', .int .i64 0]) ∧ Bs w' v' m ∧ Below w.heap.size w w' := by
  obtain ⟨i, hi, hz0, hz1, hz2⟩ := info_parts Try.infoByte
  have hv0 := hv
  obtain ⟨ao, cap, rfl, hc, hx⟩ := hv
  have e1 := hv0.pre m.length (by simp)
  obtain ⟨b, off, rfl, c0, c1, c2, c3⟩ := hv0.tail
  simp only [List.take_left, List.length_append, List.length_cons, List.length_nil, Nat.zero_add, Nat.reduceAdd] at hc e1 ⊢
  have E1 : Hid (Bs w (.slice (some ⟨b, off, none⟩) m.length cap) m) := e1
  clear e1 hv0 hx
  have hcl := crc_lt m
  rw [sum_bytes_eq x0 x1 x2 x3 (crc m) hcl] at he
  obtain ⟨h0, h1, h2, h3⟩ := he
  have b0 := x0.toNat_lt; have b1 := x1.toNat_lt; have b2 := x2.toNat_lt; have b3 := x3.toNat_lt
  have t0 : ((x0.toNat : Int) != (crc m : Int) % 256) = false := by rw [bne_eq_false_iff_eq]; exact h0
  have t1 : ((x1.toNat : Int) != (crc m : Int) / 256 % 256) = false := by rw [bne_eq_false_iff_eq]; exact h1
  have t2 : ((x2.toNat : Int) != (crc m : Int) / 65536 % 256) = false := by rw [bne_eq_false_iff_eq]; exact h2
  have t3 : ((x3.toNat : Int) != (crc m : Int) / 16777216) = false := by rw [bne_eq_false_iff_eq]; exact h3
  clear h0 h1 h2 h3
  go_enter Try.func41, Try.ntmps41
  go_wp2_with (first
    | (go_at_call 45; refine (refSum_any _ m _ E1 (by omega)).mono ?_; rintro e w' ⟨rfl, rfl⟩)
    | (at_builtin; refine wpList_append_bs rfl (.tmp 56) (.tmp 59) 29 rfl w.heap.size 5 i Try.underlying29 hi hz0 hz1 hz2 (.slice (some ⟨w.heap.size, 0, none⟩) 0 0) 0 [] rfl rfl (World.ownsRow_lit w #[] 0 (Nat.le_refl _) (by simp [maxLen]) rfl) _ rfl m (Bs.below E1.out ((Below.refl _ _).alloc (Nat.le_refl _) _)) (by omega) (by simp) ?_; intro v1 w1 hown1 hkept1 hmoved1; have hb1 := own_below (World.ownsRow_lit w #[] 0 (Nat.le_refl _) (by simp [maxLen]) rfl) hkept1 (by simp); obtain ⟨ao1, n1, cp1, rfl⟩ := own_form hown1))
  go_ret2
  exact ⟨_, rfl, by simpa using Bs.ofOwns hown1, ((Below.refl _ _).alloc (Nat.le_refl _) _).trans hb1⟩

end Go.Proofs.Ytiepbjgcghedeaa
