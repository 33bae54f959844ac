import Derived.Test.YtcpegfjjdojinaaRDecGP
import Derived.Test.YtcpegfjjdojinaaWKnowP
/- The plain Decode of any bytes; WireDecodes: the walk. -/
/- WireSealed: the walk. -/
namespace Go.Proofs.Ytcpegfjjdojinaa
open Go.RowKit

theorem rdecode_wrong (v : Value) (l : List UInt8) (w : World) (hv : Bs w v l) (hl : l.length ≤ 140737488355328) (he : decN l ≠ 0) :
    Calls Try.prog 17 #[v] w fun e w' => e = .returned (.tuple #[zeroM.v none none 0 0, .int .i64 (decN l : Int)]) ∧ Below w.heap.size w w' := by
  unfold decN at he ⊢
  by_cases h1 : 1024 < l.length
  · rw [if_pos h1]
    exact rdecode_long v l w hv h1 hl
  rw [if_neg h1] at he ⊢
  by_cases h2 : l.length < 4
  · rw [if_pos h2]
    exact rdecode_bad v l 20 w hv (by omega) (by decide) (fun w' hb => refUnseal_short v l w' (hv.below hb) h2)
  rw [if_neg h2] at he ⊢
  obtain ⟨x0, x1, x2, x3, hsp, hsum⟩ := split4 (l := l) (by omega)
  have hbl : (bodyOf l).length + 4 = l.length := by unfold bodyOf; simp; omega
  rw [hsum] at he ⊢
  by_cases h3 : sumOf x0 x1 x2 x3 ≠ crc (bodyOf l)
  · rw [if_pos h3]
    rw [hsp] at hv
    exact rdecode_bad v _ 23 w hv (by simp; omega) (by decide) (fun w' hb => refUnseal_bad v (bodyOf l) x0 x1 x2 x3 w' (hv.below hb) (by omega) h3)
  · rw [if_neg h3] at he ⊢
    rw [hsp] at hv
    have hs : sumOf x0 x1 x2 x3 = crc (bodyOf l) := Decidable.not_not.1 h3
    refine (rdecode_read v (bodyOf l) x0 x1 x2 x3 w hv (by omega) hs).mono ?_
    rintro e w' ⟨⟨_, h5⟩ | ⟨h5, _⟩, hb⟩
    · exact ⟨h5, hb⟩
    · exact absurd h5 he

theorem rdecode_right (v : Value) (l : List UInt8) (w : World) (hv : Bs w v l) (he : decN l = 0) :
    Calls Try.prog 17 #[v] w fun e w' => ∃ ro lo rc lc, e = .returned (.tuple #[(rAll (bodyOf l) 0 0).1.v ro lo rc lc, .int .i64 0]) ∧ IDs w' ro (rAll (bodyOf l) 0 0).1.refs ∧ Us w' lo (rAll (bodyOf l) 0 0).1.list ∧ Below w.heap.size w w' := by
  obtain ⟨h1, x0, x1, x2, x3, hsp, hs, h4, h5⟩ := decN_ok he
  have hbl : (bodyOf l).length + 4 = l.length := by conv => rhs; rw [hsp]
                                                    simp
  rw [hsp] at hv
  refine (rdecode_read v (bodyOf l) x0 x1 x2 x3 w hv (by omega) hs).mono ?_
  have h0 : decE (bodyOf l) = 0 := by unfold decE; rw [if_neg (by simp [h4]), if_pos h5]
  rintro e w' ⟨⟨h6, _⟩ | ⟨_, ro, lo, rc, lc, h7, h8, h9⟩, hb⟩
  · exact absurd h0 h6
  · exact ⟨ro, lo, rc, lc, h7, h8, h9, hb⟩

theorem kept_new {w w' : World} {g B n c : Nat} (hk : Kept w w' (fun k => (Value.slice (some ⟨g, 0, none⟩) n c).ownBlock = some k)) (hB : B ≤ w.heap.size) (hg : B ≤ g) : Below B w w' := by
  refine hk.below hB (fun i hi e => ?_)
  simp only [Value.ownBlock, Option.some.injEq] at e
  omega
theorem zero_idsD (w : World) : IDs w none zeroM.refs := fun h => absurd rfl h
theorem zero_usD (w : World) : Us w none zeroM.list := fun h => absurd rfl h

set_option maxRecDepth 40000 in
set_option maxHeartbeats 1000000 in
theorem wireDecodes_wrong (v : Value) (l : List UInt8) (w : World) (hv : Bs w v l) (hl : l.length ≤ 140737488355000) (he : decN l ≠ 0) :
    Calls Try.prog 6 #[v] w fun e w' => e = .returned (.bool true) ∧ Below w.heap.size w w' := by
  obtain ⟨i, hi, hz0, hz1, hz2⟩ := info_parts Try.infoByte
  have hdec := fun v w h => decode_wrong v l w h (by omega) he
  have hrdec := fun v w h => rdecode_wrong v l w h (by omega) he
  generalize decN l = E at *
  obtain ⟨ao, cap, hve, hc, hx⟩ := id hv
  subst hve
  clear hx
  have hB0 : Below w.heap.size w (w.alloc (.cells #[] 5)) := (Below.refl _ _).alloc (Nat.le_refl _) _
  go_enter Try.func6, Try.ntmps6
  go_wp2_with (first
    | (refine load_mat _ rfl (by rfl) _ rfl zeroM none none 0 0 hm6 ?_)
    | (refine load_mat _ rfl (by rfl) _ rfl zeroM none none 0 0 hx6 ?_)
    | (at_builtin; refine wpList_append_bs rfl _ _ 29 rfl w.heap.size 5 i Try.underlying29 hi hz0 hz1 hz2 (.slice (some ⟨w.heap.size, 0, none⟩) 0 0) 0 [] rfl rfl (own_empty (heap_alloc_new w _) 1) _ rfl l (hv.below hB0) (by simp; omega) (by simp) ?_; intro v1 w1 hown1 hk1 hmv1; rw [List.nil_append] at hown1; have hbs1 := Bs.ofOwns hown1; have hB1 : Below w.heap.size w w1 := hB0.trans (kept_new hk1 (by simp) (Nat.le_refl _)); obtain ⟨o1, c1, hv1, _⟩ := id hbs1; subst hv1; clear hown1 hk1 hmv1)
    | (go_at_call 10; refine (hdec _ w1 hbs1).mono ?_; clear hdec; rintro e w2 ⟨rfl, hb2⟩; have hB2 := hB1.trans (hb2.mono hB1.size); have hbs2 := hbs1.below hb2)
    | (refine store_msg _ _ rfl rfl w2.heap.size rfl zeroM none none 0 0 rfl (by simp) (there_row (cs := zeroCells) (heap_alloc_new w2 _) (Nat.le_refl 19)) ?_; intro w3 hm3 hk3 hsz3; simp at hsz3; have q3 : Below w2.heap.size w2 w3 := ((Below.refl _ _).alloc (Nat.le_refl _) _).trans (hk3.below (by simp) (fun i hi e => by omega)); have hB3 := hB2.trans (q3.mono hB2.size); have hbs3 := hbs2.below q3; clear hsz3 hk3)
    | (go_at_call 17; refine (hrdec _ w3 (hv.below hB3)).mono ?_; clear hrdec; rintro e w4 ⟨rfl, hb4⟩; have hm4 := hm3.below hb4 hm3.lt; clear hm3; have hB4 := hB3.trans (hb4.mono hB3.size); have hbs4 := hbs3.below hb4)
    | (refine store_msg _ _ rfl rfl w4.heap.size rfl zeroM none none 0 0 rfl (by simp) (there_row (cs := zeroCells) (heap_alloc_new w4 _) (Nat.le_refl 19)) ?_; intro w5 hx5 hk5 hsz5; simp at hsz5; have q5 : Below w4.heap.size w4 w5 := ((Below.refl _ _).alloc (Nat.le_refl _) _).trans (hk5.below (by simp) (fun i hi e => by omega)); have hm5 := hm4.below q5 hm4.lt; clear hm4; have hB5 := hB4.trans (q5.mono hB4.size); have hbs5 := hbs4.below q5; clear hsz5 hk5)
    | (go_at_call 11; refine (wknown_any _).mono ?_; rintro e w6 ⟨rfl, hb6⟩; have hm6 := hm5.below hb6 hm5.lt; have hx6 := hx5.below hb6 hx5.lt; clear hm5 hx5; have hB6 := hB5.trans (hb6.mono hB5.size); have z4 := hb4.size; have z3 := q3.size; have z5 := q5.size; have q46 : Below w4.heap.size w4 w6 := q5.trans (hb6.mono z5); have q26 : Below w2.heap.size w2 w6 := (q3.trans (hb4.mono z3)).trans (q46.mono (by omega)))
    | (go_at_call 12; refine (same_any zeroM none none none none 0 0 0 0 w6 (zero_idsD _) (zero_idsD _) (zero_usD _) (zero_usD _) (by simp [zeroM]) (by simp [zeroM])).mono ?_; rintro e w7 ⟨rfl, hb7⟩; have hB7 := hB6.trans (hb7.mono hB6.size); have s1 := ((hbs5.below hb6).below hb7).str (P := Try.prog) 29 9 5 Try.underlying29 Try.underlying5 Try.underlying9; have s2 := (hv.below hB7).str (P := Try.prog) 29 9 5 Try.underlying29 Try.underlying5 Try.underlying9))
  go_ret
  exact ⟨by simp, hB7⟩

set_option maxRecDepth 40000 in
set_option maxHeartbeats 1000000 in
theorem wireDecodes_right (v : Value) (l : List UInt8) (w : World) (hv : Bs w v l) (hl : l.length ≤ 140737488355000) (he : decN l = 0) :
    Calls Try.prog 6 #[v] w fun e w' => e = .returned (.bool true) ∧ Below w.heap.size w w' := by
  obtain ⟨i, hi, hz0, hz1, hz2⟩ := info_parts Try.infoByte
  have hdec := fun v w h => decode_right v l w h he
  have hrdec := fun v w h => rdecode_right v l w h he
  have hsm := rAll_sm (bodyOf l) 0 0
  generalize (rAll (bodyOf l) 0 0).1 = m at *
  obtain ⟨ao, cap, hve, hc, hx⟩ := id hv
  subst hve
  clear hx he
  have hB0 : Below w.heap.size w (w.alloc (.cells #[] 5)) := (Below.refl _ _).alloc (Nat.le_refl _) _
  go_enter Try.func6, Try.ntmps6
  go_wp2_with (first
    | (refine load_mat _ rfl (by rfl) _ rfl m ro lo rc lc hm6 ?_)
    | (refine load_mat _ rfl (by rfl) _ rfl m ro2 lo2 rc2 lc2 hx6 ?_)
    | (at_builtin; refine wpList_append_bs rfl _ _ 29 rfl w.heap.size 5 i Try.underlying29 hi hz0 hz1 hz2 (.slice (some ⟨w.heap.size, 0, none⟩) 0 0) 0 [] rfl rfl (own_empty (heap_alloc_new w _) 1) _ rfl l (hv.below hB0) (by simp; omega) (by simp) ?_; intro v1 w1 hown1 hk1 hmv1; rw [List.nil_append] at hown1; have hbs1 := Bs.ofOwns hown1; have hB1 : Below w.heap.size w w1 := hB0.trans (kept_new hk1 (by simp) (Nat.le_refl _)); obtain ⟨o1, c1, hv1, _⟩ := id hbs1; subst hv1; clear hown1 hk1 hmv1)
    | (go_at_call 10; refine (hdec _ w1 hbs1).mono ?_; clear hdec; rintro e w2 ⟨ro, lo, rc, lc, rfl, hri, hru, hb2⟩; have hids := hri.ids; have hus := hru.us; clear hri hru; have hB2 := hB1.trans (hb2.mono hB1.size); have hbs2 := hbs1.below hb2)
    | (refine store_msg _ _ rfl rfl w2.heap.size rfl m ro lo rc lc rfl (by simp) (there_row (cs := zeroCells) (heap_alloc_new w2 _) (Nat.le_refl 19)) ?_; intro w3 hm3 hk3 hsz3; simp at hsz3; have q3 : Below w2.heap.size w2 w3 := ((Below.refl _ _).alloc (Nat.le_refl _) _).trans (hk3.below (by simp) (fun i hi e => by omega)); have hB3 := hB2.trans (q3.mono hB2.size); have hbs3 := hbs2.below q3; clear hsz3 hk3)
    | (go_at_call 17; refine (hrdec _ w3 (hv.below hB3)).mono ?_; clear hrdec; rintro e w4 ⟨ro2, lo2, rc2, lc2, rfl, hids2, hus2, hb4⟩; have hm4 := hm3.below hb4 hm3.lt; clear hm3; have hB4 := hB3.trans (hb4.mono hB3.size); have hbs4 := hbs3.below hb4)
    | (refine store_msg _ _ rfl rfl w4.heap.size rfl m ro2 lo2 rc2 lc2 rfl (by simp) (there_row (cs := zeroCells) (heap_alloc_new w4 _) (Nat.le_refl 19)) ?_; intro w5 hx5 hk5 hsz5; simp at hsz5; have q5 : Below w4.heap.size w4 w5 := ((Below.refl _ _).alloc (Nat.le_refl _) _).trans (hk5.below (by simp) (fun i hi e => by omega)); have hm5 := hm4.below q5 hm4.lt; clear hm4; have hB5 := hB4.trans (q5.mono hB4.size); have hbs5 := hbs4.below q5; clear hsz5 hk5)
    | (go_at_call 11; refine (wknown_any _).mono ?_; rintro e w6 ⟨rfl, hb6⟩; have hm6 := hm5.below hb6 hm5.lt; have hx6 := hx5.below hb6 hx5.lt; clear hm5 hx5; have hB6 := hB5.trans (hb6.mono hB5.size); have z4 := hb4.size; have z3 := q3.size; have z5 := q5.size; have q46 : Below w4.heap.size w4 w6 := q5.trans (hb6.mono z5); have q26 : Below w2.heap.size w2 w6 := (q3.trans (hb4.mono z3)).trans (q46.mono (by omega)))
    | (go_at_call 12; refine (same_any m ro lo ro2 lo2 rc lc rc2 lc2 w6 (hids.below q26) (hids2.below q46) (hus.below q26) (hus2.below q46) (by have := hsm.refs; omega) (by have := hsm.list; omega)).mono ?_; rintro e w7 ⟨rfl, hb7⟩; have hB7 := hB6.trans (hb7.mono hB6.size); have s1 := ((hbs5.below hb6).below hb7).str (P := Try.prog) 29 9 5 Try.underlying29 Try.underlying5 Try.underlying9; have s2 := (hv.below hB7).str (P := Try.prog) 29 9 5 Try.underlying29 Try.underlying5 Try.underlying9))
  go_ret
  exact ⟨by simp, hB7⟩

theorem wireDecodes_any (v : Value) (l : List UInt8) (w : World) (hv : Bs w v l) (hl : l.length ≤ 140737488355000) :
    Calls Try.prog 6 #[v] w fun e w' => e = .returned (.bool true) ∧ Below w.heap.size w w' := by
  by_cases he : decN l = 0
  · exact wireDecodes_right v l w hv hl he
  · exact wireDecodes_wrong v l w hv hl he

end Go.Proofs.Ytcpegfjjdojinaa

namespace Go.Proofs.Ytcpegfjjdojinaa
open Go.RowKit

set_option maxRecDepth 20000 in
theorem wireSealed_any (v : Value) (l : List UInt8) (w : World) (hv : Bs w v l) (hl : l.length ≤ 140737488354000) :
    Calls Try.prog 7 #[v] w fun e w' => e = .returned (.bool true) ∧ Below w.heap.size w w' := by
  have hse := refSeal_any v l w hv (by omega)
  have hde := fun v w h => wireDecodes_any v (l ++ sumBytes (crc l)) w h (by rw [List.length_append, length_sumBytes]; omega)
  obtain ⟨ao, cap, hve, hc, hx⟩ := id hv
  subst hve
  clear hx hc
  go_enter Try.func7, Try.ntmps7
  go_wp2_with (first
    | (go_at_call 18; refine hse.mono ?_; rintro e w1 ⟨v1, rfl, hs1, hb1⟩)
    | (go_at_call 6; refine (hde v1 w1 hs1).mono ?_; rintro e w2 ⟨rfl, hb2⟩))
  go_ret
  exact ⟨rfl, hb1.trans (hb2.mono hb1.size)⟩

end Go.Proofs.Ytcpegfjjdojinaa

