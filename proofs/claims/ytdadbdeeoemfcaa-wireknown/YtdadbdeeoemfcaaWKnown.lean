/- WireKnown: the walk. -/
import Derived.Test.YtdadbdeeoemfcaaWDecOk
import Derived.Test.YtdadbdeeoemfcaaWSameM
import Derived.Test.YtdadbdeeoemfcaaWKnow
namespace Go.Proofs.Ytdadbdeeoemfcaa
open Go.RowKit

theorem ack_read : rAll [3, 1, 2, 5] 0 0 = (ackM 1 2 5, 4, 0) := by kernel_rfl
theorem ack_end : rEnd [3, 1, 2, 5] 4 0 = 0 := by kernel_rfl
theorem ack_none : rightB (ackM 1 2 0) = false := by decide +kernel

set_option maxRecDepth 40000 in
set_option maxHeartbeats 8000000 in
theorem wireKnown_any (w : World) : Calls Try.prog 3 #[] w fun e w' => e = .returned (.bool true) ∧ Below w.heap.size w w' := by
  have hen := fun w => encode_ok (ackM 1 2 5) none none 0 0 w ackM_ok (fun h => absurd rfl h) (fun h => absurd rfl h) ack_right
  rw [ack_body] at hen
  have hen2 := fun w => encode_no (ackM 1 2 0) none none 0 0 w (fun h => absurd rfl h) (by simp [ackM]) (fun h => absurd rfl h) (by simp [ackM]) ack_none
  have hrt := fun w => right_any (ackM 1 2 5) none none 0 0 w (fun h => absurd rfl h) (by simp [ackM]) (fun h => absurd rfl h) (by simp [ackM])
  rw [ack_right] at hrt
  have hdec := fun v w hv => decode_ok v [3, 1, 2, 5] _ _ _ _ w hv (by decide) (sumOf_sumBytes _ (crc_lt [3, 1, 2, 5])) (by rw [ack_read]; exact ack_end) (by rw [ack_read]; exact ack_right)
  rw [ack_read] at hdec
  go_enter Try.func3, Try.ntmps3
  have hnil := fun w => decode_bad (.slice none 0 0) [] 20 w (Bs.nil w) (by simp) (by rfl) (fun w' _ => unseal_short _ [] w' (Bs.nil w') (by simp))
  go_wp2_with (first
    | (refine load_mat _ rfl (by rfl) _ rfl (ackM 1 2 5) none none 0 0 hm0 ?_)
    | (refine load_mat _ rfl (by rfl) _ rfl (ackM 1 2 5) ro lo rc lc hx7 ?_)
    | (refine load_mat _ rfl (by rfl) _ rfl (ackM 1 2 5) none none 0 0 hm7 ?_)
    | (refine load_mat _ rfl (by rfl) _ rfl (ackM 1 2 5) none none 0 0 hm8 ?_)
    | (refine store_msg _ _ rfl rfl w.heap.size rfl (ackM 1 2 5) none none 0 0 rfl (by simp) (there_row (cs := zeroCells) (heap_alloc_new w _) (Nat.le_refl 19)) ?_; intro w0 hm0 hk0 hsz0; simp at hsz0; have q0 : Below w.heap.size w w0 := ((Below.refl _ _).alloc (Nat.le_refl _) _).trans (hk0.below (by simp) (fun i hi e => by omega)))
    | (go_at_call 9; refine (hen w0).mono ?_; clear hen; rintro e w1 ⟨k, hk, rfl, hg1, hb1⟩; have hbs := seal_bs hg1; clear hg1; have hm1 := hm0.below hb1 hm0.lt; have z1 := hb1.size; clear hm0)
    | (go_at_call 10; refine (hdec _ w1 hbs).mono ?_; clear hdec; rintro e w2 ⟨ro, lo, rc, lc, rfl, hri, hru, hb2⟩; have hm2 := hm1.below hb2 hm1.lt; have z2 := hb2.size; clear hm1)
    | (refine store_msg _ _ rfl rfl w2.heap.size rfl (ackM 1 2 5) ro lo rc lc rfl (by simp) (there_row (cs := zeroCells) (heap_alloc_new w2 _) (Nat.le_refl 19)) ?_; intro w3 hx3 hk3 hsz3; simp at hsz3; have q3 : Below w2.heap.size w2 w3 := ((Below.refl _ _).alloc (Nat.le_refl _) _).trans (hk3.below (by simp) (fun i hi e => by omega)); have hm3 := hm2.below q3 hm2.lt; clear hm2)
    | (go_at_call 10; refine (hnil w3).mono ?_; clear hnil; rintro e w4 ⟨rfl, hb4⟩; have hm4 := hm3.below hb4 hm3.lt; have hx4 := hx3.below hb4 hx3.lt; have z4 := hb4.size; clear hm3 hx3)
    | (refine store_msg _ _ rfl rfl w4.heap.size rfl zeroM none none 0 0 rfl (by simp) (there_row (cs := zeroCells) (heap_alloc_new w4 _) (Nat.le_refl 19)) ?_; intro w5 hy5 hk5 hsz5; simp at hsz5; have q5 : Below w4.heap.size w4 w5 := ((Below.refl _ _).alloc (Nat.le_refl _) _).trans (hk5.below (by simp) (fun i hi e => by omega)); have hm5 := hm4.below q5 hm4.lt; have hx5 := hx4.below q5 hx4.lt; clear hm4 hx4 hy5)
    | (go_at_call 9; refine (hen2 w5).mono ?_; clear hen2; rintro e w6 ⟨rfl, hb6⟩; have hm6 := hm5.below hb6 hm5.lt; have hx6 := hx5.below hb6 hx5.lt; have z6 := hb6.size; clear hm5 hx5)
    | (go_at_call 11; refine (wknown_any w6).mono ?_; rintro e w7 ⟨rfl, hb7⟩; have hm7 := hm6.below hb7 hm6.lt; have hx7 := hx6.below hb7 hx6.lt; have z7 := hb7.size; clear hm6 hx6)
    | (go_at_call 12; refine (same_any (ackM 1 2 5) ro lo none none rc lc 0 0 w7 (fun h => absurd rfl h) (fun h => absurd rfl h) (fun h => absurd rfl h) (fun h => absurd rfl h) (by simp [ackM]) (by simp [ackM])).mono ?_; rintro e w8 ⟨rfl, hb8⟩; have hm8 := hm7.below hb8 hm7.lt; have z8 := hb8.size; clear hm7 hx7)
    | (go_at_call 13; refine (hrt w8).mono ?_; rintro e w9 ⟨rfl, hb9⟩))
  go_ret
  have t0 := q0.size
  have t1 := q0.trans (hb1.mono (by omega))
  have t2 := t1.trans (hb2.mono (by omega))
  have t3 := t2.trans (q3.mono (by omega))
  have t4 := t3.trans (hb4.mono (by omega))
  have t5 := t4.trans (q5.mono (by omega))
  have t6 := t5.trans (hb6.mono (by omega))
  have t7 := t6.trans (hb7.mono (by omega))
  have t8 := t7.trans (hb8.mono (by omega))
  exact ⟨rfl, t8.trans (hb9.mono (by omega))⟩

end Go.Proofs.Ytdadbdeeoemfcaa
