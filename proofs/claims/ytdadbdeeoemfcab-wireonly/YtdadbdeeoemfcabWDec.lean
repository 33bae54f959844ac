/- The walk of Decode. -/
import Derived.Test.YtdadbdeeoemfcabWReadOk
import Derived.Test.YtdadbdeeoemfcabWDecBad
namespace Go.Proofs.Ytdadbdeeoemfcab
open Go.RowKit

/-- What Decode says of a body whose sum is right. -/
def decE (M : List UInt8) : Nat :=
  if rEnd M (rAll M 0 0).2.1 (rAll M 0 0).2.2 ≠ 0 then rEnd M (rAll M 0 0).2.1 (rAll M 0 0).2.2 else if rightB (rAll M 0 0).1 = true then 0 else 21

set_option maxRecDepth 20000 in
set_option maxHeartbeats 4000000 in
theorem decode_long (v : Value) (l : List UInt8) (w : World) (hv : Bs w v l) (hl : 1024 < l.length) (hl2 : l.length ≤ 140737488355328) :
    Calls Try.prog 11 #[v] w fun e w' => e = .returned (.tuple #[zeroM.v none none 0 0, .int .i64 22]) ∧ Below w.heap.size w w' := by
  obtain ⟨ao, cap, rfl, hc, hx⟩ := hv
  go_enter Try.func11, Try.ntmps11
  go_wp2_with (refine store_msg _ _ rfl rfl w.heap.size rfl zeroM none none 0 0 rfl (by simp) (there_row (cs := zeroCells) (heap_alloc_new w _) (Nat.le_refl 19)) ?_; intro w3 hm3 hk3 hsz3)
  (try simp only [Exit.inBlock, Exit.then])
  refine bodyPost_ret (res_msg2 rfl _ rfl hm3) rfl ⟨rfl, ?_⟩
  exact ((Below.refl _ _).alloc (Nat.le_refl _) _).trans (hk3.below (by simp) (fun k hk e => by omega))

set_option maxRecDepth 20000 in
set_option maxHeartbeats 4000000 in
theorem decode_err (v : Value) (M : List UInt8) (x0 x1 x2 x3 : UInt8) (w : World) (hv : Bs w v (M ++ [x0, x1, x2, x3])) (hl : M.length + 4 ≤ 1024) (hs : sumOf x0 x1 x2 x3 = crc M) (he : rEnd M (rAll M 0 0).2.1 (rAll M 0 0).2.2 ≠ 0) :
    Calls Try.prog 11 #[v] w fun e w' => e = .returned (.tuple #[zeroM.v none none 0 0, .int .i64 (decE M : Int)]) ∧ Below w.heap.size w w' := by
  have HE : Hid (decE M = rEnd M (rAll M 0 0).2.1 (rAll M 0 0).2.2) := by show _ = _; unfold decE; rw [if_pos he]
  have hu := fun w' hb => unseal_ok v M x0 x1 x2 x3 w' (hv.below hb) (by omega) hs
  have hlen : (M ++ [x0, x1, x2, x3]).length = M.length + 4 := by simp
  obtain ⟨ao, cap, hve, hc, hx⟩ := hv
  rw [hlen] at hve
  subst hve
  clear hx hc
  have hra := fun w rb g h => readAll_any w rb g M 0 0 h
  have hen := fun w rb g h => rend_any w rb g M (rAll M 0 0).2.1 (rAll M 0 0).2.2 h
  have hsm := rAll_sm M 0 0
  have t : ((rEnd M (rAll M 0 0).2.1 (rAll M 0 0).2.2 : Int) == 0) = false := by rw [beq_eq_false_iff_ne]; omega
  have t2 : ((rEnd M (rAll M 0 0).2.1 (rAll M 0 0).2.2 : Int) != 0) = true := by rw [bne_iff_ne]; omega
  generalize rEnd M (rAll M 0 0).2.1 (rAll M 0 0).2.2 = E at *
  generalize rAll M 0 0 = X at *
  clear he hs
  have hz : ∀ o, (w.alloc o).heap.size = w.heap.size + 1 := fun o => by simp
  go_enter Try.func11, Try.ntmps11
  go_wp2_with (first
    | (go_at_call 29; refine (hu _ ((Below.refl _ _).alloc (Nat.le_refl _) _)).mono ?_; clear hu; rintro r w1 ⟨rfl, hg1, hb1, hlt1⟩; rw [hz] at hg1 hlt1 hb1)
    | (go_at_call 30; refine (newReader_any _ M w1 (Bs.ofBlock hg1 (List.take_of_length_le (by simp)) (Nat.le_refl _)) (by omega)).mono ?_; rintro r w2 ⟨rb, hrb, rfl, hr2, hb2⟩)
    | (go_at_call 31; refine (hra w2 rb _ hr2).mono ?_; clear hra; rintro r w3 ⟨ro, lo, rc, lc, rfl, hri, hru, hto3⟩)
    | (refine store_msg _ _ rfl rfl w3.heap.size rfl X.1 ro lo rc lc rfl (by simp) (there_row (cs := zeroCells) (heap_alloc_new w3 _) (Nat.le_refl 19)) ?_; intro w4 hm4 hk4 hsz4; simp at hsz4; have r4 := (hto3.rd.below ((Below.refl _ _).alloc (Nat.le_refl _) _)).keep hk4 (by have := hto3.rd.size; omega) (by have := hto3.rd.size; have := hto3.rd.lt; omega))
    | (go_at_call 32; refine (hen w4 rb _ r4).mono ?_; clear hen; rintro r w5 ⟨rfl, hto5⟩; have z2 := hb2.size; have z3 := hto3.kept.size; have z5 := hto5.kept.size; have hZ : w5.heap[w.heap.size]? = some (.cells zeroCells 28 (0, 0)) := (hto5.kept.block w.heap.size (by omega) (by omega)).trans ((hk4.block w.heap.size (by simp; omega) (by omega)).trans ((Below.heap_alloc w3 _ w.heap.size (by omega)).trans ((hto3.kept.block w.heap.size (by omega) (by omega)).trans ((hb2.block w.heap.size (by omega)).trans ((hb1.block w.heap.size (by omega)).trans (heap_alloc_new w _)))))))
    | (refine store_msg _ _ rfl rfl w.heap.size rfl zeroM none none 0 0 rfl (by omega) (there_row (cs := zeroCells) hZ (Nat.le_refl 19)) ?_; intro w6 hm6 hk6 hsz6))
  (try simp only [Exit.inBlock, Exit.then])
  rw [HE.out]
  refine bodyPost_ret (res_msg2 rfl _ rfl hm6) rfl ⟨rfl, ?_⟩
  have q1 : Below w.heap.size w w2 := (((Below.refl _ _).alloc (Nat.le_refl _) _).trans (hb1.mono (by omega))).trans (hb2.mono (by omega))
  have q2 : Below w.heap.size w2 w3 := hto3.bel (by omega) (by omega)
  have q3 : Below w.heap.size w3 w4 := ((Below.refl _ _).alloc (by omega) _).trans (hk4.below (by simp; omega) (fun k hk e => by omega))
  have q4 : Below w.heap.size w4 w5 := hto5.bel (by omega) (by omega)
  exact (((q1.trans q2).trans q3).trans q4).trans (hk6.below (by omega) (fun k hk e => by omega))

end Go.Proofs.Ytdadbdeeoemfcab
