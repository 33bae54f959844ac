import Derived.Test.YtiepbjgcghedeabWEnc
import Derived.Test.YtiepbjgcghedeabWCopy
import Derived.Test.YtiepbjgcghedeabWalkDP
import Derived.Test.YtiepbjgcghedeabWReadOk
/- A message that may be lies within a datagram. -/
/- Decode of what is not sealed rightly. -/
/- The walk of Decode. -/
namespace Go.Proofs.Ytiepbjgcghedeab
open Go.RowKit

theorem fieldB_short (m : Msg) (f : Nat) (h1 : f ≠ 4096) (h2 : f ≠ 16384) : (fieldB m f).length ≤ 11 := by
  have h10 := numB_len (m.num f)
  have h11 := layIDB_len (m.tn, m.ts)
  unfold fieldB layF
  repeat' split
  all_goals first | omega | (simp; done) | simp_all
theorem fieldB_refs {m : Msg} (h : rightB m = true) : (fieldB m 4096).length ≤ 32 := by
  have h0 := right_refs h
  have h1 := numB_len m.refs.length
  have h2 := flat_len layIDB 11 m.refs layIDB_len
  unfold fieldB layF
  split
  · simp
  · simp only [show ¬ (4096 = 32) by decide, if_false, if_true, layIDsB, List.length_append]
    omega
theorem fieldB_list {m : Msg} (h : rightB m = true) : (fieldB m 16384).length ≤ 650 := by
  have h0 := right_list h
  have h1 := numB_len m.list.length
  have h2 := flat_len numB 10 m.list numB_len
  unfold fieldB layF
  split
  · simp
  · simp only [show ¬ (16384 = 32) by decide, show ¬ (16384 = 4096) by decide, if_false, if_true, layListB, List.length_append]
    omega
theorem flat_sum (g : Nat → List UInt8) (c : Nat → Nat) (h : ∀ f, (g f).length ≤ c f) : ∀ l : List Nat, (l.flatMap g).length ≤ (l.map c).sum
  | [] => by simp
  | x :: r => by
    have h1 := h x
    have h2 := flat_sum g c h r
    rw [List.flatMap_cons, List.length_append, List.map_cons, List.sum_cons]
    exact Nat.add_le_add h1 h2
def capF (f : Nat) : Nat := if f = 4096 then 32 else if f = 16384 then 650 else 11
theorem capF_sum : (flds.map capF).sum = 825 := by decide +kernel
theorem sum15 {m : Msg} (h : rightB m = true) : (flds.flatMap (fieldB m)).length ≤ 825 := by
  rw [← capF_sum]
  refine flat_sum _ capF (fun f => ?_) flds
  unfold capF
  split
  · rename_i e; rw [e]; exact fieldB_refs h
  · split
    · rename_i e; rw [e]; exact fieldB_list h
    · rename_i h1 h2; exact fieldB_short m f h1 h2
theorem body_short {m : Msg} (h : rightB m = true) : (bodyB m).length ≤ 1020 := by
  have h1 := sum15 h
  have h3 : (headB m).length = 3 := rfl
  rw [bodyB, List.length_append]
  omega

end Go.Proofs.Ytiepbjgcghedeab

namespace Go.Proofs.Ytiepbjgcghedeab
open Go.RowKit

set_option maxRecDepth 20000 in
set_option maxHeartbeats 4000000 in
theorem decode_bad (v : Value) (l : List UInt8) (e0 : Nat) (w : World) (hv : Bs w v l) (hl : l.length ≤ 1024) (he : ((e0 : Int) != 0) = true)
    (hu : ∀ w', Below w.heap.size w w' → Calls Try.prog 29 #[v] w' fun e w'' => e = .returned (.tuple #[.slice none 0 0, .int .i64 (e0 : Int)]) ∧ w' = w'') :
    Calls Try.prog 11 #[v] w fun e w' => e = .returned (.tuple #[zeroM.v none none 0 0, .int .i64 (e0 : Int)]) ∧ Below w.heap.size w w' := by
  obtain ⟨ao, cap, rfl, hc, hx⟩ := hv
  go_enter Try.func11, Try.ntmps11
  go_wp2_with (first
    | (go_at_call 29; refine (hu _ ((Below.refl _ _).alloc (Nat.le_refl _) _)).mono ?_; rintro e w1 ⟨rfl, rfl⟩)
    | (refine store_msg _ _ rfl rfl w.heap.size rfl zeroM none none 0 0 rfl (by simp) (there_row (cs := zeroCells) (heap_alloc_new w _) (Nat.le_refl 19)) ?_; intro w3 hm3 hk3 hsz3))
  (try simp only [Exit.inBlock, Exit.then])
  refine bodyPost_ret (res_msg2 rfl _ rfl hm3) rfl ⟨rfl, ?_⟩
  exact ((Below.refl _ _).alloc (Nat.le_refl _) _).trans (hk3.below (by simp) (fun k hk e => by omega))

end Go.Proofs.Ytiepbjgcghedeab

namespace Go.Proofs.Ytiepbjgcghedeab
open Go.RowKit

/-- What Decode says of a body whose sum is right. -/
def decE (M : List UInt8) : Nat :=
  if rEnd M (rAll M 0 0).2.1 (rAll M 0 0).2.2 ≠ 0 then rEnd M (rAll M 0 0).2.1 (rAll M 0 0).2.2 else if rightB (rAll M 0 0).1 = true then 0 else 21

set_option maxRecDepth 20000 in
set_option maxHeartbeats 4000000 in
theorem decode_long (v : Value) (l : List UInt8) (w : World) (hv : Bs w v l) (hl : 1024 < l.length) (hl2 : l.length ≤ 140737488355328) :
    Calls Try.prog 11 #[v] w fun e w' => e = .returned (.tuple #[zeroM.v none none 0 0, .int .i64 22]) ∧ Below w.heap.size w w' := by
  obtain ⟨ao, cap, rfl, hc, hx⟩ := hv
  go_enter Try.func11, Try.ntmps11
  go_wp2_with (refine store_msg _ _ rfl rfl w.heap.size rfl zeroM none none 0 0 rfl (by simp) (there_row (cs := zeroCells) (heap_alloc_new w _) (Nat.le_refl 19)) ?_; intro w3 hm3 hk3 hsz3)
  (try simp only [Exit.inBlock, Exit.then])
  refine bodyPost_ret (res_msg2 rfl _ rfl hm3) rfl ⟨rfl, ?_⟩
  exact ((Below.refl _ _).alloc (Nat.le_refl _) _).trans (hk3.below (by simp) (fun k hk e => by omega))

set_option maxRecDepth 20000 in
set_option maxHeartbeats 4000000 in
theorem decode_err (v : Value) (M : List UInt8) (x0 x1 x2 x3 : UInt8) (w : World) (hv : Bs w v (M ++ [x0, x1, x2, x3])) (hl : M.length + 4 ≤ 1024) (hs : sumOf x0 x1 x2 x3 = crc M) (he : rEnd M (rAll M 0 0).2.1 (rAll M 0 0).2.2 ≠ 0) :
    Calls Try.prog 11 #[v] w fun e w' => e = .returned (.tuple #[zeroM.v none none 0 0, .int .i64 (decE M : Int)]) ∧ Below w.heap.size w w' := by
  have HE : Hid (decE M = rEnd M (rAll M 0 0).2.1 (rAll M 0 0).2.2) := by show _ = _; unfold decE; rw [if_pos he]
  have hu := fun w' hb => unseal_ok v M x0 x1 x2 x3 w' (hv.below hb) (by omega) hs
  have hlen : (M ++ [x0, x1, x2, x3]).length = M.length + 4 := by simp
  obtain ⟨ao, cap, hve, hc, hx⟩ := hv
  rw [hlen] at hve
  subst hve
  clear hx hc
  have hra := fun w rb g h => readAll_any w rb g M 0 0 h
  have hen := fun w rb g h => rend_any w rb g M (rAll M 0 0).2.1 (rAll M 0 0).2.2 h
  have hsm := rAll_sm M 0 0
  have t : ((rEnd M (rAll M 0 0).2.1 (rAll M 0 0).2.2 : Int) == 0) = false := by rw [beq_eq_false_iff_ne]; omega
  have t2 : ((rEnd M (rAll M 0 0).2.1 (rAll M 0 0).2.2 : Int) != 0) = true := by rw [bne_iff_ne]; omega
  generalize rEnd M (rAll M 0 0).2.1 (rAll M 0 0).2.2 = E at *
  generalize rAll M 0 0 = X at *
  clear he hs
  have hz : ∀ o, (w.alloc o).heap.size = w.heap.size + 1 := fun o => by simp
  go_enter Try.func11, Try.ntmps11
  go_wp2_with (first
    | (go_at_call 29; refine (hu _ ((Below.refl _ _).alloc (Nat.le_refl _) _)).mono ?_; clear hu; rintro r w1 ⟨rfl, hg1, hb1, hlt1⟩; rw [hz] at hg1 hlt1 hb1)
    | (go_at_call 30; refine (newReader_any _ M w1 (Bs.ofBlock hg1 (List.take_of_length_le (by simp)) (Nat.le_refl _)) (by omega)).mono ?_; rintro r w2 ⟨rb, hrb, rfl, hr2, hb2⟩)
    | (go_at_call 31; refine (hra w2 rb _ hr2).mono ?_; clear hra; rintro r w3 ⟨ro, lo, rc, lc, rfl, hri, hru, hto3⟩)
    | (refine store_msg _ _ rfl rfl w3.heap.size rfl X.1 ro lo rc lc rfl (by simp) (there_row (cs := zeroCells) (heap_alloc_new w3 _) (Nat.le_refl 19)) ?_; intro w4 hm4 hk4 hsz4; simp at hsz4; have r4 := (hto3.rd.below ((Below.refl _ _).alloc (Nat.le_refl _) _)).keep hk4 (by have := hto3.rd.size; omega) (by have := hto3.rd.size; have := hto3.rd.lt; omega))
    | (go_at_call 32; refine (hen w4 rb _ r4).mono ?_; clear hen; rintro r w5 ⟨rfl, hto5⟩; have z2 := hb2.size; have z3 := hto3.kept.size; have z5 := hto5.kept.size; have hZ : w5.heap[w.heap.size]? = some (.cells zeroCells 28 (0, 0)) := (hto5.kept.block w.heap.size (by omega) (by omega)).trans ((hk4.block w.heap.size (by simp; omega) (by omega)).trans ((Below.heap_alloc w3 _ w.heap.size (by omega)).trans ((hto3.kept.block w.heap.size (by omega) (by omega)).trans ((hb2.block w.heap.size (by omega)).trans ((hb1.block w.heap.size (by omega)).trans (heap_alloc_new w _)))))))
    | (refine store_msg _ _ rfl rfl w.heap.size rfl zeroM none none 0 0 rfl (by omega) (there_row (cs := zeroCells) hZ (Nat.le_refl 19)) ?_; intro w6 hm6 hk6 hsz6))
  (try simp only [Exit.inBlock, Exit.then])
  rw [HE.out]
  refine bodyPost_ret (res_msg2 rfl _ rfl hm6) rfl ⟨rfl, ?_⟩
  have q1 : Below w.heap.size w w2 := (((Below.refl _ _).alloc (Nat.le_refl _) _).trans (hb1.mono (by omega))).trans (hb2.mono (by omega))
  have q2 : Below w.heap.size w2 w3 := hto3.bel (by omega) (by omega)
  have q3 : Below w.heap.size w3 w4 := ((Below.refl _ _).alloc (by omega) _).trans (hk4.below (by simp; omega) (fun k hk e => by omega))
  have q4 : Below w.heap.size w4 w5 := hto5.bel (by omega) (by omega)
  exact (((q1.trans q2).trans q3).trans q4).trans (hk6.below (by omega) (fun k hk e => by omega))

end Go.Proofs.Ytiepbjgcghedeab

