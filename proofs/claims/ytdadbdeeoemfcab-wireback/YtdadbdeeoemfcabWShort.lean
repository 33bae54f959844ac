/- A message that may be lies within a datagram. -/
import Derived.Test.YtdadbdeeoemfcabWEnc
namespace Go.Proofs.Ytdadbdeeoemfcab
open Go.RowKit

theorem fieldB_short (m : Msg) (f : Nat) (h1 : f ≠ 4096) (h2 : f ≠ 16384) : (fieldB m f).length ≤ 11 := by
  have h10 := numB_len (m.num f)
  have h11 := layIDB_len (m.tn, m.ts)
  unfold fieldB layF
  repeat' split
  all_goals first | omega | (simp; done) | simp_all
theorem fieldB_refs {m : Msg} (h : rightB m = true) : (fieldB m 4096).length ≤ 32 := by
  have h0 := right_refs h
  have h1 := numB_len m.refs.length
  have h2 := flat_len layIDB 11 m.refs layIDB_len
  unfold fieldB layF
  split
  · simp
  · simp only [show ¬ (4096 = 32) by decide, if_false, if_true, layIDsB, List.length_append]
    omega
theorem fieldB_list {m : Msg} (h : rightB m = true) : (fieldB m 16384).length ≤ 650 := by
  have h0 := right_list h
  have h1 := numB_len m.list.length
  have h2 := flat_len numB 10 m.list numB_len
  unfold fieldB layF
  split
  · simp
  · simp only [show ¬ (16384 = 32) by decide, show ¬ (16384 = 4096) by decide, if_false, if_true, layListB, List.length_append]
    omega
theorem flat_sum (g : Nat → List UInt8) (c : Nat → Nat) (h : ∀ f, (g f).length ≤ c f) : ∀ l : List Nat, (l.flatMap g).length ≤ (l.map c).sum
  | [] => by simp
  | x :: r => by
    have h1 := h x
    have h2 := flat_sum g c h r
    rw [List.flatMap_cons, List.length_append, List.map_cons, List.sum_cons]
    exact Nat.add_le_add h1 h2
def capF (f : Nat) : Nat := if f = 4096 then 32 else if f = 16384 then 650 else 11
theorem capF_sum : (flds.map capF).sum = 825 := by decide +kernel
theorem sum15 {m : Msg} (h : rightB m = true) : (flds.flatMap (fieldB m)).length ≤ 825 := by
  rw [← capF_sum]
  refine flat_sum _ capF (fun f => ?_) flds
  unfold capF
  split
  · rename_i e; rw [e]; exact fieldB_refs h
  · split
    · rename_i e; rw [e]; exact fieldB_list h
    · rename_i h1 h2; exact fieldB_short m f h1 h2
theorem body_short {m : Msg} (h : rightB m = true) : (bodyB m).length ≤ 1020 := by
  have h1 := sum15 h
  have h3 : (headB m).length = 3 := rfl
  rw [bodyB, List.length_append]
  omega

end Go.Proofs.Ytdadbdeeoemfcab
