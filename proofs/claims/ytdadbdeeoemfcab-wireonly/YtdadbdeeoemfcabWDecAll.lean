/- Decode of any bytes. -/
import Derived.Test.YtdadbdeeoemfcabWDecOk
namespace Go.Proofs.Ytdadbdeeoemfcab
open Go.RowKit

def bodyOf (l : List UInt8) : List UInt8 := l.take (l.length - 4)
def sumAt (l : List UInt8) : Nat := match l.drop (l.length - 4) with
  | [a, b, c, d] => sumOf a b c d
  | _ => 0
/-- What Decode says of any bytes. -/
def decN (l : List UInt8) : Nat := if 1024 < l.length then 22 else if l.length < 4 then 20 else if sumAt l ≠ crc (bodyOf l) then 23 else decE (bodyOf l)

theorem split4 {l : List UInt8} (h : 4 ≤ l.length) : ∃ x0 x1 x2 x3, l = bodyOf l ++ [x0, x1, x2, x3] ∧ sumAt l = sumOf x0 x1 x2 x3 := by
  have hd : (l.drop (l.length - 4)).length = 4 := by simp; omega
  have hs := List.take_append_drop (l.length - 4) l
  unfold bodyOf sumAt
  generalize l.drop (l.length - 4) = r at *
  match r, hd with
  | [a, b, c, d], _ => exact ⟨a, b, c, d, hs.symm, rfl⟩

theorem sum_back {x0 x1 x2 x3 : UInt8} {c : Nat} (hc : c < 4294967296) (h : sumOf x0 x1 x2 x3 = c) : sumBytes c = [x0, x1, x2, x3] := by
  have e := sumOf_sumBytes c hc
  rw [← h] at e
  obtain ⟨h1, h2, h3, h4⟩ := sumOf_inj e
  rw [h] at h1 h2 h3 h4
  unfold sumBytes
  rw [h1, h2, h3, h4]

theorem decode_wrong (v : Value) (l : List UInt8) (w : World) (hv : Bs w v l) (hl : l.length ≤ 140737488355328) (he : decN l ≠ 0) :
    Calls Try.prog 11 #[v] w fun e w' => e = .returned (.tuple #[zeroM.v none none 0 0, .int .i64 (decN l : Int)]) ∧ Below w.heap.size w w' := by
  unfold decN at he ⊢
  by_cases h1 : 1024 < l.length
  · rw [if_pos h1]
    exact decode_long v l w hv h1 hl
  rw [if_neg h1] at he ⊢
  by_cases h2 : l.length < 4
  · rw [if_pos h2]
    exact decode_bad v l 20 w hv (by omega) rfl (fun w' hb => unseal_short v l w' (hv.below hb) h2)
  rw [if_neg h2] at he ⊢
  obtain ⟨x0, x1, x2, x3, hsp, hsum⟩ := split4 (l := l) (by omega)
  have hbl : (bodyOf l).length + 4 = l.length := by unfold bodyOf; simp; omega
  rw [hsum] at he ⊢
  by_cases h3 : sumOf x0 x1 x2 x3 ≠ crc (bodyOf l)
  · rw [if_pos h3]
    rw [hsp] at hv
    exact decode_bad v _ 23 w hv (by simp; omega) rfl (fun w' hb => unseal_bad v (bodyOf l) x0 x1 x2 x3 w' (hv.below hb) (by omega) h3)
  · rw [if_neg h3] at he ⊢
    rw [hsp] at hv
    have hs : sumOf x0 x1 x2 x3 = crc (bodyOf l) := Decidable.not_not.1 h3
    by_cases h4 : rEnd (bodyOf l) (rAll (bodyOf l) 0 0).2.1 (rAll (bodyOf l) 0 0).2.2 = 0
    · have h5 : rightB (rAll (bodyOf l) 0 0).1 = false := by
        cases hr : rightB (rAll (bodyOf l) 0 0).1 with
        | false => rfl
        | true => exact absurd (by unfold decE; rw [if_neg (by simp [h4]), if_pos hr]) he
      have e : decE (bodyOf l) = 21 := by unfold decE; rw [if_neg (by simp [h4]), if_neg (by rw [h5]; decide)]
      rw [e]
      exact decode_form v (bodyOf l) x0 x1 x2 x3 w hv (by omega) hs h4 h5
    · exact decode_err v (bodyOf l) x0 x1 x2 x3 w hv (by omega) hs h4

theorem decN_ok {l : List UInt8} (h : decN l = 0) : l.length ≤ 1024 ∧ ∃ x0 x1 x2 x3, l = bodyOf l ++ [x0, x1, x2, x3] ∧ sumOf x0 x1 x2 x3 = crc (bodyOf l) ∧ rEnd (bodyOf l) (rAll (bodyOf l) 0 0).2.1 (rAll (bodyOf l) 0 0).2.2 = 0 ∧ rightB (rAll (bodyOf l) 0 0).1 = true := by
  unfold decN at h
  by_cases h1 : 1024 < l.length
  · rw [if_pos h1] at h; cases h
  rw [if_neg h1] at h
  by_cases h2 : l.length < 4
  · rw [if_pos h2] at h; cases h
  rw [if_neg h2] at h
  obtain ⟨x0, x1, x2, x3, hsp, hsum⟩ := split4 (l := l) (by omega)
  rw [hsum] at h
  by_cases h3 : sumOf x0 x1 x2 x3 ≠ crc (bodyOf l)
  · rw [if_pos h3] at h; cases h
  · rw [if_neg h3] at h
    refine ⟨by omega, x0, x1, x2, x3, hsp, Decidable.not_not.1 h3, ?_⟩
    unfold decE at h
    by_cases h4 : rEnd (bodyOf l) (rAll (bodyOf l) 0 0).2.1 (rAll (bodyOf l) 0 0).2.2 = 0
    · refine ⟨h4, ?_⟩
      rw [if_neg (by simp [h4])] at h
      by_cases h5 : rightB (rAll (bodyOf l) 0 0).1 = true
      · exact h5
      · rw [if_neg h5] at h; cases h
    · rw [if_pos h4] at h
      exact absurd h h4

theorem decode_right (v : Value) (l : List UInt8) (w : World) (hv : Bs w v l) (he : decN l = 0) :
    Calls Try.prog 11 #[v] w fun e w' => ∃ ro lo rc lc, e = .returned (.tuple #[(rAll (bodyOf l) 0 0).1.v ro lo rc lc, .int .i64 0]) ∧ RowI w' ro rc (rAll (bodyOf l) 0 0).1.refs (w.heap.size + 1) ∧ RowU w' lo lc (rAll (bodyOf l) 0 0).1.list (w.heap.size + 1) ∧ Below w.heap.size w w' := by
  obtain ⟨h1, x0, x1, x2, x3, hsp, hs, h4, h5⟩ := decN_ok he
  have hbl : (bodyOf l).length + 4 = l.length := by conv => rhs; rw [hsp]
                                                    simp
  rw [hsp] at hv
  exact decode_ok v (bodyOf l) x0 x1 x2 x3 w hv (by omega) hs h4 h5

end Go.Proofs.Ytdadbdeeoemfcab
