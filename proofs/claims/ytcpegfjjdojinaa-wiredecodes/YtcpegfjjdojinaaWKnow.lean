/- The chapter's example, as every statement asks it. -/
import Derived.Test.YtcpegfjjdojinaaWEncode
namespace Go.Proofs.Ytcpegfjjdojinaa
open Go.RowKit

def ackM (f t : Int) (c : Nat) : Msg := { kind := 3, frm := f, to := t, call := c, floor := 0, op := 0, fld := 0, item := 0, tn := 0, ts := 0, refs := [], val := 0, code := 0, seq := 0, vou := 0, at_ := 0, dist := 0, stamp := 0, list := [] }
theorem ackM_ok : (ackM 1 2 5).Ok := by
  constructor <;> simp [ackM, I64, U64]
theorem ack_right : rightB (ackM 1 2 5) = true := by decide +kernel
theorem ack_wrong : rightB (ackM 1 1 5) = false := by decide +kernel
theorem ack_body : bodyB (ackM 1 2 5) = [3, 1, 2, 5] := by decide +kernel

theorem known_str {w : World} {k : Nat} {t : TypeId} (hg : w.heap[k]? = some (.cells (([3, 1, 2, 5] ++ sumBytes (crc [3, 1, 2, 5])).map bv).toArray t (0, 0))) :
    (convert 29 9 (.slice (some ⟨k, 0, none⟩) 4 8)).run Try.prog w = .ok (.string ⟨#[3, 1, 2, 5]⟩) w := by
  have h := (Bs.ofBlock (cap := 8) (l := [3, 1, 2, 5] ++ sumBytes (crc [3, 1, 2, 5])) hg (List.take_of_length_le (by simp)) (by simp [length_sumBytes])).pre 4 (by simp)
  rw [show List.take 4 ([3, 1, 2, 5] ++ sumBytes (crc [3, 1, 2, 5])) = [3, 1, 2, 5] from rfl] at h
  exact h.str (P := Try.prog) 29 9 5 Try.underlying29 Try.underlying5 Try.underlying9

set_option maxRecDepth 20000 in
set_option maxHeartbeats 1000000 in
theorem wknown_any (w : World) :
    Calls Try.prog 11 #[] w fun e w' => e = .returned (.bool true) ∧ Below w.heap.size w w' := by
  have he := encode_ok (ackM 1 2 5) none none 0 0 w ackM_ok (fun h => absurd rfl h) (fun h => absurd rfl h) ack_right
  rw [ack_body] at he
  have hr := fun w => right_any (ackM 1 1 5) none none 0 0 w (fun h => absurd rfl h) (by simp [ackM]) (fun h => absurd rfl h) (by simp [ackM])
  rw [ack_wrong] at hr
  go_enter Try.func11, Try.ntmps11
  go_wp2_with (first
    | (go_at_call 9; go_must (refine he.mono ?_); rintro e w1 ⟨k, hk, rfl, hg, hb⟩; have hstr := known_str hg)
    | (go_at_call 13; refine (hr _).mono ?_; rintro e w2 ⟨rfl, hb2⟩))
  go_ret
  exact ⟨rfl, hb.trans (hb2.mono hb.size)⟩

end Go.Proofs.Ytcpegfjjdojinaa
