/- The plain target: its walk. -/
import Derived.Test.YtcpegfjjdojinaaRSmall
import Derived.Test.YtcpegfjjdojinaaWFitE
import Derived.Deep.CutRange
namespace Go.Proofs.Ytcpegfjjdojinaa
open Go.RowKit

def targetB (m : Msg) : Bool := if hasB m.kind 32 = true then isIDB (m.tn, m.ts) && (isNoneB (m.tn, m.ts) == wantsB m) else isNoneB (m.tn, m.ts)

set_option maxRecDepth 40000 in
set_option maxHeartbeats 8000000 in
theorem rtarget_any (m : Msg) (ro lo : Option Addr) (rc lc : Nat) (w : World) :
    Calls Try.prog 37 #[m.v ro lo rc lc] w fun e w' => e = .returned (.bool (targetB m)) ∧ Below w.heap.size w w' := by
  have hbox := MBox.new w m ro lo rc lc
  have K := fun W hb => (hbox.later (B := w.heap.size + 1) (by omega) W hb).cells
  have hk0 := fun W hb => (K W hb).1
  have hk5 := fun W hb => (K W hb).2.2.2.2.2.1
  have hk8 := fun W hb => (K W hb).2.2.2.2.2.2.2.2.1
  have hk9 := fun W hb => (K W hb).2.2.2.2.2.2.2.2.2.1
  clear K hbox
  have h32 := fun w => rhas_any m.kind 32 (by unfold Fld; omega) [116, 97, 114, 103, 101, 116] rfl w
  have hi := fun w => rid_any (m.tn, m.ts) w
  have hn := fun w => rnone_any (m.tn, m.ts) w
  have HT : Hid (targetB m = if hasB m.kind 32 = true then isIDB (m.tn, m.ts) && (isNoneB (m.tn, m.ts) == wantsB m) else isNoneB (m.tn, m.ts)) := rfl
  have HWn : Hid (wantsB m = if m.kind = 1 then m.op == 1 || m.op == 6 else if m.kind = 8 then m.op == 3 else false) := rfl
  generalize targetB m = G at *
  generalize isIDB (m.tn, m.ts) = p at *
  generalize isNoneB (m.tn, m.ts) = q at *
  generalize wantsB m = r at *
  generalize hasB m.kind 32 = h at *
  cases h
  · have HG : Hid (G = q) := HT.out
    clear HT HWn
    go_enter Try.func37, Try.ntmps37
    go_wp2_with (first
      | (go_at_call 38; refine (h32 _).mono ?_; rintro e w1 ⟨rfl, hb1⟩; have d8 := hk8 w1 (hb1.mono (by simp)); have d9 := hk9 w1 (hb1.mono (by simp)))
      | (go_at_call 66; refine (hn _).mono ?_; rintro e w2 ⟨rfl, hb2⟩))
    go_ret
    exact ⟨congrArg (fun x => Ending.returned (.bool x)) HG.out.symm, (below_alloc hb1).trans (hb2.mono (below_alloc hb1).size)⟩
  · have HG : Hid (G = (p && (q == r))) := HT.out
    clear HT
    go_enter Try.func37, Try.ntmps37
    go_upto_region 3 with (go_at_call 38; refine (h32 _).mono ?_; rintro e w1 ⟨rfl, hb1⟩; have d0 := hk0 w1 (hb1.mono (by simp)); have d5 := hk5 w1 (hb1.mono (by simp)); have d8 := hk8 w1 (hb1.mono (by simp)); have d9 := hk9 w1 (hb1.mono (by simp)))
    go_cut [3] from 11 (fun a wc => a = .bool r ∧ wc = w1)
    case first =>
      by_cases k1 : m.kind = 1
      · have e1 := HWn.out
        rw [if_pos k1] at e1
        have t1 : (m.kind == 1) = true := by simpa using k1
        have t8 : (m.kind == 8) = false := by rw [beq_eq_false_iff_ne]; omega
        clear k1 HWn
        cases o1 : (m.op == 1)
        · cases o6 : (m.op == 6)
          · have : r = false := by rw [e1, o1, o6]; rfl
            subst this
            clear e1
            go_wp2
            go_meet
            exact ⟨rfl, rfl⟩
          · have : r = true := by rw [e1, o1, o6]; rfl
            subst this
            clear e1
            go_wp2
            go_meet
            exact ⟨rfl, rfl⟩
        · have : r = true := by rw [e1, o1]; rfl
          subst this
          clear e1
          go_wp2
          go_meet
          exact ⟨rfl, rfl⟩
      · have e1 := HWn.out
        rw [if_neg k1] at e1
        have t1 : (m.kind == 1) = false := by simpa using k1
        by_cases k8 : m.kind = 8
        · rw [if_pos k8] at e1
          have t8 : (m.kind == 8) = true := by simpa using k8
          clear k1 k8 HWn
          cases o3 : (m.op == 3)
          · have : r = false := by rw [e1, o3]
            subst this
            clear e1
            go_wp2
            go_meet
            exact ⟨rfl, rfl⟩
          · have : r = true := by rw [e1, o3]
            subst this
            clear e1
            go_wp2
            go_meet
            exact ⟨rfl, rfl⟩
        · rw [if_neg k8] at e1
          have t8 : (m.kind == 8) = false := by simpa using k8
          clear k1 k8 HWn
          subst e1
          go_wp2
          go_meet
          exact ⟨rfl, rfl⟩
    case rest =>
      obtain ⟨rfl, rfl⟩ := hcut
      clear HWn
      have hB1 := below_alloc hb1
      cases p
      · go_wp2_with (go_at_call 39; refine (hi _).mono ?_; rintro e w2 ⟨rfl, hb2⟩)
        go_ret
        exact ⟨congrArg (fun x => Ending.returned (.bool x)) (by rw [HG.out]; rfl), hB1.trans (hb2.mono hB1.size)⟩
      · go_wp2_with (first
          | (go_at_call 39; refine (hi _).mono ?_; rintro e w2 ⟨rfl, hb2⟩; have c8 := (hb2.cell (p := ⟨w.heap.size, 8, none⟩) (by have := hb1.size; simp at this ⊢; omega)).trans d8; have c9 := (hb2.cell (p := ⟨w.heap.size, 9, none⟩) (by have := hb1.size; simp at this ⊢; omega)).trans d9)
          | (go_at_call 66; refine (hn _).mono ?_; rintro e w3 ⟨rfl, hb3⟩))
        go_ret
        have hB2 := hB1.trans (hb2.mono hB1.size)
        exact ⟨congrArg (fun x => Ending.returned (.bool x)) (by rw [HG.out]; rfl), hB2.trans (hb3.mono hB2.size)⟩

end Go.Proofs.Ytcpegfjjdojinaa
