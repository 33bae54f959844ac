/- The plain Encode. -/
import Derived.Test.YtiepbjgcghedeaaRBody1
import Derived.Test.YtiepbjgcghedeaaRBody2
import Derived.Test.YtiepbjgcghedeaaRBody3
import Derived.Test.YtiepbjgcghedeaaRBody4
import Derived.Test.YtiepbjgcghedeaaRBody5
import Derived.Test.YtiepbjgcghedeaaRBody6
import Derived.Test.YtiepbjgcghedeaaRBody7
import Derived.Test.YtiepbjgcghedeaaRBody8
import Derived.Test.YtiepbjgcghedeaaRBody9
import Derived.Test.YtiepbjgcghedeaaRBody10
import Derived.Test.YtiepbjgcghedeaaRBody11
import Derived.Test.YtiepbjgcghedeaaRMath
import Derived.Test.YtiepbjgcghedeaaWalkS
namespace Go.Proofs.Ytiepbjgcghedeaa
open Go.RowKit

theorem rbody_all (m : Msg) (ro lo : Option Addr) (rc lc : Nat) (w : World) (hm : m.Ok) (hr : IDs w ro m.refs) (hl : Us w lo m.list) (h : rightB m = true) :
    Calls Try.prog 40 #[m.v ro lo rc lc] w fun e w' => ∃ v', e = .returned v' ∧ Bs w' v' (bodyB m) ∧ Below w.heap.size w w' := by
  have h1 := right_refs h
  have h2 := right_list h
  have hk : ¬ hasF m.kind = 0 := by
    intro e
    unfold rightB at h
    rw [e] at h
    simp at h
  rcases kinds m.kind with e | e | e | e | e | e | e | e | e | e | e | e
  · exact rbody_1 m ro lo rc lc w hm hr (by omega) e
  · exact rbody_2 m ro lo rc lc w hm hr (by omega) e
  · exact rbody_3 m ro lo rc lc w hm e
  · exact rbody_4 m ro lo rc lc w hm e
  · exact rbody_5 m ro lo rc lc w hm e
  · exact rbody_6 m ro lo rc lc w hm e
  · exact rbody_7 m ro lo rc lc w hm e
  · exact rbody_8 m ro lo rc lc w hm e
  · exact rbody_9 m ro lo rc lc w hm hl (by omega) e
  · exact rbody_10 m ro lo rc lc w hm e
  · exact rbody_11 m ro lo rc lc w hm e
  · exact absurd (hasF_out e) hk

theorem body_len {m : Msg} (h : rightB m = true) : (bodyB m).length ≤ 11000 := by
  have := bodyTo_len h 15 (Nat.le_refl _)
  rw [show flds.take 15 = flds from rfl] at this
  exact this

set_option maxRecDepth 20000 in
set_option maxHeartbeats 4000000 in
theorem rencode_no (m : Msg) (ro lo : Option Addr) (rc lc : Nat) (w : World) (hm : m.Ok) (hr : IDs w ro m.refs) (hlr : m.refs.length ≤ 140737488355328) (hl : Us w lo m.list) (hll : m.list.length ≤ 140737488355328) (h : rightB m = false) :
    Calls Try.prog 16 #[m.v ro lo rc lc] w fun e w' => e = .returned (.tuple #[.slice none 0 0, .int .i64 1]) ∧ Below w.heap.size w w' := by
  have hbox := MBox.new w m ro lo rc lc
  have hb0 : Below w.heap.size w (w.alloc (.cells #[.int .i64 m.kind, .int .i64 m.frm, .int .i64 m.to, .int .u64 (m.call : Int), .int .u64 (m.floor : Int), .int .i64 m.op, .int .i64 m.fld, .int .i64 m.item,
    .int .i64 m.tn, .int .u64 (m.ts : Int), .slice ro m.refs.length rc, .int .u64 (m.val : Int), .int .i64 m.code, .int .u64 (m.seq : Int), .int .i64 m.vou, .int .u64 (m.at_ : Int), .int .i64 m.dist, .int .u64 (m.stamp : Int), .slice lo m.list.length lc] 28)) := (Below.refl _ _).alloc (Nat.le_refl _) _
  have hri := rright_any m (numbersB m) ro lo rc lc (rnumbers_any m ro lo rc lc) _ (hr.below hb0) hlr (hl.below hb0) hll
  rw [right_same hm, h] at hri
  go_enter Try.func16, Try.ntmps16
  go_wp2_with (first
    | (refine load_msg _ rfl (by rfl) _ rfl m ro lo rc lc hbox ?_)
    | (go_at_call 15; refine hri.mono ?_; rintro e w1 ⟨rfl, hb1⟩))
  go_ret2
  exact ⟨rfl, below_alloc hb1⟩

set_option maxRecDepth 20000 in
set_option maxHeartbeats 4000000 in
theorem rencode_ok (m : Msg) (ro lo : Option Addr) (rc lc : Nat) (w : World) (hm : m.Ok) (hr : IDs w ro m.refs) (hl : Us w lo m.list) (h : rightB m = true) :
    Calls Try.prog 16 #[m.v ro lo rc lc] w fun e w' => ∃ v', e = .returned (.tuple #[v', .int .i64 0]) ∧ Bs w' v' (bodyB m ++ sumBytes (crc (bodyB m))) ∧ Below w.heap.size w w' := by
  have hbox := MBox.new w m ro lo rc lc
  have hb0 : Below w.heap.size w (w.alloc (.cells #[.int .i64 m.kind, .int .i64 m.frm, .int .i64 m.to, .int .u64 (m.call : Int), .int .u64 (m.floor : Int), .int .i64 m.op, .int .i64 m.fld, .int .i64 m.item,
    .int .i64 m.tn, .int .u64 (m.ts : Int), .slice ro m.refs.length rc, .int .u64 (m.val : Int), .int .i64 m.code, .int .u64 (m.seq : Int), .int .i64 m.vou, .int .u64 (m.at_ : Int), .int .i64 m.dist, .int .u64 (m.stamp : Int), .slice lo m.list.length lc] 28)) := (Below.refl _ _).alloc (Nat.le_refl _) _
  have h1 := right_refs h
  have h2 := right_list h
  have hlen := body_len h
  have hri := rright_any m (numbersB m) ro lo rc lc (rnumbers_any m ro lo rc lc) _ (hr.below hb0) (by omega) (hl.below hb0) (by omega)
  rw [right_same hm, h] at hri
  have hbd := fun w h1 h2 => rbody_all m ro lo rc lc w hm h1 h2 h
  clear h
  generalize bodyB m = L at *
  go_enter Try.func16, Try.ntmps16
  go_wp2_with (first
    | (refine load_msg _ rfl (by rfl) _ rfl m ro lo rc lc hbox ?_)
    | (go_at_call 15; refine hri.mono ?_; rintro e w1 ⟨rfl, hb1⟩; have hB1 := below_alloc hb1; have hbox := hbox.below hb1 (by simp))
    | (go_at_call 40; refine (hbd w1 (hr.below hB1) (hl.below hB1)).mono ?_; rintro e w2 ⟨v2, rfl, hv2, hb2⟩)
    | (go_at_call 18; refine (refSeal_any v2 L w2 hv2 (by omega)).mono ?_; rintro e w3 ⟨v3, rfl, hv3, hb3⟩))
  go_ret2
  exact ⟨v3, rfl, hv3, hB1.trans ((hb2.mono hB1.size).trans (hb3.mono (by have := hB1.size; have := hb2.size; omega)))⟩

end Go.Proofs.Ytiepbjgcghedeaa
