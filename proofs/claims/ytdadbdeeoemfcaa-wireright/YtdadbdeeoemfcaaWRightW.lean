/- WireRight: the walk. -/
import Derived.Test.YtdadbdeeoemfcaaRMath
import Derived.Test.YtdadbdeeoemfcaaWKnow
import Derived.Test.YtdadbdeeoemfcaaWCopyWalk
namespace Go.Proofs.Ytdadbdeeoemfcaa
open Go.RowKit

set_option maxRecDepth 40000 in
set_option maxHeartbeats 8000000 in
theorem wireRight_any (m : Msg) (ro lo : Option Addr) (rc lc : Nat) (w : World) (hm : m.Ok) (hr : IDs w ro m.refs) (hr0 : ro = none → rc = 0) (hrl : m.refs.length ≤ 8796093022208) (hl : Us w lo m.list) (hl0 : lo = none → lc = 0) (hll : m.list.length ≤ 17592186044416) :
    Calls Try.prog 4 #[m.v ro lo rc lc] w fun e w' => e = .returned (.bool true) ∧ Below w.heap.size w w' := by
  have hbox := MBox.new w m ro lo rc lc
  have hw := fun w ro lo rc lc h1 h2 => right_any m ro lo rc lc w h1 (by omega) h2 (by omega)
  have hp := fun w h1 h2 => rright_any m (numbersB m) ro lo rc lc (rnumbers_any m ro lo rc lc) w h1 (by omega) h2 (by omega)
  rw [right_same hm] at hp
  generalize rightB m = q at *
  obtain ⟨w0, hw0⟩ : ∃ w0, w0 = w.alloc (.cells #[.int .i64 m.kind, .int .i64 m.frm, .int .i64 m.to, .int .u64 (m.call : Int), .int .u64 (m.floor : Int), .int .i64 m.op, .int .i64 m.fld, .int .i64 m.item,
    .int .i64 m.tn, .int .u64 (m.ts : Int), .slice ro m.refs.length rc, .int .u64 (m.val : Int), .int .i64 m.code, .int .u64 (m.seq : Int), .int .i64 m.vou, .int .u64 (m.at_ : Int), .int .i64 m.dist, .int .u64 (m.stamp : Int), .slice lo m.list.length lc] 28) := ⟨_, rfl⟩
  have hb0 : Below w.heap.size w w0 := by rw [hw0]; exact (Below.refl _ _).alloc (Nat.le_refl _) _
  have hs0 : w0.heap.size = w.heap.size + 1 := by rw [hw0]; simp
  rw [← hw0] at hbox
  have HW : Hid (w.alloc (.cells #[.int .i64 m.kind, .int .i64 m.frm, .int .i64 m.to, .int .u64 (m.call : Int), .int .u64 (m.floor : Int), .int .i64 m.op, .int .i64 m.fld, .int .i64 m.item,
    .int .i64 m.tn, .int .u64 (m.ts : Int), .slice ro m.refs.length rc, .int .u64 (m.val : Int), .int .i64 m.code, .int .u64 (m.seq : Int), .int .i64 m.vou, .int .u64 (m.at_ : Int), .int .i64 m.dist, .int .u64 (m.stamp : Int), .slice lo m.list.length lc] 28) = w0) := hw0.symm
  clear hw0
  have hle : w.heap.size + 1 ≤ w0.heap.size := by omega
  cases q
  all_goals
    go_enter Try.func4, Try.ntmps4
    go_wp2
    rw [HW.out]
    have bd : Below (w.heap.size + 1) w0 w0.drew := (Below.refl _ _).drew
    refine wp_region_held_drew (S := fun W => Below (w.heap.size + 1) w0 W) (by kernel_rfl) bd (fun hS => ?_)
    refine wpAnyH_ready (rs := [0]) (by kernel_rfl) (by simp) ?_
    refine AllReadyH.cons rfl (fun K hK => ?_) AllReadyH.nil
    go_simp
    go_wp2_with (go_at_call 11; refine (wknown_any _).mono ?_; rintro e w1 ⟨rfl, hb1⟩; have d1 : Below (w.heap.size + 1) w0 w1 := bd.trans (hb1.mono (Nat.le_trans hle bd.size)); have q1 : Below w.heap.size w w1 := hb0.trans (d1.mono (by omega)))
    refine hK.out _ _ d1 (fun hS => ?_)
    clear hK K
    refine wpAnyH_take (i := 1) (oi := { dst := some 4, op := Op.move (Operand.tmp 3), type := 4, pos := "law.go:38", after := #[{ on := 0, ground := Ground.data }, { on := 0, ground := Ground.chain }], guard := none }) (v := .bool true) rfl (by kernel_rfl) (by kernel_rfl) (by kernel_rfl) (fun _ _ _ h => h) (Or.inl ⟨by rfl, fun W hW => by go_simp⟩) hS ?_
    simp only [Act.put, List.setIfInBounds_toArray, List.set_cons_zero, List.set_cons_succ]
    refine wpAnyH_take (i := 2) (oi := { dst := some 5, op := Op.load 28 (Operand.tmp 1), type := 28, pos := "law.go:38", after := #[{ on := 1, ground := Ground.guard }], guard := some (1, true) }) (v := m.v ro lo rc lc) rfl (by kernel_rfl) (by kernel_rfl) (by kernel_rfl) (fun _ _ _ h => h) (yieldsIf_load_mid (by rfl) 28 _ rfl _ 0 rfl _ _ (fun W hW => (hbox.below hW (by omega)).range) Try.underlying28 rfl msg_size) hS ?_
    simp only [Act.put, List.setIfInBounds_toArray, List.set_cons_zero, List.set_cons_succ]
    refine wpAnyH_take (i := 5) (oi := { dst := some 8, op := Op.load 28 (Operand.tmp 1), type := 28, pos := "law.go:38", after := #[{ on := 1, ground := Ground.guard }], guard := some (1, true) }) (v := m.v ro lo rc lc) rfl (by kernel_rfl) (by kernel_rfl) (by kernel_rfl) (fun _ _ _ h => h) (yieldsIf_load_mid (by rfl) 28 _ rfl _ 0 rfl _ _ (fun W hW => (hbox.below hW (by omega)).range) Try.underlying28 rfl msg_size) hS ?_
    simp only [Act.put, List.setIfInBounds_toArray, List.set_cons_zero, List.set_cons_succ]
    refine wpAnyH_ready (rs := [3]) (by kernel_rfl) (by simp) ?_
    refine AllReadyH.cons rfl (fun K hK => ?_) AllReadyH.nil
    go_simp
    go_wp2_with (go_at_call 14; refine (copyOf_any m ro lo rc lc w1 (hr.below q1) hr0 hrl (hl.below q1) hl0 hll).mono ?_; rintro e w2 ⟨ro2, lo2, rc2, lc2, rfl, hr2, hr02, hl2, hl02, hb2⟩; have d2 : Below (w.heap.size + 1) w0 w2 := d1.trans (hb2.mono (Nat.le_trans hle d1.size)))
    refine hK.out _ _ d2 (fun hS => ?_)
    clear hK K
    refine wpAnyH_ready (rs := [4]) (by kernel_rfl) (by simp) ?_
    refine AllReadyH.cons rfl (fun K hK => ?_) AllReadyH.nil
    go_simp
    go_wp2_with (go_at_call 13; refine (hw w2 ro2 lo2 rc2 lc2 hr2 hl2).mono ?_; rintro e w3 ⟨rfl, hb3⟩; have d3 : Below (w.heap.size + 1) w0 w3 := d2.trans (hb3.mono (Nat.le_trans hle d2.size)); have q3 : Below w.heap.size w w3 := hb0.trans (d3.mono (by omega)))
    refine hK.out _ _ d3 (fun hS => ?_)
    clear hK K
    refine wpAnyH_ready (rs := [6]) (by kernel_rfl) (by simp) ?_
    refine AllReadyH.cons rfl (fun K hK => ?_) AllReadyH.nil
    go_simp
    go_wp2_with (go_at_call 15; refine (hp w3 (hr.below q3) (hl.below q3)).mono ?_; rintro e w4 ⟨rfl, hb4⟩; have d4 : Below (w.heap.size + 1) w0 w4 := d3.trans (hb4.mono (Nat.le_trans hle d3.size)))
    refine hK.out _ _ d4 (fun hS => ?_)
    clear hK K
    refine wpAnyH_take (i := 7) (oi := { dst := some 10, op := Op.binOp BinOp.eql 4 (Operand.tmp 7) (Operand.tmp 9) 4, type := 4, pos := "law.go:38", after := #[{ on := 4, ground := Ground.data }, { on := 6, ground := Ground.data }, { on := 1, ground := Ground.guard }], guard := some (1, true) }) (v := .bool true) rfl (by kernel_rfl) (by kernel_rfl) (by kernel_rfl) (fun _ _ _ h => h) (Or.inl ⟨by rfl, fun W hW => by go_simp⟩) hS ?_
    simp only [Act.put, List.setIfInBounds_toArray, List.set_cons_zero, List.set_cons_succ]
    refine wpAnyH_take (i := 8) (oi := { dst := some 11, op := Op.pick (Operand.tmp 4) (Operand.tmp 10) (Operand.const (Value.bool false)), type := 4, pos := "law.go:38", after := #[{ on := 1, ground := Ground.data }, { on := 7, ground := Ground.data }], guard := none }) (v := .bool true) rfl (by kernel_rfl) (by kernel_rfl) (by kernel_rfl) (fun _ _ _ h => h) (Or.inl ⟨by rfl, fun W hW => by go_simp⟩) hS ?_
    simp only [Act.put, List.setIfInBounds_toArray, List.set_cons_zero, List.set_cons_succ]
    refine wpAnyH_take (i := 9) (oi := { dst := some 2, op := Op.assign (Operand.tmp 11), type := 4, pos := "law.go:38", after := #[{ on := 8, ground := Ground.data }, { on := 6, ground := Ground.chain }, { on := 0, ground := Ground.phase }, { on := 1, ground := Ground.phase }, { on := 2, ground := Ground.phase }, { on := 3, ground := Ground.phase }, { on := 4, ground := Ground.phase }, { on := 5, ground := Ground.phase }, { on := 6, ground := Ground.phase }, { on := 7, ground := Ground.phase }, { on := 8, ground := Ground.phase }], guard := none }) (v := .bool true) rfl (by kernel_rfl) (by kernel_rfl) (by kernel_rfl) (fun _ _ _ h => h) (Or.inl ⟨by rfl, fun W hW => by go_simp⟩) hS ?_
    simp only [Act.put, List.setIfInBounds_toArray, List.set_cons_zero, List.set_cons_succ]
    refine wpAnyH_done (by kernel_rfl) ?_ _
    go_wp2
    go_ret
    exact ⟨rfl, hb0.trans (d4.mono (by omega))⟩

end Go.Proofs.Ytdadbdeeoemfcaa
