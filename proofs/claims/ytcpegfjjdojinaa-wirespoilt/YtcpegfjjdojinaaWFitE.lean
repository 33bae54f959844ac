/- Whether a field is as it may be: the walk of fits. -/
import Derived.Test.YtcpegfjjdojinaaWFitD
import Derived.Deep.RegionHeldLaw
namespace Go.Proofs.Ytcpegfjjdojinaa
open Go.RowKit

/-- The cells of a message in each world that comes later. -/
theorem MBox.later {w : World} {b B : Nat} {m : Msg} {ro lo : Option Addr} {rc lc : Nat} (h : MBox w b m ro lo rc lc) (hB : b < B) : ∀ W, Below B w W → MBox W b m ro lo rc lc := fun _ hb => h.below hb hB

set_option maxRecDepth 20000 in
set_option maxHeartbeats 4000000 in
theorem fits_target (m : Msg) (ro lo : Option Addr) (rc lc : Nat) (w : World) :
    Calls Try.prog 34 #[m.v ro lo rc lc, .int .u64 32] w fun e w' => e = .returned (.bool (isIDB (m.tn, m.ts) && (isNoneB (m.tn, m.ts) == wantsB m))) ∧ Below w.heap.size w w' := by
  have hi := fun w => isID_any (m.tn, m.ts) w
  have hn := fun w => isNone_any (m.tn, m.ts) w
  have hw := fun w => wantsNone_any m ro lo rc lc w
  generalize isIDB (m.tn, m.ts) = p at *
  generalize isNoneB (m.tn, m.ts) = q at *
  generalize wantsB m = r at *
  have hbox := MBox.new w m ro lo rc lc
  have K := fun W hb => (hbox.later (B := w.heap.size + 1) (by omega) W hb).cells
  have hk8 := fun W hb => (K W hb).2.2.2.2.2.2.2.2.1
  have hk9 := fun W hb => (K W hb).2.2.2.2.2.2.2.2.2.1
  have hL := fun W hb => (hbox.later (B := w.heap.size + 1) (by omega) W hb).loadAt
  clear K
  obtain ⟨w0, hw0⟩ : ∃ w0, w0 = w.alloc (.cells #[.int .i64 m.kind, .int .i64 m.frm, .int .i64 m.to, .int .u64 (m.call : Int), .int .u64 (m.floor : Int), .int .i64 m.op, .int .i64 m.fld, .int .i64 m.item,
    .int .i64 m.tn, .int .u64 (m.ts : Int), .slice ro m.refs.length rc, .int .u64 (m.val : Int), .int .i64 m.code, .int .u64 (m.seq : Int), .int .i64 m.vou, .int .u64 (m.at_ : Int), .int .i64 m.dist, .int .u64 (m.stamp : Int), .slice lo m.list.length lc] 28) := ⟨_, rfl⟩
  have hb0 : Below w.heap.size w w0 := by rw [hw0]; exact (Below.refl _ _).alloc (Nat.le_refl _) _
  have hs0 : w0.heap.size = w.heap.size + 1 := by rw [hw0]; simp
  rw [← hw0] at hbox hk8 hk9 hL
  have HW : Hid (w.alloc (.cells #[.int .i64 m.kind, .int .i64 m.frm, .int .i64 m.to, .int .u64 (m.call : Int), .int .u64 (m.floor : Int), .int .i64 m.op, .int .i64 m.fld, .int .i64 m.item,
    .int .i64 m.tn, .int .u64 (m.ts : Int), .slice ro m.refs.length rc, .int .u64 (m.val : Int), .int .i64 m.code, .int .u64 (m.seq : Int), .int .i64 m.vou, .int .u64 (m.at_ : Int), .int .i64 m.dist, .int .u64 (m.stamp : Int), .slice lo m.list.length lc] 28) = w0) := hw0.symm
  clear hw0
  cases p
  · go_enter Try.func34, Try.ntmps34
    go_wp2
    rw [HW.out]
    have c8 := hk8 _ (Below.refl _ _).drew
    have c9 := hk9 _ (Below.refl _ _).drew
    first
      | go_region_with ((go_at_call 59; refine (hi _).mono ?_; rintro e w1 ⟨rfl, hb1⟩))
      | fail
    all_goals
      go_wp2
      go_ret
      exact ⟨rfl, hb0.trans (((Below.refl _ _).drew.trans hb1).mono hb0.size)⟩
  · go_enter Try.func34, Try.ntmps34
    go_wp2
    rw [HW.out]
    have bd : Below (w.heap.size + 1) w0 w0.drew := (Below.refl _ _).drew
    refine wp_region_held_drew (S := fun W => Below (w.heap.size + 1) w0 W) (by kernel_rfl) bd (fun hS => ?_)
    refine wpAnyH_take (i := 0) (oi := { dst := some 11, op := Op.fieldAddr 28 (Operand.tmp 2) 8, type := 0, pos := "fit.go:30", after := #[], guard := none }) (v := .pointer (some ⟨w.heap.size, 8, none⟩)) rfl (by kernel_rfl) (by kernel_rfl) (by kernel_rfl) (fun _ _ _ h => h) (Or.inl ⟨by rfl, fun W hW => by go_simp⟩) hS ?_
    simp only [Act.put, List.setIfInBounds_toArray, List.set_cons_zero, List.set_cons_succ]
    refine wpAnyH_take (i := 1) (oi := { dst := some 12, op := Op.load 24 (Operand.tmp 11), type := 24, pos := "fit.go:30", after := #[{ on := 0, ground := Ground.data }], guard := none }) (v := idv (m.tn, m.ts)) rfl (by kernel_rfl) (by kernel_rfl) (by kernel_rfl) (fun _ _ _ h => h) (Or.inl ⟨by rfl, fun W hW => by go_simp⟩) hS ?_
    simp only [Act.put, List.setIfInBounds_toArray, List.set_cons_zero, List.set_cons_succ]
    refine wpAnyH_ready (rs := [2]) (by kernel_rfl) (by simp) ?_
    refine AllReadyH.cons rfl (fun K hK => ?_) AllReadyH.nil
    go_simp
    go_wp2_with (go_at_call 59; refine (hi _).mono ?_; rintro e w1 ⟨rfl, hb1⟩; have b1 := bd.trans (hb1.mono (by rw [← hs0]; exact Nat.le_refl _)))
    refine hK.out _ _ b1 (fun hS => ?_)
    clear hK K
    refine wpAnyH_take (i := 3) (oi := { dst := some 14, op := Op.move (Operand.tmp 13), type := 4, pos := "fit.go:30", after := #[{ on := 2, ground := Ground.data }, { on := 2, ground := Ground.chain }], guard := none }) (v := .bool true) rfl (by kernel_rfl) (by kernel_rfl) (by kernel_rfl) (fun _ _ _ h => h) (Or.inl ⟨by rfl, fun W hW => by go_simp⟩) hS ?_
    simp only [Act.put, List.setIfInBounds_toArray, List.set_cons_zero, List.set_cons_succ]
    refine wpAnyH_take (i := 4) (oi := { dst := some 15, op := Op.fieldAddr 28 (Operand.tmp 2) 8, type := 0, pos := "fit.go:30", after := #[{ on := 3, ground := Ground.guard }], guard := some (3, true) }) (v := .pointer (some ⟨w.heap.size, 8, none⟩)) rfl (by kernel_rfl) (by kernel_rfl) (by kernel_rfl) (fun _ _ _ h => h) (Or.inl ⟨by rfl, fun W hW => by go_simp⟩) hS ?_
    simp only [Act.put, List.setIfInBounds_toArray, List.set_cons_zero, List.set_cons_succ]
    refine wpAnyH_take (i := 5) (oi := { dst := some 16, op := Op.load 24 (Operand.tmp 15), type := 24, pos := "fit.go:30", after := #[{ on := 4, ground := Ground.data }, { on := 3, ground := Ground.guard }], guard := some (3, true) }) (v := idv (m.tn, m.ts)) rfl (by kernel_rfl) (by kernel_rfl) (by kernel_rfl) (fun _ _ _ h => h) (Or.inl ⟨by rfl, fun W hW => by go_simp⟩) hS ?_
    simp only [Act.put, List.setIfInBounds_toArray, List.set_cons_zero, List.set_cons_succ]
    refine wpAnyH_take (i := 7) (oi := { dst := some 18, op := Op.load 28 (Operand.tmp 2), type := 28, pos := "fit.go:30", after := #[{ on := 3, ground := Ground.guard }], guard := some (3, true) }) (v := m.v ro lo rc lc) rfl (by kernel_rfl) (by kernel_rfl) (by kernel_rfl) (fun _ _ _ h => h) (yieldsIf_load_mid (by rfl) 28 _ rfl _ 0 rfl _ _ (fun W hW => (hbox.below hW (by omega)).range) Try.underlying28 rfl msg_size) hS ?_
    simp only [Act.put, List.setIfInBounds_toArray, List.set_cons_zero, List.set_cons_succ]
    refine wpAnyH_ready (rs := [6]) (by kernel_rfl) (by simp) ?_
    refine AllReadyH.cons rfl (fun K hK => ?_) AllReadyH.nil
    go_simp
    go_wp2_with (go_at_call 58; refine (hn _).mono ?_; rintro e w2 ⟨rfl, hb2⟩; have b2 := b1.trans (hb2.mono (by rw [← hs0]; exact b1.size)))
    refine hK.out _ _ b2 (fun hS => ?_)
    clear hK K
    refine wpAnyH_ready (rs := [8]) (by kernel_rfl) (by simp) ?_
    refine AllReadyH.cons rfl (fun K hK => ?_) AllReadyH.nil
    go_simp
    go_wp2_with (go_at_call 60; refine (hw _).mono ?_; rintro e w3 ⟨rfl, hb3⟩; have b3 := b2.trans (hb3.mono (by rw [← hs0]; exact b2.size)))
    refine hK.out _ _ b3 (fun hS => ?_)
    clear hK K
    refine wpAnyH_take (i := 9) (oi := { dst := some 20, op := Op.binOp BinOp.eql 4 (Operand.tmp 17) (Operand.tmp 19) 4, type := 4, pos := "fit.go:30", after := #[{ on := 6, ground := Ground.data }, { on := 8, ground := Ground.data }, { on := 3, ground := Ground.guard }], guard := some (3, true) }) (v := .bool (q == r)) rfl (by kernel_rfl) (by kernel_rfl) (by kernel_rfl) (fun _ _ _ h => h) (Or.inl ⟨by rfl, fun W hW => by go_simp⟩) hS ?_
    simp only [Act.put, List.setIfInBounds_toArray, List.set_cons_zero, List.set_cons_succ]
    refine wpAnyH_take (i := 10) (oi := { dst := some 21, op := Op.pick (Operand.tmp 14) (Operand.tmp 20) (Operand.const (Value.bool false)), type := 4, pos := "fit.go:30", after := #[{ on := 3, ground := Ground.data }, { on := 9, ground := Ground.data }], guard := none }) (v := .bool (q == r)) rfl (by kernel_rfl) (by kernel_rfl) (by kernel_rfl) (fun _ _ _ h => h) (Or.inl ⟨by rfl, fun W hW => by go_simp⟩) hS ?_
    simp only [Act.put, List.setIfInBounds_toArray, List.set_cons_zero, List.set_cons_succ]
    refine wpAnyH_take (i := 11) (oi := { dst := some 4, op := Op.assign (Operand.tmp 21), type := 4, pos := "fit.go:30", after := #[{ on := 10, ground := Ground.data }, { on := 8, ground := Ground.chain }, { on := 0, ground := Ground.phase }, { on := 1, ground := Ground.phase }, { on := 2, ground := Ground.phase }, { on := 3, ground := Ground.phase }, { on := 4, ground := Ground.phase }, { on := 5, ground := Ground.phase }, { on := 6, ground := Ground.phase }, { on := 7, ground := Ground.phase }, { on := 8, ground := Ground.phase }, { on := 9, ground := Ground.phase }, { on := 10, ground := Ground.phase }], guard := none }) (v := .bool (q == r)) rfl (by kernel_rfl) (by kernel_rfl) (by kernel_rfl) (fun _ _ _ h => h) (Or.inl ⟨by rfl, fun W hW => by go_simp⟩) hS ?_
    simp only [Act.put, List.setIfInBounds_toArray, List.set_cons_zero, List.set_cons_succ]
    refine wpAnyH_done (by kernel_rfl) ?_ _
    go_wp2
    go_ret
    exact ⟨rfl, hb0.trans (b3.mono (by omega))⟩

end Go.Proofs.Ytcpegfjjdojinaa
