import Derived.Test.YtfonlolgkaobcaaGreatDoorPbTP
import Derived.Deep.RegionHeld
import Derived.Test.YtfonlolgkaobcaaGreatDoorPbDP
import Derived.Deep.CutRange
import Derived.Deep.CutBlock
import Derived.BigQuiet
/- The last test of the law's same, row by row (made by tools/mksame.py). -/
/- The law's same. -/
/- Both heaps and both paints, side by side. -/
/- Each call of PaintPlays' round, over both heaps and both paints; what a round keeps. -/
/- Both heaps and both paints at their beginning; the step that lies in a box. -/
namespace Go.Proofs.YtfonlolgkaobcaaGreatDoor
open Go.RowKit

theorem below_via {a b c : World} (h1 : Below a.heap.size a b) (h2 : Below b.heap.size b c) : Below a.heap.size a c := h1.trans (h2.mono h1.size)
set_option maxRecDepth 100000 in
set_option maxHeartbeats 8000000 in
theorem same_region (wr : World) (pb qb ns nt cap : Nat) (ao : Option Addr) (po : Bool) (L : List ((Int × Nat) × Nat)) (hll : L.length ≤ 1000000) (C2 : ∀ W, Below wr.heap.size wr W → W.cell? ⟨qb, 2, none⟩ = some (.slice ao ns cap)) (C3 : ∀ W, Below wr.heap.size wr W → W.cell? ⟨qb, 3, none⟩ = some (.bool po)) (C4 : ∀ W, Below wr.heap.size wr W → W.cell? ⟨qb, 4, none⟩ = some (.int .u64 (nt : Int))) (HW : Hid (∀ W, Below wr.heap.size wr W → Calls Tryz.prog 37 #[.pointer (some ⟨pb, 0, none⟩)] W fun e w' => e = .returned (.int .i64 (ns : Int)) ∧ W = w')) (HO : Hid (∀ W, Below wr.heap.size wr W → Calls Tryz.prog 65 #[.pointer (some ⟨pb, 0, none⟩)] W fun e w' => e = .returned (.bool po) ∧ W = w')) (HT : Hid (∀ W, Below wr.heap.size wr W → Calls Tryz.prog 66 #[.pointer (some ⟨pb, 0, none⟩)] W fun e w' => e = .returned (.int .u64 (nt : Int)) ∧ W = w')) (HP : Hid (∀ W, Below wr.heap.size wr W → Calls Tryz.prog 68 #[.pointer (some ⟨pb, 0, none⟩)] W fun e w' => ∃ v, e = .returned v ∧ (∀ W', Below w'.heap.size w' W' → OL W' 0 v L) ∧ Below W.heap.size W w')) (HR : Hid (∀ W, Below wr.heap.size wr W → Calls Tryz.prog 69 #[.pointer (some ⟨qb, 0, none⟩)] W fun e w' => ∃ v, e = .returned v ∧ (∀ W', Below w'.heap.size w' W' → OL W' 0 v L) ∧ Below W.heap.size W w')) (Q : Exit → Act → World → Prop) (hQ : ∀ x (a : Act) (d : Nat) (u : Value) (w : World), Q (.panic x) (a.put (some d) u) w → Q (.panic x) a w) (x2 x3 x4 x5 x6 x7 x8 x9 x10 x11 x12 x13 x14 x15 x16 x17 x18 x19 x20 x21 x22 x23 x24 x25 x26 x27 x28 x29 x30 x31 x32 x33 x34 x35 x36 x37 x38 x39 x40 x41 x42 x43 x44 x45 x46 x47 x48 x49 x50 x51 x52 x53 x54 x55 x56 x57 x58 x59 x60 x61 x62 x63 x64 x65 x66 x67 x68 x69 x70 x71 x72 x73 x74 x75 x76 x77 x78 x79 x80 x81 x82 x83 x84 x85 x86 x87 x88 x89 x90 x91 x92 x93 x94 x95 x96 x97 x98 x99 x100 x101 x102 x103 x104 x105 x106 x107 x108 x109 x110 x111 x112 x113 x114 x115 x116 x117 x118 x119 x120 : Value)
    (h : ∀ (z86 z87 z88 z89 z90 z91 z92 z93 z94 z95 z96 z97 z98 z99 z100 z101 z102 z103 z104 z105 z106 z107 z108 z109 z110 z111 z112 z113 z114 z115 z116 z117 z118 z119 z120 : Value) (w' : World), Below wr.heap.size wr w' → Q .normal ({ tmps := #[.pointer (some ⟨pb, 0, none⟩), .pointer (some ⟨qb, 0, none⟩), x2, x3, x4, x5, .bool true, x7, x8, x9, x10, x11, x12, x13, x14, x15, x16, x17, x18, x19, x20, x21, x22, x23, x24, x25, x26, x27, x28, x29, x30, x31, x32, x33, x34, x35, x36, x37, x38, x39, x40, x41, x42, x43, x44, x45, x46, x47, x48, x49, x50, x51, x52, x53, x54, x55, x56, x57, x58, x59, x60, x61, x62, x63, x64, x65, x66, x67, x68, x69, x70, x71, x72, x73, x74, x75, x76, x77, x78, x79, x80, x81, x82, x83, x84, x85, z86, z87, z88, z89, z90, z91, z92, z93, z94, z95, z96, z97, z98, z99, z100, z101, z102, z103, z104, z105, z106, z107, z108, z109, z110, z111, z112, z113, z114, z115, z116, z117, z118, z119, z120], defers := [] }) w') :
    Code.wp Tryz.prog (.region 16 #[{ dst := some 86, op := Op.move (Operand.tmp 0), type := 33, pos := "law.go:94", after := #[], guard := none }, { dst := some 87, op := Op.call { callee := Callee.value (Operand.func 37), args := #[Operand.tmp 86], argTypes := #[33] }, type := 3, pos := "law.go:94", after := #[{ on := 0, ground := Ground.data }], guard := none }, { dst := some 88, op := Op.move (Operand.tmp 1), type := 37, pos := "law.go:94", after := #[], guard := none }, { dst := some 89, op := Op.nilCheck (Operand.tmp 88), type := 0, pos := "law.go:94", after := #[{ on := 2, ground := Ground.data }], guard := none }, { dst := some 90, op := Op.fieldAddr 60 (Operand.tmp 89) 1, type := 0, pos := "law.go:94", after := #[{ on := 3, ground := Ground.data }], guard := none }, { dst := some 91, op := Op.fieldAddr 54 (Operand.tmp 90) 1, type := 0, pos := "law.go:94", after := #[{ on := 4, ground := Ground.data }], guard := none }, { dst := some 92, op := Op.load 52 (Operand.tmp 91), type := 52, pos := "law.go:94", after := #[{ on := 5, ground := Ground.data }], guard := none }, { dst := some 93, op := Op.call { callee := Callee.builtin Builtin.len, args := #[Operand.tmp 92], argTypes := #[52] }, type := 3, pos := "law.go:94", after := #[{ on := 6, ground := Ground.data }], guard := none }, { dst := some 94, op := Op.binOp BinOp.eql 3 (Operand.tmp 87) (Operand.tmp 93) 3, type := 4, pos := "law.go:94", after := #[{ on := 1, ground := Ground.data }, { on := 7, ground := Ground.data }], guard := none }, { dst := some 95, op := Op.move (Operand.tmp 94), type := 4, pos := "law.go:94", after := #[{ on := 8, ground := Ground.data }, { on := 1, ground := Ground.chain }], guard := none }, { dst := some 96, op := Op.move (Operand.tmp 0), type := 33, pos := "law.go:94", after := #[{ on := 9, ground := Ground.guard }], guard := some (9, true) }, { dst := some 97, op := Op.call { callee := Callee.value (Operand.func 65), args := #[Operand.tmp 96], argTypes := #[33] }, type := 4, pos := "law.go:94", after := #[{ on := 10, ground := Ground.data }, { on := 9, ground := Ground.chain }, { on := 9, ground := Ground.guard }], guard := some (9, true) }, { dst := some 98, op := Op.move (Operand.tmp 1), type := 37, pos := "law.go:94", after := #[{ on := 9, ground := Ground.guard }], guard := some (9, true) }, { dst := some 99, op := Op.nilCheck (Operand.tmp 98), type := 0, pos := "law.go:94", after := #[{ on := 12, ground := Ground.data }, { on := 9, ground := Ground.guard }], guard := some (9, true) }, { dst := some 100, op := Op.fieldAddr 60 (Operand.tmp 99) 1, type := 0, pos := "law.go:94", after := #[{ on := 13, ground := Ground.data }, { on := 9, ground := Ground.guard }], guard := some (9, true) }, { dst := some 101, op := Op.fieldAddr 54 (Operand.tmp 100) 2, type := 0, pos := "law.go:94", after := #[{ on := 14, ground := Ground.data }, { on := 9, ground := Ground.guard }], guard := some (9, true) }, { dst := some 102, op := Op.load 4 (Operand.tmp 101), type := 4, pos := "law.go:94", after := #[{ on := 15, ground := Ground.data }, { on := 9, ground := Ground.guard }], guard := some (9, true) }, { dst := some 103, op := Op.binOp BinOp.eql 4 (Operand.tmp 97) (Operand.tmp 102) 4, type := 4, pos := "law.go:94", after := #[{ on := 11, ground := Ground.data }, { on := 16, ground := Ground.data }, { on := 9, ground := Ground.guard }], guard := some (9, true) }, { dst := some 104, op := Op.pick (Operand.tmp 95) (Operand.tmp 103) (Operand.const (Value.bool false)), type := 4, pos := "law.go:94", after := #[{ on := 9, ground := Ground.data }, { on := 17, ground := Ground.data }], guard := none }, { dst := some 105, op := Op.move (Operand.tmp 104), type := 4, pos := "law.go:94", after := #[{ on := 18, ground := Ground.data }, { on := 11, ground := Ground.chain }], guard := none }, { dst := some 106, op := Op.move (Operand.tmp 0), type := 33, pos := "law.go:94", after := #[{ on := 19, ground := Ground.guard }], guard := some (19, true) }, { dst := some 107, op := Op.call { callee := Callee.value (Operand.func 66), args := #[Operand.tmp 106], argTypes := #[33] }, type := 39, pos := "law.go:94", after := #[{ on := 20, ground := Ground.data }, { on := 19, ground := Ground.chain }, { on := 19, ground := Ground.guard }], guard := some (19, true) }, { dst := some 108, op := Op.move (Operand.tmp 1), type := 37, pos := "law.go:94", after := #[{ on := 19, ground := Ground.guard }], guard := some (19, true) }, { dst := some 109, op := Op.nilCheck (Operand.tmp 108), type := 0, pos := "law.go:94", after := #[{ on := 22, ground := Ground.data }, { on := 19, ground := Ground.guard }], guard := some (19, true) }, { dst := some 110, op := Op.fieldAddr 60 (Operand.tmp 109) 2, type := 0, pos := "law.go:94", after := #[{ on := 23, ground := Ground.data }, { on := 19, ground := Ground.guard }], guard := some (19, true) }, { dst := some 111, op := Op.load 39 (Operand.tmp 110), type := 39, pos := "law.go:94", after := #[{ on := 24, ground := Ground.data }, { on := 19, ground := Ground.guard }], guard := some (19, true) }, { dst := some 112, op := Op.binOp BinOp.eql 39 (Operand.tmp 107) (Operand.tmp 111) 39, type := 4, pos := "law.go:94", after := #[{ on := 21, ground := Ground.data }, { on := 25, ground := Ground.data }, { on := 19, ground := Ground.guard }], guard := some (19, true) }, { dst := some 113, op := Op.pick (Operand.tmp 105) (Operand.tmp 112) (Operand.const (Value.bool false)), type := 4, pos := "law.go:94", after := #[{ on := 19, ground := Ground.data }, { on := 26, ground := Ground.data }], guard := none }, { dst := some 114, op := Op.move (Operand.tmp 113), type := 4, pos := "law.go:94", after := #[{ on := 27, ground := Ground.data }, { on := 21, ground := Ground.chain }], guard := none }, { dst := some 115, op := Op.move (Operand.tmp 0), type := 33, pos := "law.go:94", after := #[{ on := 28, ground := Ground.guard }], guard := some (28, true) }, { dst := some 116, op := Op.call { callee := Callee.value (Operand.func 68), args := #[Operand.tmp 115], argTypes := #[33] }, type := 56, pos := "law.go:94", after := #[{ on := 29, ground := Ground.data }, { on := 28, ground := Ground.chain }, { on := 28, ground := Ground.guard }], guard := some (28, true) }, { dst := some 117, op := Op.move (Operand.tmp 1), type := 37, pos := "law.go:94", after := #[{ on := 28, ground := Ground.guard }], guard := some (28, true) }, { dst := some 118, op := Op.call { callee := Callee.value (Operand.func 69), args := #[Operand.tmp 117], argTypes := #[37] }, type := 56, pos := "law.go:94", after := #[{ on := 31, ground := Ground.data }, { on := 30, ground := Ground.chain }, { on := 28, ground := Ground.guard }], guard := some (28, true) }, { dst := some 119, op := Op.call { callee := Callee.value (Operand.func 67), args := #[Operand.tmp 116, Operand.tmp 118], argTypes := #[56, 56] }, type := 4, pos := "law.go:94", after := #[{ on := 30, ground := Ground.data }, { on := 32, ground := Ground.data }, { on := 32, ground := Ground.chain }, { on := 28, ground := Ground.guard }], guard := some (28, true) }, { dst := some 120, op := Op.pick (Operand.tmp 114) (Operand.tmp 119) (Operand.const (Value.bool false)), type := 4, pos := "law.go:94", after := #[{ on := 28, ground := Ground.data }, { on := 33, ground := Ground.data }], guard := none }, { dst := some 6, op := Op.assign (Operand.tmp 120), type := 4, pos := "law.go:94", after := #[{ on := 34, ground := Ground.data }, { on := 33, ground := Ground.chain }, { on := 0, ground := Ground.phase }, { on := 1, ground := Ground.phase }, { on := 2, ground := Ground.phase }, { on := 3, ground := Ground.phase }, { on := 4, ground := Ground.phase }, { on := 5, ground := Ground.phase }, { on := 6, ground := Ground.phase }, { on := 7, ground := Ground.phase }, { on := 8, ground := Ground.phase }, { on := 9, ground := Ground.phase }, { on := 10, ground := Ground.phase }, { on := 11, ground := Ground.phase }, { on := 12, ground := Ground.phase }, { on := 13, ground := Ground.phase }, { on := 14, ground := Ground.phase }, { on := 15, ground := Ground.phase }, { on := 16, ground := Ground.phase }, { on := 17, ground := Ground.phase }, { on := 18, ground := Ground.phase }, { on := 19, ground := Ground.phase }, { on := 20, ground := Ground.phase }, { on := 21, ground := Ground.phase }, { on := 22, ground := Ground.phase }, { on := 23, ground := Ground.phase }, { on := 24, ground := Ground.phase }, { on := 25, ground := Ground.phase }, { on := 26, ground := Ground.phase }, { on := 27, ground := Ground.phase }, { on := 28, ground := Ground.phase }, { on := 29, ground := Ground.phase }, { on := 30, ground := Ground.phase }, { on := 31, ground := Ground.phase }, { on := 32, ground := Ground.phase }, { on := 33, ground := Ground.phase }, { on := 34, ground := Ground.phase }], guard := none }] true) Q ({ tmps := #[.pointer (some ⟨pb, 0, none⟩), .pointer (some ⟨qb, 0, none⟩), x2, x3, x4, x5, x6, x7, x8, x9, x10, x11, x12, x13, x14, x15, x16, x17, x18, x19, x20, x21, x22, x23, x24, x25, x26, x27, x28, x29, x30, x31, x32, x33, x34, x35, x36, x37, x38, x39, x40, x41, x42, x43, x44, x45, x46, x47, x48, x49, x50, x51, x52, x53, x54, x55, x56, x57, x58, x59, x60, x61, x62, x63, x64, x65, x66, x67, x68, x69, x70, x71, x72, x73, x74, x75, x76, x77, x78, x79, x80, x81, x82, x83, x84, x85, x86, x87, x88, x89, x90, x91, x92, x93, x94, x95, x96, x97, x98, x99, x100, x101, x102, x103, x104, x105, x106, x107, x108, x109, x110, x111, x112, x113, x114, x115, x116, x117, x118, x119, x120], defers := [] }) wr := by
  have hq1 : ((ns : Int) == (ns : Int)) = true := beq_self_eq_true _
  have hq2 : (po == po) = true := beq_self_eq_true _
  have hq3 : ((nt : Int) == (nt : Int)) = true := beq_self_eq_true _
  have q0 : Below wr.heap.size wr wr.drew := (Below.refl _ _).drew
  refine wp_region_held_drew (S := fun W => Below wr.heap.size wr W) (by kernel_rfl) q0 (fun hS => ?_)
  refine wpAnyH_take (i := 0) (oi := { dst := some 86, op := Op.move (Operand.tmp 0), type := 33, pos := "law.go:94", after := #[], guard := none }) (v := .pointer (some ⟨pb, 0, none⟩)) rfl (by kernel_rfl) (by kernel_rfl) (by kernel_rfl) (fun x a w h => hQ x a _ _ w h) (Or.inl ⟨by rfl, fun W hW => by go_simp⟩) hS ?_
  simp only [Act.put, List.setIfInBounds_toArray, List.set_cons_zero, List.set_cons_succ]
  refine wpAnyH_take (i := 2) (oi := { dst := some 88, op := Op.move (Operand.tmp 1), type := 37, pos := "law.go:94", after := #[], guard := none }) (v := .pointer (some ⟨qb, 0, none⟩)) rfl (by kernel_rfl) (by kernel_rfl) (by kernel_rfl) (fun x a w h => hQ x a _ _ w h) (Or.inl ⟨by rfl, fun W hW => by go_simp⟩) hS ?_
  simp only [Act.put, List.setIfInBounds_toArray, List.set_cons_zero, List.set_cons_succ]
  refine wpAnyH_take (i := 3) (oi := { dst := some 89, op := Op.nilCheck (Operand.tmp 88), type := 0, pos := "law.go:94", after := #[{ on := 2, ground := Ground.data }], guard := none }) (v := .pointer (some ⟨qb, 0, none⟩)) rfl (by kernel_rfl) (by kernel_rfl) (by kernel_rfl) (fun x a w h => hQ x a _ _ w h) (Or.inl ⟨by rfl, fun W hW => by go_simp⟩) hS ?_
  simp only [Act.put, List.setIfInBounds_toArray, List.set_cons_zero, List.set_cons_succ]
  refine wpAnyH_take (i := 4) (oi := { dst := some 90, op := Op.fieldAddr 60 (Operand.tmp 89) 1, type := 0, pos := "law.go:94", after := #[{ on := 3, ground := Ground.data }], guard := none }) (v := .pointer (some ⟨qb, 1, none⟩)) rfl (by kernel_rfl) (by kernel_rfl) (by kernel_rfl) (fun x a w h => hQ x a _ _ w h) (Or.inl ⟨by rfl, fun W hW => by go_simp⟩) hS ?_
  simp only [Act.put, List.setIfInBounds_toArray, List.set_cons_zero, List.set_cons_succ]
  refine wpAnyH_take (i := 5) (oi := { dst := some 91, op := Op.fieldAddr 54 (Operand.tmp 90) 1, type := 0, pos := "law.go:94", after := #[{ on := 4, ground := Ground.data }], guard := none }) (v := .pointer (some ⟨qb, 2, none⟩)) rfl (by kernel_rfl) (by kernel_rfl) (by kernel_rfl) (fun x a w h => hQ x a _ _ w h) (Or.inl ⟨by rfl, fun W hW => by go_simp⟩) hS ?_
  simp only [Act.put, List.setIfInBounds_toArray, List.set_cons_zero, List.set_cons_succ]
  refine wpAnyH_take (i := 6) (oi := { dst := some 92, op := Op.load 52 (Operand.tmp 91), type := 52, pos := "law.go:94", after := #[{ on := 5, ground := Ground.data }], guard := none }) (v := .slice ao ns cap) rfl (by kernel_rfl) (by kernel_rfl) (by kernel_rfl) (fun x a w h => hQ x a _ _ w h) (Or.inl ⟨by rfl, fun W hW => by go_simp⟩) hS ?_
  simp only [Act.put, List.setIfInBounds_toArray, List.set_cons_zero, List.set_cons_succ]
  refine wpAnyH_take (i := 7) (oi := { dst := some 93, op := Op.call { callee := Callee.builtin Builtin.len, args := #[Operand.tmp 92], argTypes := #[52] }, type := 3, pos := "law.go:94", after := #[{ on := 6, ground := Ground.data }], guard := none }) (v := .int .i64 (ns : Int)) rfl (by kernel_rfl) (by kernel_rfl) (by kernel_rfl) (fun x a w h => hQ x a _ _ w h) (Or.inl ⟨by rfl, fun W hW => by go_simp⟩) hS ?_
  simp only [Act.put, List.setIfInBounds_toArray, List.set_cons_zero, List.set_cons_succ]
  refine wpAnyH_ready (rs := [1]) (by kernel_rfl) (by simp) ?_
  refine AllReadyH.cons rfl (fun K hK => ?_) AllReadyH.nil
  go_simp
  go_wp2_with (go_at_call 37; refine (HW.out _ q0).mono ?_; rintro e _ ⟨rfl, rfl⟩)
  refine hK.out _ _ q0 (fun hS => ?_)
  clear hK K
  refine wpAnyH_take (i := 8) (oi := { dst := some 94, op := Op.binOp BinOp.eql 3 (Operand.tmp 87) (Operand.tmp 93) 3, type := 4, pos := "law.go:94", after := #[{ on := 1, ground := Ground.data }, { on := 7, ground := Ground.data }], guard := none }) (v := .bool true) rfl (by kernel_rfl) (by kernel_rfl) (by kernel_rfl) (fun x a w h => hQ x a _ _ w h) (Or.inl ⟨by rfl, fun W hW => by go_simp⟩) hS ?_
  simp only [Act.put, List.setIfInBounds_toArray, List.set_cons_zero, List.set_cons_succ]
  refine wpAnyH_take (i := 9) (oi := { dst := some 95, op := Op.move (Operand.tmp 94), type := 4, pos := "law.go:94", after := #[{ on := 8, ground := Ground.data }, { on := 1, ground := Ground.chain }], guard := none }) (v := .bool true) rfl (by kernel_rfl) (by kernel_rfl) (by kernel_rfl) (fun x a w h => hQ x a _ _ w h) (Or.inl ⟨by rfl, fun W hW => by go_simp⟩) hS ?_
  simp only [Act.put, List.setIfInBounds_toArray, List.set_cons_zero, List.set_cons_succ]
  refine wpAnyH_take (i := 10) (oi := { dst := some 96, op := Op.move (Operand.tmp 0), type := 33, pos := "law.go:94", after := #[{ on := 9, ground := Ground.guard }], guard := some (9, true) }) (v := .pointer (some ⟨pb, 0, none⟩)) rfl (by kernel_rfl) (by kernel_rfl) (by kernel_rfl) (fun x a w h => hQ x a _ _ w h) (Or.inl ⟨by rfl, fun W hW => by go_simp⟩) hS ?_
  simp only [Act.put, List.setIfInBounds_toArray, List.set_cons_zero, List.set_cons_succ]
  refine wpAnyH_take (i := 12) (oi := { dst := some 98, op := Op.move (Operand.tmp 1), type := 37, pos := "law.go:94", after := #[{ on := 9, ground := Ground.guard }], guard := some (9, true) }) (v := .pointer (some ⟨qb, 0, none⟩)) rfl (by kernel_rfl) (by kernel_rfl) (by kernel_rfl) (fun x a w h => hQ x a _ _ w h) (Or.inl ⟨by rfl, fun W hW => by go_simp⟩) hS ?_
  simp only [Act.put, List.setIfInBounds_toArray, List.set_cons_zero, List.set_cons_succ]
  refine wpAnyH_take (i := 13) (oi := { dst := some 99, op := Op.nilCheck (Operand.tmp 98), type := 0, pos := "law.go:94", after := #[{ on := 12, ground := Ground.data }, { on := 9, ground := Ground.guard }], guard := some (9, true) }) (v := .pointer (some ⟨qb, 0, none⟩)) rfl (by kernel_rfl) (by kernel_rfl) (by kernel_rfl) (fun x a w h => hQ x a _ _ w h) (Or.inl ⟨by rfl, fun W hW => by go_simp⟩) hS ?_
  simp only [Act.put, List.setIfInBounds_toArray, List.set_cons_zero, List.set_cons_succ]
  refine wpAnyH_take (i := 14) (oi := { dst := some 100, op := Op.fieldAddr 60 (Operand.tmp 99) 1, type := 0, pos := "law.go:94", after := #[{ on := 13, ground := Ground.data }, { on := 9, ground := Ground.guard }], guard := some (9, true) }) (v := .pointer (some ⟨qb, 1, none⟩)) rfl (by kernel_rfl) (by kernel_rfl) (by kernel_rfl) (fun x a w h => hQ x a _ _ w h) (Or.inl ⟨by rfl, fun W hW => by go_simp⟩) hS ?_
  simp only [Act.put, List.setIfInBounds_toArray, List.set_cons_zero, List.set_cons_succ]
  refine wpAnyH_take (i := 15) (oi := { dst := some 101, op := Op.fieldAddr 54 (Operand.tmp 100) 2, type := 0, pos := "law.go:94", after := #[{ on := 14, ground := Ground.data }, { on := 9, ground := Ground.guard }], guard := some (9, true) }) (v := .pointer (some ⟨qb, 3, none⟩)) rfl (by kernel_rfl) (by kernel_rfl) (by kernel_rfl) (fun x a w h => hQ x a _ _ w h) (Or.inl ⟨by rfl, fun W hW => by go_simp⟩) hS ?_
  simp only [Act.put, List.setIfInBounds_toArray, List.set_cons_zero, List.set_cons_succ]
  refine wpAnyH_take (i := 16) (oi := { dst := some 102, op := Op.load 4 (Operand.tmp 101), type := 4, pos := "law.go:94", after := #[{ on := 15, ground := Ground.data }, { on := 9, ground := Ground.guard }], guard := some (9, true) }) (v := .bool po) rfl (by kernel_rfl) (by kernel_rfl) (by kernel_rfl) (fun x a w h => hQ x a _ _ w h) (Or.inl ⟨by rfl, fun W hW => by go_simp⟩) hS ?_
  simp only [Act.put, List.setIfInBounds_toArray, List.set_cons_zero, List.set_cons_succ]
  refine wpAnyH_ready (rs := [11]) (by kernel_rfl) (by simp) ?_
  refine AllReadyH.cons rfl (fun K hK => ?_) AllReadyH.nil
  go_simp
  go_wp2_with (go_at_call 65; refine (HO.out _ q0).mono ?_; rintro e _ ⟨rfl, rfl⟩)
  refine hK.out _ _ q0 (fun hS => ?_)
  clear hK K
  refine wpAnyH_take (i := 17) (oi := { dst := some 103, op := Op.binOp BinOp.eql 4 (Operand.tmp 97) (Operand.tmp 102) 4, type := 4, pos := "law.go:94", after := #[{ on := 11, ground := Ground.data }, { on := 16, ground := Ground.data }, { on := 9, ground := Ground.guard }], guard := some (9, true) }) (v := .bool true) rfl (by kernel_rfl) (by kernel_rfl) (by kernel_rfl) (fun x a w h => hQ x a _ _ w h) (Or.inl ⟨by rfl, fun W hW => by go_simp⟩) hS ?_
  simp only [Act.put, List.setIfInBounds_toArray, List.set_cons_zero, List.set_cons_succ]
  refine wpAnyH_take (i := 18) (oi := { dst := some 104, op := Op.pick (Operand.tmp 95) (Operand.tmp 103) (Operand.const (Value.bool false)), type := 4, pos := "law.go:94", after := #[{ on := 9, ground := Ground.data }, { on := 17, ground := Ground.data }], guard := none }) (v := .bool true) rfl (by kernel_rfl) (by kernel_rfl) (by kernel_rfl) (fun x a w h => hQ x a _ _ w h) (Or.inl ⟨by rfl, fun W hW => by go_simp⟩) hS ?_
  simp only [Act.put, List.setIfInBounds_toArray, List.set_cons_zero, List.set_cons_succ]
  refine wpAnyH_take (i := 19) (oi := { dst := some 105, op := Op.move (Operand.tmp 104), type := 4, pos := "law.go:94", after := #[{ on := 18, ground := Ground.data }, { on := 11, ground := Ground.chain }], guard := none }) (v := .bool true) rfl (by kernel_rfl) (by kernel_rfl) (by kernel_rfl) (fun x a w h => hQ x a _ _ w h) (Or.inl ⟨by rfl, fun W hW => by go_simp⟩) hS ?_
  simp only [Act.put, List.setIfInBounds_toArray, List.set_cons_zero, List.set_cons_succ]
  refine wpAnyH_take (i := 20) (oi := { dst := some 106, op := Op.move (Operand.tmp 0), type := 33, pos := "law.go:94", after := #[{ on := 19, ground := Ground.guard }], guard := some (19, true) }) (v := .pointer (some ⟨pb, 0, none⟩)) rfl (by kernel_rfl) (by kernel_rfl) (by kernel_rfl) (fun x a w h => hQ x a _ _ w h) (Or.inl ⟨by rfl, fun W hW => by go_simp⟩) hS ?_
  simp only [Act.put, List.setIfInBounds_toArray, List.set_cons_zero, List.set_cons_succ]
  refine wpAnyH_take (i := 22) (oi := { dst := some 108, op := Op.move (Operand.tmp 1), type := 37, pos := "law.go:94", after := #[{ on := 19, ground := Ground.guard }], guard := some (19, true) }) (v := .pointer (some ⟨qb, 0, none⟩)) rfl (by kernel_rfl) (by kernel_rfl) (by kernel_rfl) (fun x a w h => hQ x a _ _ w h) (Or.inl ⟨by rfl, fun W hW => by go_simp⟩) hS ?_
  simp only [Act.put, List.setIfInBounds_toArray, List.set_cons_zero, List.set_cons_succ]
  refine wpAnyH_take (i := 23) (oi := { dst := some 109, op := Op.nilCheck (Operand.tmp 108), type := 0, pos := "law.go:94", after := #[{ on := 22, ground := Ground.data }, { on := 19, ground := Ground.guard }], guard := some (19, true) }) (v := .pointer (some ⟨qb, 0, none⟩)) rfl (by kernel_rfl) (by kernel_rfl) (by kernel_rfl) (fun x a w h => hQ x a _ _ w h) (Or.inl ⟨by rfl, fun W hW => by go_simp⟩) hS ?_
  simp only [Act.put, List.setIfInBounds_toArray, List.set_cons_zero, List.set_cons_succ]
  refine wpAnyH_take (i := 24) (oi := { dst := some 110, op := Op.fieldAddr 60 (Operand.tmp 109) 2, type := 0, pos := "law.go:94", after := #[{ on := 23, ground := Ground.data }, { on := 19, ground := Ground.guard }], guard := some (19, true) }) (v := .pointer (some ⟨qb, 4, none⟩)) rfl (by kernel_rfl) (by kernel_rfl) (by kernel_rfl) (fun x a w h => hQ x a _ _ w h) (Or.inl ⟨by rfl, fun W hW => by go_simp⟩) hS ?_
  simp only [Act.put, List.setIfInBounds_toArray, List.set_cons_zero, List.set_cons_succ]
  refine wpAnyH_take (i := 25) (oi := { dst := some 111, op := Op.load 39 (Operand.tmp 110), type := 39, pos := "law.go:94", after := #[{ on := 24, ground := Ground.data }, { on := 19, ground := Ground.guard }], guard := some (19, true) }) (v := .int .u64 (nt : Int)) rfl (by kernel_rfl) (by kernel_rfl) (by kernel_rfl) (fun x a w h => hQ x a _ _ w h) (Or.inl ⟨by rfl, fun W hW => by go_simp⟩) hS ?_
  simp only [Act.put, List.setIfInBounds_toArray, List.set_cons_zero, List.set_cons_succ]
  refine wpAnyH_ready (rs := [21]) (by kernel_rfl) (by simp) ?_
  refine AllReadyH.cons rfl (fun K hK => ?_) AllReadyH.nil
  go_simp
  go_wp2_with (go_at_call 66; refine (HT.out _ q0).mono ?_; rintro e _ ⟨rfl, rfl⟩)
  refine hK.out _ _ q0 (fun hS => ?_)
  clear hK K
  refine wpAnyH_take (i := 26) (oi := { dst := some 112, op := Op.binOp BinOp.eql 39 (Operand.tmp 107) (Operand.tmp 111) 39, type := 4, pos := "law.go:94", after := #[{ on := 21, ground := Ground.data }, { on := 25, ground := Ground.data }, { on := 19, ground := Ground.guard }], guard := some (19, true) }) (v := .bool true) rfl (by kernel_rfl) (by kernel_rfl) (by kernel_rfl) (fun x a w h => hQ x a _ _ w h) (Or.inl ⟨by rfl, fun W hW => by go_simp⟩) hS ?_
  simp only [Act.put, List.setIfInBounds_toArray, List.set_cons_zero, List.set_cons_succ]
  refine wpAnyH_take (i := 27) (oi := { dst := some 113, op := Op.pick (Operand.tmp 105) (Operand.tmp 112) (Operand.const (Value.bool false)), type := 4, pos := "law.go:94", after := #[{ on := 19, ground := Ground.data }, { on := 26, ground := Ground.data }], guard := none }) (v := .bool true) rfl (by kernel_rfl) (by kernel_rfl) (by kernel_rfl) (fun x a w h => hQ x a _ _ w h) (Or.inl ⟨by rfl, fun W hW => by go_simp⟩) hS ?_
  simp only [Act.put, List.setIfInBounds_toArray, List.set_cons_zero, List.set_cons_succ]
  refine wpAnyH_take (i := 28) (oi := { dst := some 114, op := Op.move (Operand.tmp 113), type := 4, pos := "law.go:94", after := #[{ on := 27, ground := Ground.data }, { on := 21, ground := Ground.chain }], guard := none }) (v := .bool true) rfl (by kernel_rfl) (by kernel_rfl) (by kernel_rfl) (fun x a w h => hQ x a _ _ w h) (Or.inl ⟨by rfl, fun W hW => by go_simp⟩) hS ?_
  simp only [Act.put, List.setIfInBounds_toArray, List.set_cons_zero, List.set_cons_succ]
  refine wpAnyH_take (i := 29) (oi := { dst := some 115, op := Op.move (Operand.tmp 0), type := 33, pos := "law.go:94", after := #[{ on := 28, ground := Ground.guard }], guard := some (28, true) }) (v := .pointer (some ⟨pb, 0, none⟩)) rfl (by kernel_rfl) (by kernel_rfl) (by kernel_rfl) (fun x a w h => hQ x a _ _ w h) (Or.inl ⟨by rfl, fun W hW => by go_simp⟩) hS ?_
  simp only [Act.put, List.setIfInBounds_toArray, List.set_cons_zero, List.set_cons_succ]
  refine wpAnyH_take (i := 31) (oi := { dst := some 117, op := Op.move (Operand.tmp 1), type := 37, pos := "law.go:94", after := #[{ on := 28, ground := Ground.guard }], guard := some (28, true) }) (v := .pointer (some ⟨qb, 0, none⟩)) rfl (by kernel_rfl) (by kernel_rfl) (by kernel_rfl) (fun x a w h => hQ x a _ _ w h) (Or.inl ⟨by rfl, fun W hW => by go_simp⟩) hS ?_
  simp only [Act.put, List.setIfInBounds_toArray, List.set_cons_zero, List.set_cons_succ]
  refine wpAnyH_ready (rs := [30]) (by kernel_rfl) (by simp) ?_
  refine AllReadyH.cons rfl (fun K hK => ?_) AllReadyH.nil
  go_simp
  go_wp2_with (go_at_call 68; refine (HP.out _ q0).mono ?_; rintro e w5 ⟨v5, rfl, K5, b5⟩; have q5 := below_via q0 b5)
  refine hK.out _ _ q5 (fun hS => ?_)
  clear hK K
  refine wpAnyH_ready (rs := [32]) (by kernel_rfl) (by simp) ?_
  refine AllReadyH.cons rfl (fun K hK => ?_) AllReadyH.nil
  go_simp
  go_wp2_with (go_at_call 69; refine (HR.out _ q5).mono ?_; rintro e w6 ⟨v6, rfl, K6, b6⟩; have q6 := below_via q5 b6)
  refine hK.out _ _ q6 (fun hS => ?_)
  clear hK K
  refine wpAnyH_ready (rs := [33]) (by kernel_rfl) (by simp) ?_
  refine AllReadyH.cons rfl (fun K hK => ?_) AllReadyH.nil
  go_simp
  go_wp2_with (go_at_call 67; refine (houts_any (K5 _ b6) (K6 _ (Below.refl _ _)) hll).mono ?_; rintro e w7 ⟨rfl, b7⟩; have q7 := below_via q6 b7)
  refine hK.out _ _ q7 (fun hS => ?_)
  clear hK K
  refine wpAnyH_take (i := 34) (oi := { dst := some 120, op := Op.pick (Operand.tmp 114) (Operand.tmp 119) (Operand.const (Value.bool false)), type := 4, pos := "law.go:94", after := #[{ on := 28, ground := Ground.data }, { on := 33, ground := Ground.data }], guard := none }) (v := .bool true) rfl (by kernel_rfl) (by kernel_rfl) (by kernel_rfl) (fun x a w h => hQ x a _ _ w h) (Or.inl ⟨by rfl, fun W hW => by go_simp⟩) hS ?_
  simp only [Act.put, List.setIfInBounds_toArray, List.set_cons_zero, List.set_cons_succ]
  refine wpAnyH_take (i := 35) (oi := { dst := some 6, op := Op.assign (Operand.tmp 120), type := 4, pos := "law.go:94", after := #[{ on := 34, ground := Ground.data }, { on := 33, ground := Ground.chain }, { on := 0, ground := Ground.phase }, { on := 1, ground := Ground.phase }, { on := 2, ground := Ground.phase }, { on := 3, ground := Ground.phase }, { on := 4, ground := Ground.phase }, { on := 5, ground := Ground.phase }, { on := 6, ground := Ground.phase }, { on := 7, ground := Ground.phase }, { on := 8, ground := Ground.phase }, { on := 9, ground := Ground.phase }, { on := 10, ground := Ground.phase }, { on := 11, ground := Ground.phase }, { on := 12, ground := Ground.phase }, { on := 13, ground := Ground.phase }, { on := 14, ground := Ground.phase }, { on := 15, ground := Ground.phase }, { on := 16, ground := Ground.phase }, { on := 17, ground := Ground.phase }, { on := 18, ground := Ground.phase }, { on := 19, ground := Ground.phase }, { on := 20, ground := Ground.phase }, { on := 21, ground := Ground.phase }, { on := 22, ground := Ground.phase }, { on := 23, ground := Ground.phase }, { on := 24, ground := Ground.phase }, { on := 25, ground := Ground.phase }, { on := 26, ground := Ground.phase }, { on := 27, ground := Ground.phase }, { on := 28, ground := Ground.phase }, { on := 29, ground := Ground.phase }, { on := 30, ground := Ground.phase }, { on := 31, ground := Ground.phase }, { on := 32, ground := Ground.phase }, { on := 33, ground := Ground.phase }, { on := 34, ground := Ground.phase }], guard := none }) (v := .bool true) rfl (by kernel_rfl) (by kernel_rfl) (by kernel_rfl) (fun x a w h => hQ x a _ _ w h) (Or.inl ⟨by rfl, fun W hW => by go_simp⟩) hS ?_
  simp only [Act.put, List.setIfInBounds_toArray, List.set_cons_zero, List.set_cons_succ]
  refine wpAnyH_done (by kernel_rfl) ?_ _
  exact h _ _ _ _ _ _ _ _ _ _ _ _ _ _ _ _ _ _ _ _ _ _ _ _ _ _ _ _ _ _ _ _ _ _ _ _ q7

end Go.Proofs.YtfonlolgkaobcaaGreatDoor

namespace Go.Proofs.YtfonlolgkaobcaaGreatDoor
open Go.RowKit

theorem OL.zero {w : World} {b : Nat} {v : Value} {L : List ((Int × Nat) × Nat)} (h : OL w b v L) : OL w 0 v L := by
  obtain ⟨ao, cap, e, hx⟩ := h
  exact ⟨ao, cap, e, fun h0 => by
    obtain ⟨g, h1, _, h3⟩ := hx h0
    exact ⟨g, h1, Nat.zero_le _, h3⟩⟩
section
variable {w w' : World} {pb hb base sb mb tb qb rb base' ra rc rt : Nat} {v sv mv kv vv lv : Value} {p : PSt} {F : Nat → Prop} {h : HSt} {L : List ((Int × Nat) × Nat)} {M : List Pl} {k : Nat}
set_option maxRecDepth 20000 in
set_option maxHeartbeats 4000000 in
theorem psame_any (x : PX w pb hb base sb mb tb v p) (y : HP w hb F h) (q : RQ w qb rb base' sv mv kv vv p L) (z : RX w rb ra rc rt lv h M) (H : PI p k) (hk : k ≤ 1000000) (N : Nat) (hN : N < 1000000) :
    Calls Tryz.prog 26 #[.pointer (some ⟨pb, 0, none⟩), .pointer (some ⟨qb, 0, none⟩), .int .u64 (N : Int)] w fun e w' => e = .returned (.bool true) ∧ Below w.heap.size w w' := by
  have HPM : Hid (∀ W, Below w.heap.size w W → ∀ s : Nat, s < 18446744073709551616 → Calls Tryz.prog 36 #[.pointer (some ⟨pb, 0, none⟩), .int .u64 (s : Int)] W fun e w' => e = .returned (.tuple #[.int .i64 ((markR h p s).1 : Int), .bool (markR h p s).2.1, .bool (markR h p s).2.2]) ∧ Below W.heap.size W w') := fun W hB s hs => mark_any (x.below hB) (y.below hB) s hs
  have HQM : Hid (∀ W, Below w.heap.size w W → ∀ s : Nat, Calls Tryz.prog 61 #[.pointer (some ⟨qb, 0, none⟩), .int .u64 (s : Int)] W fun e w' => e = .returned (.tuple #[.int .i64 ((markR h p s).1 : Int), .bool (markR h p s).2.1, .bool (markR h p s).2.2]) ∧ Below W.heap.size W w') := fun W hB s => rmark_any (q.below hB) (z.below hB) s
  have HPT : Hid (∀ W, Below w.heap.size w W → ∀ (a : Int) (n : Nat), Calls Tryz.prog 63 #[.pointer (some ⟨pb, 0, none⟩), .agg #[.int .i64 a, .int .u64 (n : Int)]] W fun e w' => e = .returned (.tuple #[.int .i64 ((metR p (a, n)).1 : Int), .bool (metR p (a, n)).2]) ∧ Below W.heap.size W w') := fun W hB a n => met_any (x.below hB) a n
  have HQT : Hid (∀ W, Below w.heap.size w W → ∀ (a n : Nat), a ≤ 64 → n < 72057594037927936 → Calls Tryz.prog 64 #[.pointer (some ⟨qb, 0, none⟩), .agg #[.int .i64 (a : Int), .int .u64 (n : Int)]] W fun e w' => e = .returned (.tuple #[.int .i64 ((metR p ((a : Int), n)).1 : Int), .bool (metR p ((a : Int), n)).2]) ∧ Below W.heap.size W w') := fun W hB a n h1 h2 => rmet_any (q.below hB) a n h1 h2
  have HW : Hid (∀ W, Below w.heap.size w W → Calls Tryz.prog 37 #[.pointer (some ⟨pb, 0, none⟩)] W fun e w' => e = .returned (.int .i64 (p.stk.length : Int)) ∧ W = w') := fun W hB => waiting_any (x.below hB)
  have HOv : Hid (∀ W, Below w.heap.size w W → Calls Tryz.prog 65 #[.pointer (some ⟨pb, 0, none⟩)] W fun e w' => e = .returned (.bool p.ov) ∧ W = w') := fun W hB => pover_any (x.below hB)
  have HTu : Hid (∀ W, Below w.heap.size w W → Calls Tryz.prog 66 #[.pointer (some ⟨pb, 0, none⟩)] W fun e w' => e = .returned (.int .u64 (p.turns : Int)) ∧ W = w') := fun W hB => pturns_any (x.below hB)
  have HPO : Hid (∀ W, Below w.heap.size w W → Calls Tryz.prog 68 #[.pointer (some ⟨pb, 0, none⟩)] W fun e w' => ∃ v, e = .returned v ∧ (∀ W', Below w'.heap.size w' W' → OL W' 0 v L) ∧ Below W.heap.size W w') := fun W hB => by
    refine (outs_any (x.below hB) H.nm (by have := H.el; omega)).mono ?_
    rintro e w' ⟨r, L', h1, h2, h3, h4⟩
    have e2 : L' = L := outsOf_uniq h2 q.srt
    subst e2
    exact ⟨r, h1, fun W' hb => (h3.below hb).zero, h4⟩
  have HQO : Hid (∀ W, Below w.heap.size w W → Calls Tryz.prog 69 #[.pointer (some ⟨qb, 0, none⟩)] W fun e w' => ∃ v, e = .returned v ∧ (∀ W', Below w'.heap.size w' W' → OL W' 0 v L) ∧ Below W.heap.size W w') := fun W hB => by
    refine (routs_any (q.below hB)).mono ?_
    rintro e w' ⟨r, h1, h3, h4⟩
    exact ⟨r, h1, fun W' hb => (h3.below hb).zero, h4⟩
  have HCe : Hid (∀ W, Below w.heap.size w W → W.cell? ⟨qb, 2, none⟩ = some sv ∧ W.cell? ⟨qb, 3, none⟩ = some (.bool p.ov) ∧ W.cell? ⟨qb, 4, none⟩ = some (.int .u64 (p.turns : Int)) ∧ qb < W.heap.size) := fun W hB => ⟨(q.below hB).box.cell 2 (by simp), (q.below hB).box.cell 3 (by simp), (q.below hB).box.cell 4 (by simp), (q.below hB).box.lt⟩
  obtain ⟨ao, cap, hsv⟩ := ownc_form q.sl
  have HSV : Hid _ := hidden hsv
  have hll : L.length ≤ 1000000 := q.few.2.2.2.2
  have hst : p.stk.length ≤ 64 := by have := q.few; omega
  clear x y q z H hsv
  go_enter Tryz.func26, Tryz.ntmps26
  go_upto_block 0 with fail
  go_cut [7, 8, 9, 10, 11, 12, 13] from 20 to 52 (fun _ _ _ _ _ _ _ wc => Below w.heap.size w wc)
  case first =>
    go_wp2
    go_loopw [7, 8, 9, 10, 11, 12, 13] (fun t _ _ _ _ _ _ wr => ∃ s : Nat, s ≤ N + 2 ∧ t = .int .u64 (s : Int) ∧ Below w.heap.size w wr) (fun t _ _ _ _ _ _ _ => N + 2 - (intOf t).toNat)
    case atStart => exact ⟨0, by omega, rfl, Below.refl _ _⟩
    case round =>
      obtain ⟨s, hs, rfl, hb⟩ := hrel
      by_cases hlt : (s : Int) ≤ (N : Int) + 1
      · have h1 := HPM.out wr hb s (by omega)
        have h2 := fun W (hB : Below wr.heap.size wr W) => HQM.out W (below_via hb hB) s
        have HB : Hid _ := hidden hb
        clear hb
        generalize (markR h p s) = mr at *
        obtain ⟨m1, m2, m3⟩ := mr
        simp only at h1 h2
        go_wp2_with fail
        refine h1.mono ?_
        rintro e w1 ⟨rfl, b1⟩
        have h3 := h2 w1 b1
        clear h1 h2
        go_wp2_with fail
        refine h3.mono ?_
        rintro e w2 ⟨rfl, b2⟩
        have HB2 : Hid (Below w.heap.size w w2) := below_via (below_via HB.out b1) b2
        clear h3 b1 b2
        cases m2 <;> cases m3
        all_goals
          go_wp2
          go_roundw
          case rel => exact ⟨s + 1, by omega, by go_num, HB2.out⟩
          case measure => simp [intOf]; omega
      · have HB : Hid _ := hidden hb
        clear hb
        go_wp2
        go_meet
        exact HB.out
  case rest =>
    obtain ⟨w1, hw1⟩ : ∃ x, x = wc := ⟨_, rfl⟩
    subst hw1
    have HB1 : Hid _ := hidden hcut
    clear hcut
    go_wp2_with fail
    refine (ids_any w1).mono ?_
    rintro e w2 ⟨v2, rfl, il⟩
    obtain ⟨ai, ci, hv2⟩ := ownc_form il.own
    subst hv2
    have HB2 : Hid (Below w.heap.size w w2) := below_via HB1.out il.bel
    have HID : Hid (∀ W, Below w2.heap.size w2 W → ∀ i, i < 28 → ∃ g, ai = some ⟨g, 0, none⟩ ∧ g < W.heap.size ∧ W.cell? ⟨g, i * 2, none⟩ = some (.int .i64 ((i / 7 : Nat) : Int)) ∧ W.cell? ⟨g, i * 2 + 1, none⟩ = some (.int .u64 ((i % 7 : Nat) : Int))) := fun W hB i hi => by
      have ho := own_kept il.own (kept_of_below hB (fun _ => False)) (fun _ _ => id)
      obtain ⟨g, cap', e, _, h2, _, h3, _⟩ := ownc_cell ho (by omega)
      simp only [Value.slice.injEq] at e
      have hl : i < (idsL 28).length := by rw [idsL_len]; exact hi
      have hat := idsV_at (idsL 28) i hl
      have ei : (idsL 28)[i] = idAt i := by simp [idsL]
      rw [ei] at hat
      exact ⟨g, e.1, h2, h3 _ _ hat.1, h3 _ _ hat.2⟩
    clear il HB1
    go_wp2
    go_loopw [15, 16, 17, 18, 19] (fun t _ _ _ _ wr => ∃ i : Nat, i ≤ 28 ∧ t = .int .i64 (i : Int) ∧ Below w2.heap.size w2 wr) (fun t _ _ _ _ _ => 28 - (intOf t).toNat)
    case atStart => exact ⟨0, by omega, rfl, Below.refl _ _⟩
    case round =>
      obtain ⟨i, hi, rfl, hb⟩ := hrel
      by_cases hlt : (i : Int) < 28
      · obtain ⟨g, rfl, hgl, u0, u1⟩ := HID.out wr hb i (by omega)
        have h1 := HPT.out wr (below_via HB2.out hb) ((i / 7 : Nat) : Int) (i % 7)
        have h2 := fun W (hB : Below wr.heap.size wr W) => HQT.out W (below_via (below_via HB2.out hb) hB) (i / 7) (i % 7) (by omega) (by omega)
        have h0 := fun W (hB : Below wr.heap.size wr W) => (show W.cell? ⟨g, i * 2, none⟩ = some (.int .i64 ((i / 7 : Nat) : Int)) ∧ W.cell? ⟨g, i * 2 + 1, none⟩ = some (.int .u64 ((i % 7 : Nat) : Int)) from ⟨(hB.cell (p := ⟨g, i * 2, none⟩) hgl).trans u0, (hB.cell (p := ⟨g, i * 2 + 1, none⟩) hgl).trans u1⟩)
        have HB : Hid _ := hidden hb
        clear hb
        generalize metR p (((i / 7 : Nat) : Int), i % 7) = mr at *
        obtain ⟨m1, m2⟩ := mr
        simp only at h1 h2
        generalize i / 7 = ia at *
        generalize i % 7 = ib at *
        go_wp2_with fail
        refine h1.mono ?_
        rintro e w3 ⟨rfl, b3⟩
        have h3 := h2 w3 b3
        obtain ⟨u0', u1'⟩ := h0 w3 b3
        have hg3 : g < w3.heap.size := Nat.lt_of_lt_of_le hgl b3.size
        clear h1 h2 h0 u0 u1
        go_wp2_with fail
        refine h3.mono ?_
        rintro e w4 ⟨rfl, b4⟩
        have HB4 : Hid (Below w2.heap.size w2 w4) := below_via (below_via HB.out b3) b4
        clear h3 b3 b4 u0' u1'
        cases m2
        all_goals
          go_wp2
          go_roundw
          case rel => exact ⟨i + 1, by omega, by go_num, HB4.out⟩
          case measure => simp [intOf]; omega
      · have hbw := below_via HB2.out hb
        obtain ⟨c2, c3, c4, hql⟩ := HCe.out wr hbw
        rw [HSV.out] at c2
        have hWt := fun W (hB : Below wr.heap.size wr W) => HW.out W (below_via hbw hB)
        have hOv := fun W (hB : Below wr.heap.size wr W) => HOv.out W (below_via hbw hB)
        have hTu := fun W (hB : Below wr.heap.size wr W) => HTu.out W (below_via hbw hB)
        have hPO := fun W (hB : Below wr.heap.size wr W) => HPO.out W (below_via hbw hB)
        have hQO := fun W (hB : Below wr.heap.size wr W) => HQO.out W (below_via hbw hB)
        have HBW : Hid _ := hidden hbw
        clear hbw hb HPM HQM HPT HQT HW HOv HTu HPO HQO HCe HID
        generalize p.stk.length = ns at *
        generalize p.turns = nt at *
        generalize p.ov = po at *
        have HWt : Hid _ := hidden hWt
        have HOv : Hid _ := hidden hOv
        have HTu : Hid _ := hidden hTu
        have HPO : Hid _ := hidden hPO
        have HQO : Hid _ := hidden hQO
        clear hWt hOv hTu hPO hQO
        go_upto_region 16 with fail
        refine same_region wr pb qb ns nt cap ao po L hll (fun W hW => (hW.cell (p := ⟨qb, 2, none⟩) hql).trans c2) (fun W hW => (hW.cell (p := ⟨qb, 3, none⟩) hql).trans c3) (fun W hW => (hW.cell (p := ⟨qb, 4, none⟩) hql).trans c4) HWt HOv HTu HPO HQO _ (fun _ _ _ _ _ h => h) _ _ _ _ _ _ _ _ _ _ _ _ _ _ _ _ _ _ _ _ _ _ _ _ _ _ _ _ _ _ _ _ _ _ _ _ _ _ _ _ _ _ _ _ _ _ _ _ _ _ _ _ _ _ _ _ _ _ _ _ _ _ _ _ _ _ _ _ _ _ _ _ _ _ _ _ _ _ _ _ _ _ _ _ _ _ _ _ _ _ _ _ _ _ _ _ _ _ _ _ _ _ _ _ _ _ _ _ _ _ _ _ _ _ _ _ _ _ _ ?_
        intro z86 z87 z88 z89 z90 z91 z92 z93 z94 z95 z96 z97 z98 z99 z100 z101 z102 z103 z104 z105 z106 z107 z108 z109 z110 z111 z112 z113 z114 z115 z116 z117 z118 z119 z120 w9 hb9
        have HB9 : Hid _ := hidden (below_via HBW.out hb9)
        clear hb9 HWt HOv HTu HPO HQO c2 c3 c4
        go_simp
        go_wp2
        go_ret
        exact ⟨rfl, HB9.out⟩
end
end Go.Proofs.YtfonlolgkaobcaaGreatDoor

namespace Go.Proofs.YtfonlolgkaobcaaGreatDoor
open Go.RowKit

/-- Four sets of blocks, from B on and below n, apart from one another and from X. -/
structure Ap (B n : Nat) (F G P Q X : Nat → Prop) : Prop where
  aF : ∀ k, F k → B ≤ k ∧ k < n ∧ ¬ X k
  aG : ∀ k, G k → B ≤ k ∧ k < n ∧ ¬ X k
  aP : ∀ k, P k → B ≤ k ∧ k < n ∧ ¬ X k
  aQ : ∀ k, Q k → B ≤ k ∧ k < n ∧ ¬ X k
  fg : ∀ k, F k → ¬ G k
  fp : ∀ k, F k → ¬ P k
  fq : ∀ k, F k → ¬ Q k
  gp : ∀ k, G k → ¬ P k
  gq : ∀ k, G k → ¬ Q k
  pq : ∀ k, P k → ¬ Q k
theorem Ap.goF {B n n' : Nat} {F G P Q X F' : Nat → Prop} (h : Ap B n F G P Q X) (hn : n ≤ n') (hB : B ≤ n) (hX : ∀ k, X k → k < n) (hc : ∀ k, F' k → F k ∨ n ≤ k) (hl : ∀ k, F' k → k < n') : Ap B n' F' G P Q X := by
  refine ⟨?_, ?_, ?_, ?_, ?_, ?_, ?_, ?_, ?_, ?_⟩
  · intro k hk
    rcases hc k hk with a | a
    · exact ⟨(h.aF k a).1, hl k hk, (h.aF k a).2.2⟩
    · exact ⟨by omega, hl k hk, fun e => by have := hX k e; omega⟩
  · intro k hk
    exact ⟨(h.aG k hk).1, by have := (h.aG k hk).2.1; omega, (h.aG k hk).2.2⟩
  · intro k hk
    exact ⟨(h.aP k hk).1, by have := (h.aP k hk).2.1; omega, (h.aP k hk).2.2⟩
  · intro k hk
    exact ⟨(h.aQ k hk).1, by have := (h.aQ k hk).2.1; omega, (h.aQ k hk).2.2⟩
  · intro k hk e
    rcases hc k hk with a | a
    · exact h.fg k a e
    · have := (h.aG k e).2.1; omega
  · intro k hk e
    rcases hc k hk with a | a
    · exact h.fp k a e
    · have := (h.aP k e).2.1; omega
  · intro k hk e
    rcases hc k hk with a | a
    · exact h.fq k a e
    · have := (h.aQ k e).2.1; omega
  · exact h.gp
  · exact h.gq
  · exact h.pq
theorem Ap.goG {B n n' : Nat} {F G P Q X G' : Nat → Prop} (h : Ap B n F G P Q X) (hn : n ≤ n') (hB : B ≤ n) (hX : ∀ k, X k → k < n) (hc : ∀ k, G' k → G k ∨ n ≤ k) (hl : ∀ k, G' k → k < n') : Ap B n' F G' P Q X := by
  refine ⟨?_, ?_, ?_, ?_, ?_, ?_, ?_, ?_, ?_, ?_⟩
  · intro k hk
    exact ⟨(h.aF k hk).1, by have := (h.aF k hk).2.1; omega, (h.aF k hk).2.2⟩
  · intro k hk
    rcases hc k hk with a | a
    · exact ⟨(h.aG k a).1, hl k hk, (h.aG k a).2.2⟩
    · exact ⟨by omega, hl k hk, fun e => by have := hX k e; omega⟩
  · intro k hk
    exact ⟨(h.aP k hk).1, by have := (h.aP k hk).2.1; omega, (h.aP k hk).2.2⟩
  · intro k hk
    exact ⟨(h.aQ k hk).1, by have := (h.aQ k hk).2.1; omega, (h.aQ k hk).2.2⟩
  · intro k hk e
    rcases hc k e with a | a
    · exact h.fg k hk a
    · have := (h.aF k hk).2.1; omega
  · exact h.fp
  · exact h.fq
  · intro k hk e
    rcases hc k hk with a | a
    · exact h.gp k a e
    · have := (h.aP k e).2.1; omega
  · intro k hk e
    rcases hc k hk with a | a
    · exact h.gq k a e
    · have := (h.aQ k e).2.1; omega
  · exact h.pq
theorem Ap.goP {B n n' : Nat} {F G P Q X P' : Nat → Prop} (h : Ap B n F G P Q X) (hn : n ≤ n') (hB : B ≤ n) (hX : ∀ k, X k → k < n) (hc : ∀ k, P' k → P k ∨ n ≤ k) (hl : ∀ k, P' k → k < n') : Ap B n' F G P' Q X := by
  refine ⟨?_, ?_, ?_, ?_, ?_, ?_, ?_, ?_, ?_, ?_⟩
  · intro k hk
    exact ⟨(h.aF k hk).1, by have := (h.aF k hk).2.1; omega, (h.aF k hk).2.2⟩
  · intro k hk
    exact ⟨(h.aG k hk).1, by have := (h.aG k hk).2.1; omega, (h.aG k hk).2.2⟩
  · intro k hk
    rcases hc k hk with a | a
    · exact ⟨(h.aP k a).1, hl k hk, (h.aP k a).2.2⟩
    · exact ⟨by omega, hl k hk, fun e => by have := hX k e; omega⟩
  · intro k hk
    exact ⟨(h.aQ k hk).1, by have := (h.aQ k hk).2.1; omega, (h.aQ k hk).2.2⟩
  · exact h.fg
  · intro k hk e
    rcases hc k e with a | a
    · exact h.fp k hk a
    · have := (h.aF k hk).2.1; omega
  · exact h.fq
  · intro k hk e
    rcases hc k e with a | a
    · exact h.gp k hk a
    · have := (h.aG k hk).2.1; omega
  · exact h.gq
  · intro k hk e
    rcases hc k hk with a | a
    · exact h.pq k a e
    · have := (h.aQ k e).2.1; omega
theorem Ap.goQ {B n n' : Nat} {F G P Q X Q' : Nat → Prop} (h : Ap B n F G P Q X) (hn : n ≤ n') (hB : B ≤ n) (hX : ∀ k, X k → k < n) (hc : ∀ k, Q' k → Q k ∨ n ≤ k) (hl : ∀ k, Q' k → k < n') : Ap B n' F G P Q' X := by
  refine ⟨?_, ?_, ?_, ?_, ?_, ?_, ?_, ?_, ?_, ?_⟩
  · intro k hk
    exact ⟨(h.aF k hk).1, by have := (h.aF k hk).2.1; omega, (h.aF k hk).2.2⟩
  · intro k hk
    exact ⟨(h.aG k hk).1, by have := (h.aG k hk).2.1; omega, (h.aG k hk).2.2⟩
  · intro k hk
    exact ⟨(h.aP k hk).1, by have := (h.aP k hk).2.1; omega, (h.aP k hk).2.2⟩
  · intro k hk
    rcases hc k hk with a | a
    · exact ⟨(h.aQ k a).1, hl k hk, (h.aQ k a).2.2⟩
    · exact ⟨by omega, hl k hk, fun e => by have := hX k e; omega⟩
  · exact h.fg
  · exact h.fp
  · intro k hk e
    rcases hc k e with a | a
    · exact h.fq k hk a
    · have := (h.aF k hk).2.1; omega
  · exact h.gp
  · intro k hk e
    rcases hc k e with a | a
    · exact h.gq k hk a
    · have := (h.aG k hk).2.1; omega
  · intro k hk e
    rcases hc k e with a | a
    · exact h.pq k hk a
    · have := (h.aP k hk).2.1; omega
theorem Ap.grow {B n n' : Nat} {F G P Q X : Nat → Prop} (h : Ap B n F G P Q X) (hn : n ≤ n') : Ap B n' F G P Q X :=
  ⟨fun k a => ⟨(h.aF k a).1, Nat.lt_of_lt_of_le (h.aF k a).2.1 hn, (h.aF k a).2.2⟩, fun k a => ⟨(h.aG k a).1, Nat.lt_of_lt_of_le (h.aG k a).2.1 hn, (h.aG k a).2.2⟩, fun k a => ⟨(h.aP k a).1, Nat.lt_of_lt_of_le (h.aP k a).2.1 hn, (h.aP k a).2.2⟩, fun k a => ⟨(h.aQ k a).1, Nat.lt_of_lt_of_le (h.aQ k a).2.1 hn, (h.aQ k a).2.2⟩, h.fg, h.fp, h.fq, h.gp, h.gq, h.pq⟩
theorem Ap.turn {B n : Nat} {F G P Q X Y : Nat → Prop} (h : Ap B n F G P Q X) (hY : ∀ k, B ≤ k → k < n → Y k → X k) : Ap B n F G P Q Y :=
  ⟨fun k a => ⟨(h.aF k a).1, (h.aF k a).2.1, fun e => (h.aF k a).2.2 (hY k (h.aF k a).1 (h.aF k a).2.1 e)⟩, fun k a => ⟨(h.aG k a).1, (h.aG k a).2.1, fun e => (h.aG k a).2.2 (hY k (h.aG k a).1 (h.aG k a).2.1 e)⟩, fun k a => ⟨(h.aP k a).1, (h.aP k a).2.1, fun e => (h.aP k a).2.2 (hY k (h.aP k a).1 (h.aP k a).2.1 e)⟩, fun k a => ⟨(h.aQ k a).1, (h.aQ k a).2.1, fun e => (h.aQ k a).2.2 (hY k (h.aQ k a).1 (h.aQ k a).2.1 e)⟩, h.fg, h.fp, h.fq, h.gp, h.gq, h.pq⟩

/-- Both heaps, both paints; X: blocks that stay. -/
structure P4 (w0 : World) (B : Nat) (w : World) (hb rb pb qb : Nat) (h1 h2 : HSt) (p1 p2 : PSt) (X : Nat → Prop) : Prop where
  ex : ∃ F G P Q, HP w hb F h1 ∧ RP w rb G h2 ∧ PN w pb hb B P p1 ∧ QN w qb rb B Q p2 ∧ Ap B w.heap.size F G P Q X
  bel : Below B w0 w
  le : B ≤ w.heap.size
  xs : ∀ k, X k → k < w.heap.size
  pos : 0 < B
section
variable {w0 w w' : World} {B hb rb pb qb : Nat} {h1 h2 h' : HSt} {p1 p2 p' : PSt} {X : Nat → Prop} {n : Nat} {args : Array Value} {r : Ending}
theorem P4.hgo (x : P4 w0 B w hb rb pb qb h1 h2 p1 p2 X) (f : ∀ F, HP w hb F h1 → Calls Tryz.prog n args w fun e w' => e = r ∧ Goes w w' hb F h') : Calls Tryz.prog n args w fun e w' => e = r ∧ P4 w0 B w' hb rb pb qb h' h2 p1 p2 X ∧ Kept w w' (Its B X) := by
  obtain ⟨F, G, P, Q, hp, rp, pn, qn, ap⟩ := x.ex
  refine (f F hp).mono ?_
  rintro e w' ⟨he, hg⟩
  obtain ⟨F', hp', hF'⟩ := hg.ex
  exact ⟨he, ⟨⟨F', G, P, Q, hp', rp.kept hg.kept (fun k a b => ap.fg k b a), pn.kept hg.kept (fun k a b => ap.fp k b a), qn.kept hg.kept (fun k a b => ap.fq k b a), ap.goF hg.kept.size x.le x.xs hF' hp'.lt⟩, x.bel.trans (hg.kept.below x.le (fun i hi e => by have := (ap.aF i e).1; omega)), Nat.le_trans x.le hg.kept.size, fun k e => Nat.lt_of_lt_of_le (x.xs k e) hg.kept.size, x.pos⟩, hg.kept.mono (fun k _ e => ⟨(ap.aF k e).1, (ap.aF k e).2.2⟩)⟩
theorem P4.rgo (x : P4 w0 B w hb rb pb qb h1 h2 p1 p2 X) (f : ∀ G, RP w rb G h2 → Calls Tryz.prog n args w fun e w' => e = r ∧ RGoes w w' rb G h') : Calls Tryz.prog n args w fun e w' => e = r ∧ P4 w0 B w' hb rb pb qb h1 h' p1 p2 X ∧ Kept w w' (Its B X) := by
  obtain ⟨F, G, P, Q, hp, rp, pn, qn, ap⟩ := x.ex
  have hpos := x.pos
  refine (f G rp).mono ?_
  rintro e w' ⟨he, hg⟩
  obtain ⟨G', rp', hG'⟩ := hg.ex
  exact ⟨he, ⟨⟨F, G', P, Q, hp.kept hg.kept (fun e => by have := (ap.aG 0 e).1; omega) (fun k a b => ap.fg k a b), rp', pn.kept hg.kept (fun k a b => ap.gp k b a), qn.kept hg.kept (fun k a b => ap.gq k b a), ap.goG hg.kept.size x.le x.xs hG' rp'.lt⟩, x.bel.trans (hg.kept.below x.le (fun i hi e => by have := (ap.aG i e).1; omega)), Nat.le_trans x.le hg.kept.size, fun k e => Nat.lt_of_lt_of_le (x.xs k e) hg.kept.size, x.pos⟩, hg.kept.mono (fun k _ e => ⟨(ap.aG k e).1, (ap.aG k e).2.2⟩)⟩
theorem P4.pgo (x : P4 w0 B w hb rb pb qb h1 h2 p1 p2 X) (f : ∀ sb mb tb v F, PX w pb hb B sb mb tb v p1 → HP w hb F h1 → (∀ k, F k → ¬ pBl pb sb mb tb v k) → Calls Tryz.prog n args w fun e w' => e = r ∧ PGo w w' pb hb B (pBl pb sb mb tb v) p') : Calls Tryz.prog n args w fun e w' => e = r ∧ P4 w0 B w' hb rb pb qb h1 h2 p' p2 X ∧ Kept w w' (Its B X) := by
  obtain ⟨F, G, P, Q, hp, rp, ⟨sb, mb, tb, v, hx, hPi⟩, qn, ap⟩ := x.ex
  have hpos := x.pos
  refine (f sb mb tb v F hx hp (fun k a b => ap.fp k a ((hPi k).2 b))).mono ?_
  rintro e w' ⟨he, hg⟩
  have hg := PX.fit hPi hg
  obtain ⟨P', pn', hP'⟩ := hg.ex
  exact ⟨he, ⟨⟨F, G, P', Q, hp.kept hg.kept (fun e => by have := (ap.aP 0 e).1; omega) (fun k a b => ap.fp k a b), rp.kept hg.kept (fun k a b => ap.gp k a b), pn', qn.kept hg.kept (fun k a b => ap.pq k b a), ap.goP hg.kept.size x.le x.xs hP' pn'.lt⟩, x.bel.trans (hg.kept.below x.le (fun i hi e => by have := (ap.aP i e).1; omega)), Nat.le_trans x.le hg.kept.size, fun k e => Nat.lt_of_lt_of_le (x.xs k e) hg.kept.size, x.pos⟩, hg.kept.mono (fun k _ e => ⟨(ap.aP k e).1, (ap.aP k e).2.2⟩)⟩
theorem P4.qgo (x : P4 w0 B w hb rb pb qb h1 h2 p1 p2 X) (f : ∀ sv mv kv vv L ra rc rt lv M, RQ w qb rb B sv mv kv vv p2 L → RX w rb ra rc rt lv h2 M → (∀ j ∈ rBl rb ra rc rt lv M, ¬ qBl qb sv mv kv vv j) → Calls Tryz.prog n args w fun e w' => e = r ∧ QGo w w' qb rb B (qBl qb sv mv kv vv) p') : Calls Tryz.prog n args w fun e w' => e = r ∧ P4 w0 B w' hb rb pb qb h1 h2 p1 p' X ∧ Kept w w' (Its B X) := by
  obtain ⟨F, G, P, Q, hp, ⟨ra, rc, rt, lv, M, hr, hGi⟩, pn, ⟨sv, mv, kv, vv, L, hq, hQi⟩, ap⟩ := x.ex
  have hpos := x.pos
  refine (f sv mv kv vv L ra rc rt lv M hq hr (fun j hj e => ap.gq j ((hGi j).2 hj) ((hQi j).2 e))).mono ?_
  rintro e w' ⟨he, hg⟩
  have eQ : Q = qBl qb sv mv kv vv := funext fun k => propext (hQi k)
  rw [← eQ] at hg
  obtain ⟨Q', qn', hQ'⟩ := hg.ex
  have rp : RP w rb G h2 := ⟨ra, rc, rt, lv, M, hr, hGi⟩
  exact ⟨he, ⟨⟨F, G, P, Q', hp.kept hg.kept (fun e => by have := (ap.aQ 0 e).1; omega) (fun k a b => ap.fq k a b), rp.kept hg.kept (fun k a b => ap.gq k a b), pn.kept hg.kept (fun k a b => ap.pq k a b), qn', ap.goQ hg.kept.size x.le x.xs hQ' qn'.lt⟩, x.bel.trans (hg.kept.below x.le (fun i hi e => by have := (ap.aQ i e).1; omega)), Nat.le_trans x.le hg.kept.size, fun k e => Nat.lt_of_lt_of_le (x.xs k e) hg.kept.size, x.pos⟩, hg.kept.mono (fun k _ e => ⟨(ap.aQ k e).1, (ap.aQ k e).2.2⟩)⟩
theorem P4.read (x : P4 w0 B w hb rb pb qb h1 h2 p1 p2 X) (hB : Below w.heap.size w w') : P4 w0 B w' hb rb pb qb h1 h2 p1 p2 X := by
  obtain ⟨F, G, P, Q, hp, rp, pn, qn, ap⟩ := x.ex
  exact ⟨⟨F, G, P, Q, hp.below hB, rp.below hB, pn.below hB, qn.below hB, ap.grow hB.size⟩, x.bel.trans (hB.mono x.le), Nat.le_trans x.le hB.size, fun k e => Nat.lt_of_lt_of_le (x.xs k e) hB.size, x.pos⟩
theorem P4.box (x : P4 w0 B w hb rb pb qb h1 h2 p1 p2 X) (o : Obj) : P4 w0 B (w.alloc o) hb rb pb qb h1 h2 p1 p2 (fun k => X k ∨ k = w.heap.size) := by
  obtain ⟨F, G, P, Q, hp, rp, pn, qn, ap⟩ := x.ex
  have hB : Below w.heap.size w (w.alloc o) := bel_alloc w o
  refine ⟨⟨F, G, P, Q, hp.below hB, rp.below hB, pn.below hB, qn.below hB, ((ap.turn (Y := fun k => X k ∨ k = w.heap.size) (fun k _ hk e => by
    rcases e with e | e
    · exact e
    · omega))).grow hB.size⟩, x.bel.trans (hB.mono x.le), Nat.le_trans x.le hB.size, fun k e => ?_, x.pos⟩
  rcases e with e | e
  · exact Nat.lt_of_lt_of_le (x.xs k e) hB.size
  · simp [e]
theorem P4.other (x : P4 w0 B w hb rb pb qb h1 h2 p1 p2 X) {S : Nat → Prop} (hk : Kept w w' S) (hS : ∀ k, S k → X k ∧ B ≤ k) : P4 w0 B w' hb rb pb qb h1 h2 p1 p2 X := by
  obtain ⟨F, G, P, Q, hp, rp, pn, qn, ap⟩ := x.ex
  have hpos := x.pos
  exact ⟨⟨F, G, P, Q, hp.kept hk (fun e => by have := (hS 0 e).2; omega) (fun k a b => (ap.aF k a).2.2 (hS k b).1), rp.kept hk (fun k a b => (ap.aG k a).2.2 (hS k b).1), pn.kept hk (fun k a b => (ap.aP k a).2.2 (hS k b).1), qn.kept hk (fun k a b => (ap.aQ k a).2.2 (hS k b).1), ap.grow hk.size⟩, x.bel.trans (hk.below x.le (fun i hi e => by have := (hS i e).2; omega)), Nat.le_trans x.le hk.size, fun k e => Nat.lt_of_lt_of_le (x.xs k e) hk.size, x.pos⟩
theorem P4.off (x : P4 w0 B w hb rb pb qb h1 h2 p1 p2 X) (Y : Nat → Prop) (hY : ∀ k, Y k → X k) : P4 w0 B w hb rb pb qb h1 h2 p1 p2 Y := by
  obtain ⟨F, G, P, Q, hp, rp, pn, qn, ap⟩ := x.ex
  exact ⟨⟨F, G, P, Q, hp, rp, pn, qn, ap.turn (fun k _ _ e => hY k e)⟩, x.bel, x.le, fun k e => x.xs k (hY k e), x.pos⟩
theorem P4.same {k N : Nat} (x : P4 w0 B w hb rb pb qb h1 h1 p1 p1 X) (H : PI p1 k) (hk : k ≤ 1000000) (hN : N < 1000000) :
    Calls Tryz.prog 26 #[.pointer (some ⟨pb, 0, none⟩), .pointer (some ⟨qb, 0, none⟩), .int .u64 (N : Int)] w fun e w' => e = .returned (.bool true) ∧ Below w.heap.size w w' := by
  obtain ⟨F, G, P, Q, hp, ⟨ra, rc, rt, lv, M, hr, hGi⟩, ⟨sb, mb, tb, v, hx, hPi⟩, ⟨sv, mv, kv, vv, L, hq, hQi⟩, ap⟩ := x.ex
  exact psame_any hx hp hq hr H hk N hN
theorem P4.last (x : P4 w0 B w hb rb pb qb h1 h2 p1 p2 X) : w.cell? ⟨rb, 2, none⟩ = some (.int .u64 (h2.last : Int)) := by
  obtain ⟨F, G, P, Q, hp, ⟨ra, rc, rt, lv, M, hr, hGi⟩, pn, qn, ap⟩ := x.ex
  exact hr.c2
end
end Go.Proofs.YtfonlolgkaobcaaGreatDoor

namespace Go.Proofs.YtfonlolgkaobcaaGreatDoor
open Go.RowKit

/-- What a round keeps: so many marks, turns, serials. -/
structure PK (h : HSt) (p : PSt) (i : Nat) : Prop where
  pi : PI p (i * 20)
  tu : p.turns ≤ i
  la : h.last ≤ 100 + i
  st : ∀ s ∈ p.stk, s ≤ 72057594037927935
/-- What stands on the stack. -/
def SB (p : PSt) : Prop := ∀ s ∈ p.stk, s ≤ 72057594037927935
theorem SB.push {p : PSt} (H : SB p) {s : Nat} (hs : s ≤ 72057594037927935) : SB (p.push s) := by
  unfold PSt.push
  split
  · intro t ht
    rcases List.mem_append.1 ht with h | h
    · exact H t h
    · rw [List.mem_singleton.1 h]; exact hs
  · exact H
theorem SB.own {h : HSt} {p : PSt} (H : SB p) (ok : h.Ok) (s r : Nat) : SB (p.own h s r) := by
  unfold PSt.own
  split
  · next hg =>
    obtain ⟨o, ho⟩ := Option.isSome_iff_exists.1 hg
    obtain ⟨h1, h2⟩ := getC_mem ho
    have hs : s ≤ 72057594037927935 := by
      have := (ok.le o h1).2
      have := ok.last
      omega
    have H' : ∀ m, SB { p with ma := m } := fun m => H
    split
    · exact (H' _).push hs
    · split
      · exact H
      · split
        · exact H' _
        · exact (H' _).push hs
  · exact H
theorem SB.shade {h : HSt} {p : PSt} (H : SB p) (ok : h.Ok) (x : Int × Nat) (r : Int) : SB (p.shade h x r) := by
  unfold PSt.shade
  split
  · split
    · exact H.own ok _ _
    · unfold PSt.meet
      split
      · exact H
      · split <;> exact H
  · exact H
theorem SB.all {h : HSt} (ok : h.Ok) (l : List (Int × Nat)) (r : Nat) : ∀ p, SB p → SB (PSt.all h p l r) := by
  unfold PSt.all
  induction l with
  | nil => exact fun p H => H
  | cons x l ih => exact fun p H => ih _ (H.shade ok x r)
theorem SB.scan {h : HSt} {p : PSt} (H : SB p) (ok : h.Ok) (s : Nat) : SB (p.scan h s) := by
  unfold PSt.scan
  split
  · exact SB.all ok _ _ _ H
  · exact H
theorem SB.pop {p : PSt} (H : SB p) : SB p.pop := fun s hs => H s ((List.dropLast_sublist p.stk).subset hs)
theorem SB.popR {p : PSt} (H : SB p) : (popR p).1 < 18446744073709551616 := by
  unfold Go.Proofs.YtfonlolgkaobcaaGreatDoor.popR
  split
  · next s hs =>
    have := H s (List.mem_of_getLast? hs)
    show s < _
    omega
  · show 0 < _
    omega
theorem push_turns (p : PSt) (s : Nat) : (p.push s).turns = p.turns := by
  unfold PSt.push
  split <;> rfl
theorem shade_turns (h : HSt) (p : PSt) (x : Int × Nat) (r : Int) : (p.shade h x r).turns = p.turns := by
  unfold PSt.shade
  split
  · split
    · unfold PSt.own
      split
      · split
        · exact push_turns _ _
        · split
          · rfl
          · split
            · rfl
            · exact push_turns _ _
      · rfl
    · unfold PSt.meet
      split
      · rfl
      · split <;> rfl
  · rfl
theorem all_turns (h : HSt) (p : PSt) (l : List (Int × Nat)) (r : Nat) : (PSt.all h p l r).turns = p.turns := by
  unfold PSt.all
  induction l generalizing p with
  | nil => rfl
  | cons x l ih =>
    rw [List.foldl_cons, ih]
    exact shade_turns h p x _
theorem scan_turns (h : HSt) (p : PSt) (s : Nat) : (p.scan h s).turns = p.turns := by
  unfold PSt.scan
  split
  · exact all_turns h _ _ _
  · rfl
theorem PI.scan {h : HSt} {p : PSt} {k : Nat} (H : PI p k) (ok : h.Ok) (s : Nat) : PI (p.scan h s) (k + 8) := by
  unfold PSt.scan
  split
  · next o r hg hm =>
    have h1 := (H.putM s (r, false)).all h o.rf r
    have h2 := (ok.fl o (by unfold getC at hg; exact List.mem_of_find?_eq_some hg)).1
    exact h1.mono (by omega)
  · exact H.mono (by omega)
theorem PI.blacken {h : HSt} {p : PSt} {k : Nat} (H : PI p k) (s : Nat) : PI (p.blacken h s) (k + 1) := by
  unfold PSt.blacken
  split
  · exact H.putM s _
  · exact H.mono (by omega)
theorem PI.forget {p : PSt} {k : Nat} (H : PI p k) (s : Nat) : PI (p.forget s) k :=
  ⟨H.nd.sublist (List.filter_sublist.map _), H.nm, Nat.le_trans (List.length_filter_le _ _) H.ml, H.el⟩
theorem PI.turn {p : PSt} {k : Nat} : PI p.turn k := ⟨List.nodup_nil, (fun e he => (by cases he)), Nat.zero_le _, Nat.zero_le _⟩
theorem blacken_turns (h : HSt) (p : PSt) (s : Nat) : (p.blacken h s).turns = p.turns := by
  unfold PSt.blacken
  split <;> rfl
theorem make_last (h : HSt) (r v : Int) : (h.makeS r v).last ≤ h.last + 1 := by
  unfold HSt.makeS
  split
  · exact Nat.le_refl _
  · exact Nat.le_succ _
theorem free_last (h : HSt) (s : Nat) : (h.freeS s).last = h.last := by
  unfold HSt.freeS
  split <;> rfl
section
variable {h : HSt} {p : PSt} {i : Nat}
theorem PK.shade (H : PK h p i) (ok : h.Ok) (x : Int × Nat) (r : Int) : PK h (p.shade h x r) (i + 1) := ⟨(H.pi.shade h x r).mono (by omega), by rw [shade_turns]; have := H.tu; omega, by have := H.la; omega, SB.shade H.st ok x r⟩
theorem PK.scan (H : PK h p i) (ok : h.Ok) (s : Nat) : PK h (p.scan h s) (i + 1) := ⟨(H.pi.scan ok s).mono (by omega), by rw [scan_turns]; have := H.tu; omega, by have := H.la; omega, SB.scan H.st ok s⟩
theorem PK.pops (H : PK h p i) (ok : h.Ok) (s : Nat) : PK h (p.pop.scan h s) (i + 1) := by
  have H' : PI p.pop (i * 20) := ⟨H.pi.nd, H.pi.nm, H.pi.ml, H.pi.el⟩
  refine ⟨(H'.scan ok s).mono (by omega), ?_, by have := H.la; omega, SB.scan (SB.pop H.st) ok s⟩
  rw [scan_turns]
  have := H.tu
  show p.turns ≤ i + 1
  omega
theorem PK.blacken (H : PK h p i) (s : Nat) : PK h (p.blacken h s) (i + 1) := ⟨H.pi.blacken s |>.mono (by omega), by rw [blacken_turns]; have := H.tu; omega, by have := H.la; omega, by have h := H.st; unfold PSt.blacken; split <;> exact h⟩
theorem PK.forget (H : PK h p i) (s : Nat) : PK h (p.forget s) (i + 1) := ⟨(H.pi.forget s).mono (by omega), by have := H.tu; show p.turns ≤ i + 1; omega, by have := H.la; omega, H.st⟩
theorem PK.rest (H : PK h p i) : PK h p.rest (i + 1) := ⟨⟨H.pi.nd, H.pi.nm, by have := H.pi.ml; show p.ma.length ≤ _; omega, by have := H.pi.el; show p.me.length ≤ _; omega⟩, by have := H.tu; show p.turns ≤ i + 1; omega, by have := H.la; omega, H.st⟩
theorem PK.turn (H : PK h p i) : PK h p.turn (i + 1) := ⟨PI.turn, by have := H.tu; show p.turns + 1 ≤ i + 1; omega, by have := H.la; omega, fun s hs => by cases hs⟩
theorem PK.stay (H : PK h p i) : PK h p (i + 1) := ⟨H.pi.mono (by omega), by have := H.tu; omega, by have := H.la; omega, H.st⟩
theorem PK.make (H : PK h p i) (r v : Int) : PK (h.makeS r v) p (i + 1) := ⟨H.pi.mono (by omega), by have := H.tu; omega, by have := make_last h r v; have := H.la; omega, H.st⟩
theorem PK.free (H : PK h p i) (s : Nat) : PK (h.freeS s) p (i + 1) := ⟨H.pi.mono (by omega), by have := H.tu; omega, by rw [free_last]; have := H.la; omega, H.st⟩
end

section
variable {w0 w w' : World} {B hb rb pb qb : Nat} {h1 h2 h' : HSt} {p1 p2 p' : PSt} {X : Nat → Prop} {k : Nat}
theorem P4.okh (x : P4 w0 B w hb rb pb qb h1 h2 p1 p2 X) : h1.Ok := by
  obtain ⟨F, G, P, Q, hp, _⟩ := x.ex
  exact hp.ok
theorem P4.shade (x : P4 w0 B w hb rb pb qb h1 h2 p1 p2 X) (a : Int) (n : Nat) (r : Int) :
    Calls Tryz.prog 24 #[.pointer (some ⟨pb, 0, none⟩), .agg #[.int .i64 a, .int .u64 (n : Int)], .int .i64 r] w fun e w' => e = .returned (.tuple #[]) ∧ P4 w0 B w' hb rb pb qb h1 h2 (p1.shade h1 (a, n) r) p2 X ∧ Kept w w' (Its B X) := x.pgo (fun _ _ _ _ _ hx hp _ => shade_any hx hp a n r)
theorem P4.rshade (x : P4 w0 B w hb rb pb qb h1 h2 p1 p2 X) (H : PI p2 k) (hk : k < 1000000) (a : Int) (n : Nat) (r : Int) :
    Calls Tryz.prog 25 #[.pointer (some ⟨qb, 0, none⟩), .agg #[.int .i64 a, .int .u64 (n : Int)], .int .i64 r] w fun e w' => e = .returned (.tuple #[]) ∧ P4 w0 B w' hb rb pb qb h1 h2 p1 (p2.shade h2 (a, n) r) X ∧ Kept w w' (Its B X) := x.qgo (fun _ _ _ _ _ _ _ _ _ _ hq hr _ => rshade_any hq hr H hk a n r)
theorem P4.scan (x : P4 w0 B w hb rb pb qb h1 h2 p1 p2 X) (s : Nat) (hs : s < 18446744073709551616) :
    Calls Tryz.prog 9 #[.pointer (some ⟨pb, 0, none⟩), .int .u64 (s : Int)] w fun e w' => e = .returned (.bool (scanR h1 p1 s)) ∧ P4 w0 B w' hb rb pb qb h1 h2 (p1.scan h1 s) p2 X ∧ Kept w w' (Its B X) := x.pgo (fun _ _ _ _ _ hx hp hF => scan_any hx hp hF x.pos s hs)
theorem P4.rscan (x : P4 w0 B w hb rb pb qb h1 h2 p1 p2 X) (H : PI p2 k) (hk : k + 8 < 1000000) (s : Nat) :
    Calls Tryz.prog 10 #[.pointer (some ⟨qb, 0, none⟩), .int .u64 (s : Int)] w fun e w' => e = .returned (.bool (scanR h2 p2 s)) ∧ P4 w0 B w' hb rb pb qb h1 h2 p1 (p2.scan h2 s) X ∧ Kept w w' (Its B X) := x.qgo (fun _ _ _ _ _ _ _ _ _ _ hq hr hG => rscan_any hq hr hG H hk s)
theorem P4.pop (x : P4 w0 B w hb rb pb qb h1 h2 p1 p2 X) :
    Calls Tryz.prog 11 #[.pointer (some ⟨pb, 0, none⟩)] w fun e w' => e = .returned (.tuple #[.int .u64 ((popR p1).1 : Int), .bool (popR p1).2]) ∧ P4 w0 B w' hb rb pb qb h1 h2 p1.pop p2 X ∧ Kept w w' (Its B X) := x.pgo (fun _ _ _ _ _ hx _ _ => ppop_any hx)
theorem P4.rpop (x : P4 w0 B w hb rb pb qb h1 h2 p1 p2 X) :
    Calls Tryz.prog 12 #[.pointer (some ⟨qb, 1, none⟩)] w fun e w' => e = .returned (.tuple #[.int .u64 ((popR p2).1 : Int), .bool (popR p2).2]) ∧ P4 w0 B w' hb rb pb qb h1 h2 p1 p2.pop X ∧ Kept w w' (Its B X) :=
  x.qgo (fun _ _ _ _ _ _ _ _ _ _ hq _ _ => (qpop_any hq).mono (fun e w' ⟨e1, sv', q1, q2, q3⟩ => ⟨e1, q1.went q2 (fun j hj => Or.inl (by rw [← q3]; exact hj)) (Moved.refl _ _) (Moved.refl _ _) (Moved.refl _ _)⟩))
theorem P4.blacken (x : P4 w0 B w hb rb pb qb h1 h2 p1 p2 X) (s : Nat) (hs : s < 18446744073709551616) :
    Calls Tryz.prog 13 #[.pointer (some ⟨pb, 0, none⟩), .int .u64 (s : Int)] w fun e w' => e = .returned (.tuple #[]) ∧ P4 w0 B w' hb rb pb qb h1 h2 (p1.blacken h1 s) p2 X ∧ Kept w w' (Its B X) := x.pgo (fun _ _ _ _ _ hx hp _ => pblacken_any hx hp s hs)
theorem P4.rblacken (x : P4 w0 B w hb rb pb qb h1 h2 p1 p2 X) (H : PI p2 k) (hk : k < 1000000) (s : Nat) :
    Calls Tryz.prog 14 #[.pointer (some ⟨qb, 0, none⟩), .int .u64 (s : Int)] w fun e w' => e = .returned (.tuple #[]) ∧ P4 w0 B w' hb rb pb qb h1 h2 p1 (p2.blacken h2 s) X ∧ Kept w w' (Its B X) := x.qgo (fun _ _ _ _ _ _ _ _ _ _ hq hr _ => rblacken_any hq hr s (by have := H.ml; omega))
theorem P4.forget (x : P4 w0 B w hb rb pb qb h1 h2 p1 p2 X) (s : Nat) :
    Calls Tryz.prog 15 #[.pointer (some ⟨pb, 0, none⟩), .int .u64 (s : Int)] w fun e w' => e = .returned (.tuple #[]) ∧ P4 w0 B w' hb rb pb qb h1 h2 (p1.forget s) p2 X ∧ Kept w w' (Its B X) := x.pgo (fun _ _ _ _ _ hx _ _ => pforget_any hx s)
theorem P4.rforget (x : P4 w0 B w hb rb pb qb h1 h2 p1 p2 X) (s : Nat) :
    Calls Tryz.prog 16 #[.pointer (some ⟨qb, 0, none⟩), .int .u64 (s : Int)] w fun e w' => e = .returned (.tuple #[]) ∧ P4 w0 B w' hb rb pb qb h1 h2 p1 (p2.forget s) X ∧ Kept w w' (Its B X) := x.qgo (fun _ _ _ _ _ _ _ _ _ _ hq _ _ => rforget_any hq s)
theorem P4.rest (x : P4 w0 B w hb rb pb qb h1 h2 p1 p2 X) :
    Calls Tryz.prog 17 #[.pointer (some ⟨pb, 0, none⟩)] w fun e w' => e = .returned (.tuple #[]) ∧ P4 w0 B w' hb rb pb qb h1 h2 p1.rest p2 X ∧ Kept w w' (Its B X) := x.pgo (fun _ _ _ _ _ hx _ _ => prest_any hx)
theorem P4.turn (x : P4 w0 B w hb rb pb qb h1 h2 p1 p2 X) (ht : p1.turns < 1000000) :
    Calls Tryz.prog 18 #[.pointer (some ⟨pb, 0, none⟩)] w fun e w' => e = .returned (.tuple #[]) ∧ P4 w0 B w' hb rb pb qb h1 h2 p1.turn p2 X ∧ Kept w w' (Its B X) := x.pgo (fun _ _ _ _ _ hx _ _ => turn_any hx ht)
theorem P4.rturn (x : P4 w0 B w hb rb pb qb h1 h2 p1 p2 X) (ht : p2.turns < 1000000) :
    Calls Tryz.prog 19 #[.pointer (some ⟨qb, 0, none⟩)] w fun e w' => e = .returned (.tuple #[]) ∧ P4 w0 B w' hb rb pb qb h1 h2 p1 p2.turn X ∧ Kept w w' (Its B X) := x.qgo (fun _ _ _ _ _ _ _ _ _ _ hq _ _ => rturn_any hq ht)
theorem P4.hmake (x : P4 w0 B w hb rb pb qb h1 h2 p1 p2 X) (r v : Int) :
    Calls Tryz.prog 20 #[.pointer (some ⟨hb, 0, none⟩), .int .i64 r, .int .i64 v] w fun e w' => e = .returned (.tuple #[.int .u64 ((h1.makeR r v).1 : Int), .int .i64 ((h1.makeR r v).2 : Int)]) ∧ P4 w0 B w' hb rb pb qb (h1.makeS r v) h2 p1 p2 X ∧ Kept w w' (Its B X) := x.hgo (fun _ hp => hp.make r v)
theorem P4.rmake (x : P4 w0 B w hb rb pb qb h1 h2 p1 p2 X) (r v : Int) :
    Calls Tryz.prog 21 #[.pointer (some ⟨rb, 0, none⟩), .int .i64 r, .int .i64 v] w fun e w' => e = .returned (.tuple #[.int .u64 ((h2.makeR r v).1 : Int), .int .i64 ((h2.makeR r v).2 : Int)]) ∧ P4 w0 B w' hb rb pb qb h1 (h2.makeS r v) p1 p2 X ∧ Kept w w' (Its B X) := x.rgo (fun _ rp => rp.make r v)
theorem P4.hfree (x : P4 w0 B w hb rb pb qb h1 h2 p1 p2 X) (s : Nat) (hs : s < 18446744073709551616) :
    Calls Tryz.prog 22 #[.pointer (some ⟨hb, 0, none⟩), .int .u64 (s : Int)] w fun e w' => e = .returned (.int .i64 (h1.freeR s : Int)) ∧ P4 w0 B w' hb rb pb qb (h1.freeS s) h2 p1 p2 X ∧ Kept w w' (Its B X) := x.hgo (fun _ hp => hp.free s hs)
theorem P4.rfree (x : P4 w0 B w hb rb pb qb h1 h2 p1 p2 X) (s : Nat) :
    Calls Tryz.prog 23 #[.pointer (some ⟨rb, 0, none⟩), .int .u64 (s : Int)] w fun e w' => e = .returned (.int .i64 (h2.freeR s : Int)) ∧ P4 w0 B w' hb rb pb qb h1 (h2.freeS s) p1 p2 X ∧ Kept w w' (Its B X) := x.rgo (fun _ rp => rp.free s)
/-- The plain stack is not over any more: a store. -/
theorem P4.rrest (x : P4 w0 B w hb rb pb qb h1 h2 p1 p2 X) :
    P4 w0 B (w.setCell ⟨qb, 3, none⟩ (.bool false)) hb rb pb qb h1 h2 p1 p2.rest X ∧ Kept w (w.setCell ⟨qb, 3, none⟩ (.bool false)) (Its B X) ∧ w.cell? ⟨qb, 3, none⟩ = some (.bool p2.ov) ∧ w.frozen? ⟨qb, 3, none⟩ = false ∧ qb < w.heap.size := by
  obtain ⟨F, G, P, Q, hp, rp, pn, ⟨sv, mv, kv, vv, L, hq, hQi⟩, ap⟩ := x.ex
  have hpos := x.pos
  have eQ : Q = qBl qb sv mv kv vv := funext fun k => propext (hQi k)
  obtain ⟨q1, q2⟩ := hq.over false (Below.refl _ _)
  rw [← eQ] at q2
  have qn' : QN (w.setCell ⟨qb, 3, none⟩ (.bool false)) qb rb B Q p2.rest := ⟨sv, mv, kv, vv, L, q1, hQi⟩
  exact ⟨⟨⟨F, G, P, Q, hp.kept q2 (fun e => by have := (ap.aQ 0 e).1; omega) (fun k a b => ap.fq k a b), rp.kept q2 (fun k a b => ap.gq k a b), pn.kept q2 (fun k a b => ap.pq k a b), qn', ap.grow q2.size⟩, x.bel.trans (q2.below x.le (fun i hi e => by have := (ap.aQ i e).1; omega)), Nat.le_trans x.le q2.size, fun k e => Nat.lt_of_lt_of_le (x.xs k e) q2.size, x.pos⟩, q2.mono (fun k _ e => ⟨(ap.aQ k e).1, (ap.aQ k e).2.2⟩), hq.box.cell 3 (by simp), hq.box.frozen 3, hq.box.lt⟩
end
end Go.Proofs.YtfonlolgkaobcaaGreatDoor

namespace Go.Proofs.YtfonlolgkaobcaaGreatDoor
open Go.RowKit

theorem H2.p4 {w0 w w1 w2 : World} {B hb rb pb : Nat} {h : HSt} {G : Nat → Prop} {M : Nat} (x : H2 w0 B w hb rb h h (fun _ => False)) (pn : PN w1 pb hb B G (PSt.new M)) (hG : ∀ k, G k → w.heap.size ≤ k) (b1 : Below w.heap.size w w1)
    (q : RQ w2 w1.heap.size rb B (.slice none 0 0) (.slice none 0 0) (.slice none 0 0) (.slice none 0 0) (PSt.new M) []) (b2 : Below w1.heap.size w1 w2) : P4 w0 B w2 hb rb pb w1.heap.size h h (PSt.new M) (PSt.new M) (fun _ => False) := by
  obtain ⟨F, R, hp, rp, hF, hR⟩ := x.ex
  have hB1 := b1.size
  have hB2 := b2.size
  have hle := x.le
  have fl := hp.lt
  have rl := rp.lt
  have pl := pn.lt
  have ql := q.qn.lt
  have hq : ∀ k, qBl w1.heap.size (.slice none 0 0) (.slice none 0 0) (.slice none 0 0) (.slice none 0 0) k → k = w1.heap.size := by
    rintro k (e | e | e | e | e)
    · exact e
    all_goals cases e
  refine ⟨⟨F, R, G, _, (hp.below b1).below b2, (rp.below b1).below b2, pn.below b2, q.qn, ?_⟩, (x.bel.trans (b1.mono hle)).trans (b2.mono (by omega)), by omega, fun _ e => e.elim, x.pos⟩
  refine ⟨fun k hk => ⟨(hF k hk).1, ?_, id⟩, fun k hk => ⟨(hR k hk).1, ?_, id⟩, fun k hk => ⟨?_, ?_, id⟩, fun k hk => ⟨?_, ql k hk, id⟩, fun k hk => (hF k hk).2.2, fun k hk e => ?_, fun k hk e => ?_, fun k hk e => ?_, fun k hk e => ?_, fun k hk e => ?_⟩
  · have := fl k hk; omega
  · have := rl k hk; omega
  · have := hG k hk; omega
  · have := pl k hk; omega
  · have := hq k hk; omega
  · have := fl k hk; have := hG k e; omega
  · have := fl k hk; have := hq k e; omega
  · have := rl k hk; have := hG k e; omega
  · have := rl k hk; have := hq k e; omega
  · have := pl k hk; have := hq k e; omega
theorem P4.set {w0 w : World} {B hb rb pb qb g : Nat} {h1 h2 : HSt} {p1 p2 : PSt} (x : P4 w0 B w hb rb pb qb h1 h2 p1 p2 (fun k => k = g)) (hg : B ≤ g) (i : Nat) (v : Value) : P4 w0 B (w.setCell ⟨g, i, none⟩ v) hb rb pb qb h1 h2 p1 p2 (fun k => k = g) :=
  x.other (Kept.setCell w ⟨g, i, none⟩ v) (fun k e => by have e' : k = g := e; exact ⟨e', by omega⟩)
theorem boxed6 {W : World} {g : Nat} {T : TypeId} {a b c d e f : Value} (r : Row W g T [a, b, c, d, e, f]) : W.cell? ⟨g, 0, none⟩ = some a ∧ W.cell? ⟨g, 1, none⟩ = some b ∧ W.cell? ⟨g, 2, none⟩ = some c ∧ W.cell? ⟨g, 3, none⟩ = some d ∧ W.cell? ⟨g, 4, none⟩ = some e ∧ W.cell? ⟨g, 5, none⟩ = some f :=
  ⟨r.cell 0 (by simp), r.cell 1 (by simp), r.cell 2 (by simp), r.cell 3 (by simp), r.cell 4 (by simp), r.cell 5 (by simp)⟩
theorem PK.new {h : HSt} (M : Nat) (hl : h.last ≤ 30) : PK h (PSt.new M) 0 := ⟨⟨List.nodup_nil, (fun e he => (by cases he)), Nat.zero_le _, Nat.zero_le _⟩, Nat.zero_le _, by omega, fun s hs => by cases hs⟩
end Go.Proofs.YtfonlolgkaobcaaGreatDoor

