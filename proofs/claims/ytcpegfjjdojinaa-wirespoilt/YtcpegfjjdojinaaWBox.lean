/- A message in memory: its cells, and its load as a whole. -/
import Derived.Test.YtcpegfjjdojinaaWMsg
import Derived.Deep.MidRow
namespace Go.Proofs.Ytcpegfjjdojinaa
open Go.RowKit

/-- The message lies in block b. -/
def MBox (w : World) (b : Nat) (m : Msg) (ro lo : Option Addr) (rc lc : Nat) : Prop :=
  w.heap[b]? = some (.cells #[.int .i64 m.kind, .int .i64 m.frm, .int .i64 m.to, .int .u64 (m.call : Int), .int .u64 (m.floor : Int), .int .i64 m.op, .int .i64 m.fld, .int .i64 m.item,
    .int .i64 m.tn, .int .u64 (m.ts : Int), .slice ro m.refs.length rc, .int .u64 (m.val : Int), .int .i64 m.code, .int .u64 (m.seq : Int), .int .i64 m.vou, .int .u64 (m.at_ : Int), .int .i64 m.dist, .int .u64 (m.stamp : Int), .slice lo m.list.length lc] 28 (0, 0))

theorem MBox.cells {w : World} {b : Nat} {m : Msg} {ro lo : Option Addr} {rc lc : Nat} (h : MBox w b m ro lo rc lc) :
    w.cell? ⟨b, 0, none⟩ = some (.int .i64 m.kind) ∧ w.cell? ⟨b, 1, none⟩ = some (.int .i64 m.frm) ∧ w.cell? ⟨b, 2, none⟩ = some (.int .i64 m.to) ∧ w.cell? ⟨b, 3, none⟩ = some (.int .u64 (m.call : Int)) ∧
    w.cell? ⟨b, 4, none⟩ = some (.int .u64 (m.floor : Int)) ∧ w.cell? ⟨b, 5, none⟩ = some (.int .i64 m.op) ∧ w.cell? ⟨b, 6, none⟩ = some (.int .i64 m.fld) ∧ w.cell? ⟨b, 7, none⟩ = some (.int .i64 m.item) ∧
    w.cell? ⟨b, 8, none⟩ = some (.int .i64 m.tn) ∧ w.cell? ⟨b, 9, none⟩ = some (.int .u64 (m.ts : Int)) ∧ w.cell? ⟨b, 10, none⟩ = some (.slice ro m.refs.length rc) ∧ w.cell? ⟨b, 11, none⟩ = some (.int .u64 (m.val : Int)) ∧
    w.cell? ⟨b, 12, none⟩ = some (.int .i64 m.code) ∧ w.cell? ⟨b, 13, none⟩ = some (.int .u64 (m.seq : Int)) ∧ w.cell? ⟨b, 14, none⟩ = some (.int .i64 m.vou) ∧ w.cell? ⟨b, 15, none⟩ = some (.int .u64 (m.at_ : Int)) ∧
    w.cell? ⟨b, 16, none⟩ = some (.int .i64 m.dist) ∧ w.cell? ⟨b, 17, none⟩ = some (.int .u64 (m.stamp : Int)) ∧ w.cell? ⟨b, 18, none⟩ = some (.slice lo m.list.length lc) := by
  refine ⟨?_, ?_, ?_, ?_, ?_, ?_, ?_, ?_, ?_, ?_, ?_, ?_, ?_, ?_, ?_, ?_, ?_, ?_, ?_⟩ <;> exact cell_of_row w b _ _ _ _ h

theorem MBox.below {w w' : World} {b B : Nat} {m : Msg} {ro lo : Option Addr} {rc lc : Nat} (h : MBox w b m ro lo rc lc) (hb : Below B w w') (hB : b < B) : MBox w' b m ro lo rc lc := by
  unfold MBox
  rw [hb.block b hB]
  exact h

/-- What a boxed message is. -/
theorem MBox.new (w : World) (m : Msg) (ro lo : Option Addr) (rc lc : Nat) : MBox (w.alloc (.cells #[.int .i64 m.kind, .int .i64 m.frm, .int .i64 m.to, .int .u64 (m.call : Int), .int .u64 (m.floor : Int), .int .i64 m.op, .int .i64 m.fld, .int .i64 m.item,
    .int .i64 m.tn, .int .u64 (m.ts : Int), .slice ro m.refs.length rc, .int .u64 (m.val : Int), .int .i64 m.code, .int .u64 (m.seq : Int), .int .i64 m.vou, .int .u64 (m.at_ : Int), .int .i64 m.dist, .int .u64 (m.stamp : Int), .slice lo m.list.length lc] 28)) w.heap.size m ro lo rc lc := heap_alloc_new w _

theorem msg_size : (Try.prog.info? 28).map (·.size) = some 19 := by kernel_rfl

theorem MBox.range {w : World} {b : Nat} {m : Msg} {ro lo : Option Addr} {rc lc : Nat} (h : MBox w b m ro lo rc lc) :
    w.rangeAt b 0 [.int .i64 m.kind, .int .i64 m.frm, .int .i64 m.to, .int .u64 (m.call : Int), .int .u64 (m.floor : Int), .int .i64 m.op, .int .i64 m.fld, .int .i64 m.item,
    .int .i64 m.tn, .int .u64 (m.ts : Int), .slice ro m.refs.length rc, .int .u64 (m.val : Int), .int .i64 m.code, .int .u64 (m.seq : Int), .int .i64 m.vou, .int .u64 (m.at_ : Int), .int .i64 m.dist, .int .u64 (m.stamp : Int), .slice lo m.list.length lc] := by
  intro j v hv
  rw [cell_of_row w b _ _ _ _ h, Nat.zero_add, ← hv]
  simp

/-- The message is loaded, whole. -/
theorem load_msg {ops : Array Oper} {rest : List Oper} {op : Oper} {a : Act} {w : World} {Q : Exit → Act → World → Prop} (x : Operand) (ho : op.op = .load 28 x) (hw : Region.wanted op (yielded ops a.tmps) = true)
    (b : Nat) (hx : a.eval x = .pointer (some ⟨b, 0, none⟩)) (m : Msg) (ro lo : Option Addr) (rc lc : Nat) (hm : MBox w b m ro lo rc lc)
    (h : wpList Try.prog ops Q rest (a.put op.dst (m.v ro lo rc lc)) w) : wpList Try.prog ops Q (op :: rest) a w := by
  simp only [wpList, hw]
  rw [if_pos True.intro]
  exact Or.inl (wp_load_mid 28 x ho b 0 hx _ _ hm.range Try.underlying28 rfl msg_size h)

/-- The same, as the walk meets it. -/
theorem MBox.loadAt {w : World} {b : Nat} {m : Msg} {ro lo : Option Addr} {rc lc : Nat} (h : MBox w b m ro lo rc lc) :
    (Instr.loadAt 28 (.pointer (some ⟨b, 0, none⟩))).run Try.prog w = .ok (m.v ro lo rc lc) w :=
  run_loadAt_mid w b 0 28 _ _ h.range Try.underlying28 rfl msg_size

end Go.Proofs.Ytcpegfjjdojinaa
