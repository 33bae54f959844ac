/- A message that is stored whole, and read as a result. -/
import Derived.Test.YtcpegfjjdojinaaWBox
import Derived.Laws.ResultCell
namespace Go.Proofs.Ytcpegfjjdojinaa
open Go.RowKit

/-- The cells of a message as a list. -/
@[reducible] def Msg.cl (m : Msg) (ro lo : Option Addr) (rc lc : Nat) : List Value :=
  [.int .i64 m.kind, .int .i64 m.frm, .int .i64 m.to, .int .u64 (m.call : Int), .int .u64 (m.floor : Int), .int .i64 m.op, .int .i64 m.fld, .int .i64 m.item,
    .int .i64 m.tn, .int .u64 (m.ts : Int), .slice ro m.refs.length rc, .int .u64 (m.val : Int), .int .i64 m.code, .int .u64 (m.seq : Int), .int .i64 m.vou, .int .u64 (m.at_ : Int), .int .i64 m.dist, .int .u64 (m.stamp : Int), .slice lo m.list.length lc]

/-- The message lies at the head of block b, and may be written. -/
structure MAt (w : World) (b : Nat) (m : Msg) (ro lo : Option Addr) (rc lc : Nat) : Prop where
  lt : b < w.heap.size
  rng : w.rangeAt b 0 (m.cl ro lo rc lc)
  th : w.there b 0 19

theorem kept_setCells (b : Nat) : ∀ (vs : List Value) (o : Nat) (w : World), Kept w (w.setCells b o vs) (fun k => k = b)
  | [], _, w => Kept.refl w _
  | v :: r, o, w => (Kept.setCell w ⟨b, o, none⟩ v).trans (kept_setCells b r (o + 1) _) (fun _ _ h => h)
theorem size_setCells (b : Nat) : ∀ (vs : List Value) (o : Nat) (w : World), (w.setCells b o vs).heap.size = w.heap.size
  | [], _, _ => rfl
  | v :: r, o, w => (size_setCells b r (o + 1) _).trans (by simp)

/-- What has cells and is not frozen may be written. -/
theorem there_row {w : World} {b : Nat} {cs : Array Value} {t : TypeId} (h : w.heap[b]? = some (.cells cs t (0, 0))) {n : Nat} (hn : n ≤ cs.size) : w.there b 0 n := by
  intro j hj
  rw [cell_of_row w b _ _ _ _ h, frozen_of_row w b _ _ _ h, Nat.zero_add]
  exact ⟨by rw [Array.getElem?_eq_getElem (by omega)]; rfl, rfl⟩

theorem MBox.mat {w : World} {b : Nat} {m : Msg} {ro lo : Option Addr} {rc lc : Nat} (h : MBox w b m ro lo rc lc) : MAt w b m ro lo rc lc :=
  ⟨(Array.getElem?_eq_some_iff.1 h).1, h.range, there_row h (Nat.le_refl _)⟩

/-- The message is stored, whole. -/
theorem store_msg {ops : Array Oper} {rest : List Oper} {op : Oper} {a : Act} {w : World} {Q : Exit → Act → World → Prop} (x y : Operand) (ho : op.op = .store 28 x y) (hgd : op.guard = none)
    (b : Nat) (hx : a.eval x = .pointer (some ⟨b, 0, none⟩)) (m : Msg) (ro lo : Option Addr) (rc lc : Nat) (hy : a.eval y = m.v ro lo rc lc) (hb : b < w.heap.size) (ht : w.there b 0 19)
    (h : ∀ w', MAt w' b m ro lo rc lc → Kept w w' (fun k => k = b) → w'.heap.size = w.heap.size → wpList Try.prog ops Q rest (a.put op.dst undef) w') : wpList Try.prog ops Q (op :: rest) a w :=
  wpList_store_mid hgd 28 x y ho b 0 (m.cl ro lo rc lc).toArray hx hy ht msg_size (all_oneCell_toArray (by intro v hv; simp at hv; rcases hv with rfl | rfl | rfl | rfl | rfl | rfl | rfl | rfl | rfl | rfl | rfl | rfl | rfl | rfl | rfl | rfl | rfl | rfl | rfl <;> rfl))
    (h _ ⟨by rw [size_setCells]; exact hb, World.rangeAt_setCells_same w b 0 _ ht, World.there_setCells ht b 0 _⟩ (kept_setCells b _ 0 w) (size_setCells b _ 0 w))

/-- It is loaded, whole. -/
theorem load_mat {ops : Array Oper} {rest : List Oper} {op : Oper} {a : Act} {w : World} {Q : Exit → Act → World → Prop} (x : Operand) (ho : op.op = .load 28 x) (hw : Region.wanted op (yielded ops a.tmps) = true)
    (b : Nat) (hx : a.eval x = .pointer (some ⟨b, 0, none⟩)) (m : Msg) (ro lo : Option Addr) (rc lc : Nat) (hm : MAt w b m ro lo rc lc)
    (h : wpList Try.prog ops Q rest (a.put op.dst (m.v ro lo rc lc)) w) : wpList Try.prog ops Q (op :: rest) a w := by
  simp only [wpList, hw]
  rw [if_pos True.intro]
  exact Or.inl (wp_load_mid 28 x ho b 0 hx _ _ hm.rng Try.underlying28 rfl msg_size h)

theorem MAt.cells {w : World} {b : Nat} {m : Msg} {ro lo : Option Addr} {rc lc : Nat} (h : MAt w b m ro lo rc lc) (j : Nat) (v : Value) (hj : (m.cl ro lo rc lc)[j]? = some v) : w.cell? ⟨b, j, none⟩ = some v := by
  have := h.rng j v hj
  rwa [Nat.zero_add] at this
theorem MAt.below {w w' : World} {b B : Nat} {m : Msg} {ro lo : Option Addr} {rc lc : Nat} (h : MAt w b m ro lo rc lc) (hb : Below B w w') (hB : b < B) : MAt w' b m ro lo rc lc :=
  ⟨Nat.lt_of_lt_of_le h.lt hb.size, fun j v hv => (hb.cell (p := ⟨b, 0 + j, none⟩) hB).trans (h.rng j v hv), fun j hj => by rw [hb.cell (p := ⟨b, 0 + j, none⟩) hB, hb.frozen (p := ⟨b, 0 + j, none⟩) hB]; exact h.th j hj⟩

/-- Read as a result, beside another one; alone. -/
theorem res_msg2 {fn : Func} {p u : Tmp} (h : fn.results = #[.cell p 28, .tmp u]) (tmps : Array Value) {w : World} {b : Nat} {m : Msg} {ro lo : Option Addr} {rc lc : Nat} (hp : tmps.getD p undef = .pointer (some ⟨b, 0, none⟩)) (hm : MAt w b m ro lo rc lc) :
    (results fn tmps).run Try.prog w = .ok (.tuple #[m.v ro lo rc lc, tmps.getD u undef]) w := by
  rw [results_cell_tmp h, hp]
  simp only [asAddr, Sem.run_pure, Result.andThen_ok, run_loadVar_mid w b 0 28 _ _ hm.rng Try.underlying28 rfl msg_size]
theorem res_msg1 {fn : Func} {p : Tmp} (h : fn.results = #[.cell p 28]) (tmps : Array Value) {w : World} {b : Nat} {m : Msg} {ro lo : Option Addr} {rc lc : Nat} (hp : tmps.getD p undef = .pointer (some ⟨b, 0, none⟩)) (hm : MAt w b m ro lo rc lc) :
    (results fn tmps).run Try.prog w = .ok (m.v ro lo rc lc) w := by
  have hp' : tmps[p]?.getD undef = .pointer (some ⟨b, 0, none⟩) := by simpa using hp
  simp [results, h, hp', asAddr, run_loadVar_mid w b 0 28 _ _ hm.rng Try.underlying28 rfl msg_size]

def zeroM : Msg := { kind := 0, frm := 0, to := 0, call := 0, floor := 0, op := 0, fld := 0, item := 0, tn := 0, ts := 0, refs := [], val := 0, code := 0, seq := 0, vou := 0, at_ := 0, dist := 0, stamp := 0, list := [] }

end Go.Proofs.Ytcpegfjjdojinaa
