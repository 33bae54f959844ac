/- Messages: as data, and as values in memory. -/
import Derived.Test.YtcpegfjjdojinaaBase
import Derived.Test.YtcpegfjjdojinaaRows
namespace Go.Proofs.Ytcpegfjjdojinaa
open Go.RowKit

structure Msg where
  kind : Int
  frm : Int
  to : Int
  call : Nat
  floor : Nat
  op : Int
  fld : Int
  item : Int
  tn : Int
  ts : Nat
  refs : List (Int × Nat)
  val : Nat
  code : Int
  seq : Nat
  vou : Int
  at_ : Nat
  dist : Int
  stamp : Nat
  list : List Nat

/-- The cells of a message, its lists apart. -/
@[reducible] def Msg.v (m : Msg) (ro lo : Option Addr) (rc lc : Nat) : Value :=
  .agg #[.int .i64 m.kind, .int .i64 m.frm, .int .i64 m.to, .int .u64 (m.call : Int), .int .u64 (m.floor : Int), .int .i64 m.op, .int .i64 m.fld, .int .i64 m.item,
    .int .i64 m.tn, .int .u64 (m.ts : Int), .slice ro m.refs.length rc, .int .u64 (m.val : Int), .int .i64 m.code, .int .u64 (m.seq : Int), .int .i64 m.vou, .int .u64 (m.at_ : Int), .int .i64 m.dist, .int .u64 (m.stamp : Int), .slice lo m.list.length lc]

/-- A number of type int. -/
def I64 (z : Int) : Prop := -9223372036854775808 ≤ z ∧ z ≤ 9223372036854775807
def U64 (n : Nat) : Prop := n < 18446744073709551616
/-- All numbers are of their types. -/
structure Msg.Ok (m : Msg) : Prop where
  kind : I64 m.kind
  frm : I64 m.frm
  to : I64 m.to
  call : U64 m.call
  floor : U64 m.floor
  op : I64 m.op
  fld : I64 m.fld
  item : I64 m.item
  tn : I64 m.tn
  ts : U64 m.ts
  refs : ∀ x ∈ m.refs, I64 x.1 ∧ U64 x.2
  val : U64 m.val
  code : I64 m.code
  seq : U64 m.seq
  vou : I64 m.vou
  at_ : U64 m.at_
  dist : I64 m.dist
  stamp : U64 m.stamp
  list : ∀ x ∈ m.list, U64 x

/-- An int turned into a uint64. -/
def u64 (z : Int) : Nat := (z % 18446744073709551616).toNat

/-- The field f of m, one number. -/
def Msg.num (m : Msg) (f : Nat) : Nat :=
  if f = 1 then m.call else if f = 2 then m.floor else if f = 4 then u64 m.item else if f = 8 then u64 m.op else if f = 16 then u64 m.fld else
  if f = 64 then m.seq else if f = 128 then u64 m.vou else if f = 256 then m.at_ else if f = 512 then u64 m.dist else if f = 1024 then u64 m.code else if f = 2048 then m.val else if f = 8192 then m.stamp else 0

/-- A slice of IDs. -/
def IDs (w : World) (ao : Option Addr) (xs : List (Int × Nat)) : Prop :=
  xs ≠ [] → ∃ blk off, ao = some ⟨blk, off, none⟩ ∧ blk < w.heap.size ∧ ∀ i (hi : i < xs.length), w.cell? ⟨blk, off + i * 2, none⟩ = some (.int .i64 xs[i].1) ∧ w.cell? ⟨blk, off + i * 2 + 1, none⟩ = some (.int .u64 (xs[i].2 : Int))
/-- A slice of numbers of type uint64. -/
def Us (w : World) (ao : Option Addr) (xs : List Nat) : Prop :=
  xs ≠ [] → ∃ blk off, ao = some ⟨blk, off, none⟩ ∧ blk < w.heap.size ∧ ∀ i (hi : i < xs.length), w.cell? ⟨blk, off + i, none⟩ = some (.int .u64 (xs[i] : Int))

theorem IDs.below {w w' : World} {ao : Option Addr} {xs : List (Int × Nat)} (h : IDs w ao xs) (hb : Below w.heap.size w w') : IDs w' ao xs := by
  intro hne
  obtain ⟨blk, off, rfl, hlt, hat⟩ := h hne
  exact ⟨blk, off, rfl, Nat.lt_of_lt_of_le hlt hb.size, fun i hi => ⟨(hb.cell (p := ⟨blk, off + i * 2, none⟩) hlt).trans (hat i hi).1, (hb.cell (p := ⟨blk, off + i * 2 + 1, none⟩) hlt).trans (hat i hi).2⟩⟩
theorem Us.below {w w' : World} {ao : Option Addr} {xs : List Nat} (h : Us w ao xs) (hb : Below w.heap.size w w') : Us w' ao xs := by
  intro hne
  obtain ⟨blk, off, rfl, hlt, hat⟩ := h hne
  exact ⟨blk, off, rfl, Nat.lt_of_lt_of_le hlt hb.size, fun i hi => (hb.cell (p := ⟨blk, off + i, none⟩) hlt).trans (hat i hi)⟩

/-- The fifteen fields. -/
def Fld (f : Nat) : Prop := f = 1 ∨ f = 2 ∨ f = 4 ∨ f = 8 ∨ f = 16 ∨ f = 32 ∨ f = 64 ∨ f = 128 ∨ f = 256 ∨ f = 512 ∨ f = 1024 ∨ f = 2048 ∨ f = 4096 ∨ f = 8192 ∨ f = 16384

end Go.Proofs.Ytcpegfjjdojinaa
