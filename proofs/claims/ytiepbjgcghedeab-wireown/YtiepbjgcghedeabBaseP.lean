import Derived.WalkKit
import Derived.WalkSpells
import Derived.WalkLawsBesides
import Derived.Laws.CopyOwn
import Derived.Laws.BytesArg
import Derived.Laws.IdiomStrings
import Derived.Maps.AppendAt
import Derived.Laws.AppendOwnNone
import Derived.Lib.SlBytesConst
import Derived.Test.YtiepbjgcghedeabRows
import Derived.Deep.MidRow
import Derived.Laws.ResultCell
/- Slices of bytes in memory: what a slice value holds, and that it goes on holding it. No program's text is in it. -/
/- Messages: as data, and as values in memory. -/
/- A message in memory: its cells, and its load as a whole. -/
/- A message that is stored whole, and read as a result. -/
/- The plain Has: its walk. -/
namespace Go.Proofs.Ytiepbjgcghedeab
open Go.RowKit

/-- A byte as a value. -/
def bv (b : UInt8) : Value := .int .u8 (b.toNat : Int)
theorem bv_def (b : UInt8) : bv b = .int .u8 (b.toNat : Int) := rfl

/-- From 'off' on block b holds the bytes l. -/
def Seg (w : World) (b off : Nat) (l : List UInt8) : Prop := ∀ i u, l[i]? = some u → w.cell? ⟨b, off + i, none⟩ = some (bv u)

/-- The slice value v holds the bytes l. -/
def Bs (w : World) (v : Value) (l : List UInt8) : Prop :=
  ∃ ao cap, v = .slice ao l.length cap ∧ (l.length ≤ cap ∧ (ao = none → cap = 0)) ∧ (l ≠ [] → ∃ b off, ao = some ⟨b, off, none⟩ ∧ b < w.heap.size ∧ Seg w b off l)

theorem Seg.at {w : World} {b off : Nat} {l : List UInt8} (h : Seg w b off l) (i : Nat) (hi : i < l.length) : w.cell? ⟨b, off + i, none⟩ = some (.int .u8 (l[i].toNat : Int)) :=
  h i l[i] (List.getElem?_eq_getElem hi)

theorem Seg.below {w w' : World} {b off : Nat} {l : List UInt8} {B : Nat} (h : Seg w b off l) (hb : Below B w w') (hB : b < B) : Seg w' b off l :=
  fun i u hu => (hb.cell (p := ⟨b, off + i, none⟩) hB).trans (h i u hu)
theorem Seg.block {w w' : World} {b off : Nat} {l : List UInt8} (h : Seg w b off l) (hb : w'.heap[b]? = w.heap[b]?) : Seg w' b off l :=
  fun i u hu => (World.cell?_of_block (a := ⟨b, off + i, none⟩) hb).trans (h i u hu)

theorem Bs.nil (w : World) : Bs w (.slice none 0 0) [] := ⟨none, 0, rfl, ⟨Nat.zero_le _, fun _ => rfl⟩, fun h => absurd rfl h⟩

theorem Bs.below {w w' : World} {v : Value} {l : List UInt8} (h : Bs w v l) (hb : Below w.heap.size w w') : Bs w' v l := by
  obtain ⟨ao, cap, rfl, hc, hx⟩ := h
  refine ⟨ao, cap, rfl, hc, fun hl => ?_⟩
  obtain ⟨b, off, rfl, hlt, hs⟩ := hx hl
  exact ⟨b, off, rfl, Nat.lt_of_lt_of_le hlt hb.size, hs.below hb hlt⟩

/-- A block of its own, whole. -/
theorem Bs.ofBlock {w : World} {g cap : Nat} {t : TypeId} {fr : Nat × Nat} {cur : Array Value} {l : List UInt8} (hg : w.heap[g]? = some (.cells cur t fr)) (hc : cur.toList.take l.length = l.map bv) (hcap : l.length ≤ cap) :
    Bs w (.slice (some ⟨g, 0, none⟩) l.length cap) l := by
  refine ⟨_, cap, rfl, ⟨hcap, fun h => by cases h⟩, fun _ => ⟨g, 0, rfl, (Array.getElem?_eq_some_iff.1 hg).1, fun i u hu => ?_⟩⟩
  have hi : i < l.length := (List.getElem?_eq_some_iff.1 hu).1
  have h2 : (cur.toList.take l.length)[i]? = some (bv u) := by rw [hc, List.getElem?_map, hu]; rfl
  rw [List.getElem?_take, if_pos hi] at h2
  simp only [World.cell?, hg, Nat.zero_add]
  simpa using h2

theorem Bs.ofOwns {w : World} {base : Nat} {e : TypeId} {v : Value} {l : List UInt8} (h : w.ownsRow base e 1 v l.length (l.map bv)) : Bs w v l := by
  obtain ⟨_, ⟨rfl, h0⟩ | ⟨g, cap, cur, rfl, hb, hg, hn, hm, hs, ht⟩⟩ := h
  · have : l = [] := List.eq_nil_of_length_eq_zero h0
    subst this
    exact Bs.nil _
  · exact Bs.ofBlock hg (by simpa using ht) hn

theorem Bs.pre {w : World} {ao : Option Addr} {n cap : Nat} {l : List UInt8} (h : Bs w (.slice ao n cap) l) (hi : Nat) (h2 : hi ≤ l.length) : Bs w (.slice ao hi cap) (l.take hi) := by
  obtain ⟨ao', cap', e, hc, hx⟩ := h
  simp only [Value.slice.injEq] at e
  obtain ⟨rfl, rfl, rfl⟩ := e
  have hlen : (l.take hi).length = hi := by simp; omega
  refine ⟨_, _, by rw [hlen], ⟨by omega, hc.2⟩, fun hne => ?_⟩
  have hl : l ≠ [] := by intro e; subst e; simp at hne
  obtain ⟨b, off, rfl, hlt, hs⟩ := hx hl
  refine ⟨b, off, rfl, hlt, fun i u hu => hs i u ?_⟩
  rw [List.getElem?_take] at hu
  split at hu
  · exact hu
  · cases hu

theorem Bs.post {w : World} {ao : Option Addr} {n cap : Nat} {l : List UInt8} (h : Bs w (.slice ao n cap) l) (lo : Nat) (h2 : lo ≤ l.length) : Bs w (.slice (Option.map (fun x => x.add lo) ao) (l.length - lo) (cap - lo)) (l.drop lo) := by
  obtain ⟨ao', cap', e, hc, hx⟩ := h
  simp only [Value.slice.injEq] at e
  obtain ⟨rfl, rfl, rfl⟩ := e
  have hlen : (l.drop lo).length = l.length - lo := by simp
  refine ⟨_, _, by rw [hlen], ⟨by omega, fun h => by have := hc.2 (by simpa using h); omega⟩, fun hne => ?_⟩
  have hl : l ≠ [] := by intro e; subst e; simp at hne
  obtain ⟨b, off, rfl, hlt, hs⟩ := hx hl
  refine ⟨b, off + lo, by simp [Addr.add], hlt, fun i u hu => ?_⟩
  rw [List.getElem?_drop] at hu
  rw [show off + lo + i = off + (lo + i) by omega]
  exact hs (lo + i) u hu

theorem map_bv_inj {l m : List UInt8} (h : l.map bv = m.map bv) : l = m := by
  refine List.map_inj_right ?_ |>.1 h
  intro x y e
  simp only [bv, Value.int.injEq, true_and] at e
  exact UInt8.toNat_inj.1 (by omega)
theorem bv_oneCell (l : List UInt8) : ∀ u ∈ l.map bv, u.oneCell' = true := by
  intro u hu
  obtain ⟨b, _, rfl⟩ := List.mem_map.1 hu
  rfl

/-- 'string(b)'. -/
theorem Bs.str {P : Program} {w : World} {v : Value} {l : List UInt8} (h : Bs w v l) (src dst e : TypeId) (hs : P.underlying src = some (.slice e)) (he : P.underlying e = some (.int .u8)) (hd : P.underlying dst = some .string) :
    (convert src dst v).run P w = .ok (.string ⟨l.toArray⟩) w := by
  obtain ⟨ao, cap, rfl, hc, hx⟩ := h
  cases hl : l with
  | nil =>
    cases ao with
    | none => rw [List.length_nil]; exact run_convert_bytes_nil w src e hs he 0 cap dst hd
    | some a => 
      have := run_convert_bytes_back (P := P) w src dst e a cap [] hs he hd (fun j hj => by simp at hj)
      simpa using this
  | cons x m =>
    rw [← hl]
    obtain ⟨b, off, rfl, hlt, hseg⟩ := hx (by rw [hl]; simp)
    exact run_convert_bytes_back (P := P) w src dst e ⟨b, off, none⟩ cap l hs he hd (fun j hj => by
      have : (⟨b, off, none⟩ : Addr).add j = ⟨b, off + j, none⟩ := by unfold Addr.add; split <;> simp_all
      rw [this]
      exact hseg.at j hj)

/-- 'make([]T, n)' of one-cell elements: a new block of n zeros. -/
theorem wpList_make_row {P : Program} (w : World) {ops : Array Oper} {rest : List Oper} {o : Oper} {a : Act} {Q : Exit → Act → World → Prop}
    (hg : o.guard = none) (l c : Operand) (t : TypeId) (hop : o.op = Op.makeSlice t l c)
    (e : TypeId) (i : TypeInfo) (z : Value) (h1 : P.underlying t = some (.slice e)) (h2 : P.info? e = some i) (h3 : i.zero = some z) (h4 : i.size = 1) (hz : z.cells = #[z])
    (kl kc : IntKind) (L C : Int) (n : Nat) (hl : a.eval l = .int kl L) (hc : a.eval c = .int kc C) (hL : L = (n : Int)) (hC : C = (n : Int)) (b2 : i.bytes * n ≤ 281474976710656) (b3 : n ≤ maxLen)
    (hK : ∀ w', w'.heap[w.heap.size]? = some (.cells (List.replicate n z).toArray e (0, 0)) → Below w.heap.size w w' → w.heap.size < w'.heap.size → wpList P ops Q rest (a.put o.dst (.slice (some ⟨w.heap.size, 0, none⟩) n n)) w') :
    wpList P ops Q (o :: rest) a w := by
  refine wpList_plain hg fun K hK' => ?_
  subst hL
  subst hC
  have b3' := b3
  have hb' : (i.bytes : Int) * (n : Int) ≤ 281474976710656 := by
    have h : ((i.bytes * n : Nat) : Int) ≤ 281474976710656 := by omega
    rwa [Int.natCast_mul] at h
  simp only [maxLen] at b3'
  have hrun := run_make (P := P) w t e i z h1 h2 h3 kl kc n n (by omega) (Int.le_refl _) hb' (by omega)
  unfold Oper.wp
  simp [execOp, hop, hl, hc, hrun, Result.andThen]
  refine hK' _ _ (hK _ ?_ ((Below.refl _ _).alloc (Nat.le_refl _) _) (by simp))
  rw [heap_alloc_new]
  have e1 : madeCells z.cells (n * i.size) = (List.replicate n z).toArray := by
    rw [h4, Nat.mul_one, hz]
    apply Array.ext'
    rw [toList_madeCells_one]
  rw [← e1]

theorem splice_all {α : Type} (z : α) (xs : List α) : splice (List.replicate xs.length z) 0 xs = xs := by
  simp [splice]

theorem Addr.add_at (b off j : Nat) : (⟨b, off, none⟩ : Addr).add j = ⟨b, off + j, none⟩ := by unfold Addr.add; split <;> simp_all

theorem Seg.src {w : World} {b off : Nat} {l : List UInt8} (h : Seg w b off l) : ∀ j v, (l.map bv)[j]? = some v → w.cell? ((⟨b, off, none⟩ : Addr).add j) = some v := by
  intro j v hv
  rw [List.getElem?_map] at hv
  cases hu : l[j]? with
  | none => rw [hu] at hv; cases hv
  | some u =>
    rw [hu] at hv
    simp only [Option.map_some, Option.some.injEq] at hv
    subst hv
    rw [Addr.add_at]
    exact h j u hu

theorem src_of {w w1 : World} {ao : Option Addr} {l : List UInt8} (hx : l ≠ [] → ∃ b off, ao = some ⟨b, off, none⟩ ∧ b < w.heap.size ∧ Seg w b off l) (hb : Below w.heap.size w w1) (hp : 0 < (l.map bv).length) :
    ∃ ad, ao = some ad ∧ ∀ j v, (l.map bv)[j]? = some v → w1.cell? (ad.add j) = some v := by
  obtain ⟨b, off, rfl, hlt, hs⟩ := hx (by intro e; subst e; simp at hp)
  exact ⟨_, rfl, (hs.below hb hlt).src⟩

theorem len_min (l : List UInt8) (k : Nat) : (l.map bv).length = Nat.min l.length (l.length + k) := by
  rw [List.length_map]
  exact (Nat.min_eq_left (by omega)).symm
theorem len_fit (l : List UInt8) (k : Nat) (z : Value) : 0 + (l.map bv).length ≤ (List.replicate (l.length + k) z).length := by simp

/-- Of what was there only the blocks of S may have turned. -/
structure Kept (w w' : World) (S : Nat → Prop) : Prop where
  os : w'.os = w.os
  tape : w'.tape = w.tape
  output : w'.output = w.output
  size : w.heap.size ≤ w'.heap.size
  block : ∀ k, k < w.heap.size → ¬ S k → w'.heap[k]? = w.heap[k]?

theorem Kept.refl (w : World) (S : Nat → Prop) : Kept w w S := ⟨rfl, rfl, rfl, Nat.le_refl _, fun _ _ _ => rfl⟩
theorem Kept.trans {a b c : World} {S S' : Nat → Prop} (h : Kept a b S) (k : Kept b c S') (hs : ∀ i, i < a.heap.size → S' i → S i) : Kept a c S :=
  ⟨k.os.trans h.os, k.tape.trans h.tape, k.output.trans h.output, Nat.le_trans h.size k.size,
    fun i hi hn => (k.block i (Nat.lt_of_lt_of_le hi h.size) (fun e => hn (hs i hi e))).trans (h.block i hi hn)⟩
theorem Kept.mono {a b : World} {S S' : Nat → Prop} (h : Kept a b S) (hs : ∀ i, i < a.heap.size → S i → S' i) : Kept a b S' :=
  ⟨h.os, h.tape, h.output, h.size, fun i hi hn => h.block i hi (fun e => hn (hs i hi e))⟩
theorem Kept.below {w w' : World} {S : Nat → Prop} {B : Nat} (h : Kept w w' S) (hB : B ≤ w.heap.size) (hs : ∀ i, i < B → ¬ S i) : Below B w w' :=
  ⟨h.os, h.tape, h.output, h.size, fun k hk => h.block k (by omega) (hs k hk)⟩
theorem kept_of_below {w w' : World} (h : Below w.heap.size w w') (S : Nat → Prop) : Kept w w' S := ⟨h.os, h.tape, h.output, h.size, fun k hk _ => h.block k hk⟩
theorem Kept.grown {w w' : World} {row : Option Nat} (h : w.grownBy w' row) : Kept w w' (fun k => row = some k) :=
  ⟨h.os, h.tape, h.output, h.size, fun k hk hn => h.block k hk (fun e => hn e.symm)⟩
theorem Kept.alloc (w : World) (o : Obj) (S : Nat → Prop) : Kept w (w.alloc o) S := ⟨rfl, rfl, rfl, by simp, fun k hk _ => Below.heap_alloc w o k hk⟩
theorem Kept.setCell (w : World) (a : Addr) (u : Value) : Kept w (w.setCell a u) (fun k => k = a.block) :=
  ⟨rfl, rfl, rfl, by simp [World.setCell], fun k _ hn => heap_setCell_other w a k u hn⟩

/-- v' lies where v did, or in new memory. -/
def Moved (w : World) (v v' : Value) : Prop := ∀ k, v'.ownBlock = some k → v.ownBlock = some k ∨ w.heap.size ≤ k
theorem Moved.refl (w : World) (v : Value) : Moved w v v := fun _ h => Or.inl h
theorem Moved.trans {w w1 : World} {v v1 v2 : Value} (h : Moved w v v1) (k : Moved w1 v1 v2) (hs : w.heap.size ≤ w1.heap.size) : Moved w v v2 := by
  intro i hi
  rcases k i hi with h1 | h1
  · exact h i h1
  · exact Or.inr (by omega)

/-- 'append(v, s...)' onto a slice of bytes that lies at the head of a block of its own. -/
theorem wpList_append_bs {P : Program} {w : World} {ops : Array Oper} {rest : List Oper} {o : Oper} {a : Act} {Q : Exit → Act → World → Prop} (hgd : o.guard = none) (s x : Operand) (t : TypeId)
    (ho : o.op = .call { callee := .builtin .append, args := #[s, x], argTypes := #[t, t] })
    (base : Nat) (e : TypeId) (i : TypeInfo) (ht : P.underlying t = some (.slice e)) (hi : P.info? e = some i) (hz : i.zero = some (.int .u8 0)) (hsize : i.size = 1) (hby : i.bytes = 1)
    (v : Value) (n : Nat) (l : List UInt8) (hs : a.eval s = v) (hn : n = l.length) (hown : w.ownsRow base e 1 v n (l.map bv))
    (sv : Value) (hx : a.eval x = sv) (m : List UInt8) (hsv : Bs w sv m) (hlen : n + m.length ≤ 140737488355328) (hbase : base ≤ w.heap.size)
    (h : ∀ v' w', w'.ownsRow base e 1 v' (l ++ m).length ((l ++ m).map bv) → Kept w w' (fun k => v.ownBlock = some k) → Moved w v v' → wpList P ops Q rest (a.put o.dst v') w') :
    wpList P ops Q (o :: rest) a w := by
  subst hn
  obtain ⟨ao, cap, rfl, hc, hxx⟩ := hsv
  cases ao with
  | none =>
    have hm : m.length = 0 := by have := hc.2 rfl; omega
    have hm' : m = [] := List.eq_nil_of_length_eq_zero hm
    subst hm'
    have h0 : cap = 0 := hc.2 rfl
    subst h0
    refine wpList_append_own_none hgd s x t ho base e i 1 ht hi v l.length (l.map bv) hs hown hx ?_
    exact h v w (by simpa using hown) (Kept.refl _ _) (Moved.refl _ _)
  | some ad =>
    refine wpList_append_own_at w hgd s x t ho base e i (.int .u8 0) 1 1 ht hi hz hsize hby rfl (by decide) v l.length (l.map bv) hs hown ad m.length cap (m.map bv) hx (by simp) ?_ (bv_oneCell m) (by unfold maxLen; omega) (by omega) hbase ?_
    · intro j u hu
      have hne : m ≠ [] := by intro e; subst e; simp at hu
      obtain ⟨b, off, e, _, hseg⟩ := hxx hne
      cases e
      exact hseg.src j u hu
    · intro v' w' h1 h2 _ h4
      refine h v' w' (by simpa using h1) (Kept.grown h2) ?_
      intro k hk
      rcases h4 with h4 | h4
      · exact Or.inl (h4 ▸ hk)
      · rw [h4] at hk
        simp only [Option.some.injEq] at hk
        exact Or.inr (by omega)

/-- One element in a block of its own, as append lays it. -/
theorem Bs.one (w : World) (x : UInt8) (t : TypeId) : Bs (w.alloc (.cells #[.int .u8 (x.toNat : Int)] t)) (.slice (some ⟨w.heap.size, 0, none⟩) 1 1) [x] :=
  Bs.ofBlock (l := [x]) (heap_alloc_new w _) rfl (by simp)

theorem own_form {w : World} {base : Nat} {e : TypeId} {v : Value} {n : Nat} {xs : List Value} (h : w.ownsRow base e 1 v n xs) : ∃ ao n' c, v = .slice ao n' c := by
  rcases h.2 with ⟨rfl, _⟩ | ⟨g, cap, cur, rfl, _⟩
  · exact ⟨_, _, _, rfl⟩
  · exact ⟨_, _, _, rfl⟩

theorem Bs.kept {w w' : World} {v : Value} {l : List UInt8} {S : Nat → Prop} (h : Bs w v l) (hk : Kept w w' S) (hs : ∀ k, l ≠ [] → v.ownBlock = some k → k < w.heap.size → ¬ S k) : Bs w' v l := by
  obtain ⟨ao, cap, rfl, hc, hx⟩ := h
  refine ⟨ao, cap, rfl, hc, fun hl => ?_⟩
  obtain ⟨b, off, rfl, hlt, hseg⟩ := hx hl
  exact ⟨b, off, rfl, Nat.lt_of_lt_of_le hlt hk.size, hseg.block (hk.block b hlt (hs b hl rfl hlt))⟩

theorem own_below {w w' : World} {base : Nat} {e : TypeId} {v : Value} {n : Nat} {xs : List Value} (h : w.ownsRow base e 1 v n xs) (hk : Kept w w' (fun k => v.ownBlock = some k)) (hb : base ≤ w.heap.size) : Below base w w' :=
  hk.below hb (fun i hi e => by have := h.lt i e; omega)

end Go.Proofs.Ytiepbjgcghedeab

namespace Go.Proofs.Ytiepbjgcghedeab
open Go.RowKit

structure Msg where
  kind : Int
  frm : Int
  to : Int
  call : Nat
  floor : Nat
  op : Int
  fld : Int
  item : Int
  tn : Int
  ts : Nat
  refs : List (Int × Nat)
  val : Nat
  code : Int
  seq : Nat
  vou : Int
  at_ : Nat
  dist : Int
  stamp : Nat
  list : List Nat

/-- The cells of a message, its lists apart. -/
@[reducible] def Msg.v (m : Msg) (ro lo : Option Addr) (rc lc : Nat) : Value :=
  .agg #[.int .i64 m.kind, .int .i64 m.frm, .int .i64 m.to, .int .u64 (m.call : Int), .int .u64 (m.floor : Int), .int .i64 m.op, .int .i64 m.fld, .int .i64 m.item,
    .int .i64 m.tn, .int .u64 (m.ts : Int), .slice ro m.refs.length rc, .int .u64 (m.val : Int), .int .i64 m.code, .int .u64 (m.seq : Int), .int .i64 m.vou, .int .u64 (m.at_ : Int), .int .i64 m.dist, .int .u64 (m.stamp : Int), .slice lo m.list.length lc]

/-- A number of type int. -/
def I64 (z : Int) : Prop := -9223372036854775808 ≤ z ∧ z ≤ 9223372036854775807
def U64 (n : Nat) : Prop := n < 18446744073709551616
/-- All numbers are of their types. -/
structure Msg.Ok (m : Msg) : Prop where
  kind : I64 m.kind
  frm : I64 m.frm
  to : I64 m.to
  call : U64 m.call
  floor : U64 m.floor
  op : I64 m.op
  fld : I64 m.fld
  item : I64 m.item
  tn : I64 m.tn
  ts : U64 m.ts
  refs : ∀ x ∈ m.refs, I64 x.1 ∧ U64 x.2
  val : U64 m.val
  code : I64 m.code
  seq : U64 m.seq
  vou : I64 m.vou
  at_ : U64 m.at_
  dist : I64 m.dist
  stamp : U64 m.stamp
  list : ∀ x ∈ m.list, U64 x

/-- An int turned into a uint64. -/
def u64 (z : Int) : Nat := (z % 18446744073709551616).toNat

/-- The field f of m, one number. -/
def Msg.num (m : Msg) (f : Nat) : Nat :=
  if f = 1 then m.call else if f = 2 then m.floor else if f = 4 then u64 m.item else if f = 8 then u64 m.op else if f = 16 then u64 m.fld else
  if f = 64 then m.seq else if f = 128 then u64 m.vou else if f = 256 then m.at_ else if f = 512 then u64 m.dist else if f = 1024 then u64 m.code else if f = 2048 then m.val else if f = 8192 then m.stamp else 0

/-- A slice of IDs. -/
def IDs (w : World) (ao : Option Addr) (xs : List (Int × Nat)) : Prop :=
  xs ≠ [] → ∃ blk off, ao = some ⟨blk, off, none⟩ ∧ blk < w.heap.size ∧ ∀ i (hi : i < xs.length), w.cell? ⟨blk, off + i * 2, none⟩ = some (.int .i64 xs[i].1) ∧ w.cell? ⟨blk, off + i * 2 + 1, none⟩ = some (.int .u64 (xs[i].2 : Int))
/-- A slice of numbers of type uint64. -/
def Us (w : World) (ao : Option Addr) (xs : List Nat) : Prop :=
  xs ≠ [] → ∃ blk off, ao = some ⟨blk, off, none⟩ ∧ blk < w.heap.size ∧ ∀ i (hi : i < xs.length), w.cell? ⟨blk, off + i, none⟩ = some (.int .u64 (xs[i] : Int))

theorem IDs.below {w w' : World} {ao : Option Addr} {xs : List (Int × Nat)} (h : IDs w ao xs) (hb : Below w.heap.size w w') : IDs w' ao xs := by
  intro hne
  obtain ⟨blk, off, rfl, hlt, hat⟩ := h hne
  exact ⟨blk, off, rfl, Nat.lt_of_lt_of_le hlt hb.size, fun i hi => ⟨(hb.cell (p := ⟨blk, off + i * 2, none⟩) hlt).trans (hat i hi).1, (hb.cell (p := ⟨blk, off + i * 2 + 1, none⟩) hlt).trans (hat i hi).2⟩⟩
theorem Us.below {w w' : World} {ao : Option Addr} {xs : List Nat} (h : Us w ao xs) (hb : Below w.heap.size w w') : Us w' ao xs := by
  intro hne
  obtain ⟨blk, off, rfl, hlt, hat⟩ := h hne
  exact ⟨blk, off, rfl, Nat.lt_of_lt_of_le hlt hb.size, fun i hi => (hb.cell (p := ⟨blk, off + i, none⟩) hlt).trans (hat i hi)⟩

/-- The fifteen fields. -/
def Fld (f : Nat) : Prop := f = 1 ∨ f = 2 ∨ f = 4 ∨ f = 8 ∨ f = 16 ∨ f = 32 ∨ f = 64 ∨ f = 128 ∨ f = 256 ∨ f = 512 ∨ f = 1024 ∨ f = 2048 ∨ f = 4096 ∨ f = 8192 ∨ f = 16384

end Go.Proofs.Ytiepbjgcghedeab

namespace Go.Proofs.Ytiepbjgcghedeab
open Go.RowKit

/-- The message lies in block b. -/
def MBox (w : World) (b : Nat) (m : Msg) (ro lo : Option Addr) (rc lc : Nat) : Prop :=
  w.heap[b]? = some (.cells #[.int .i64 m.kind, .int .i64 m.frm, .int .i64 m.to, .int .u64 (m.call : Int), .int .u64 (m.floor : Int), .int .i64 m.op, .int .i64 m.fld, .int .i64 m.item,
    .int .i64 m.tn, .int .u64 (m.ts : Int), .slice ro m.refs.length rc, .int .u64 (m.val : Int), .int .i64 m.code, .int .u64 (m.seq : Int), .int .i64 m.vou, .int .u64 (m.at_ : Int), .int .i64 m.dist, .int .u64 (m.stamp : Int), .slice lo m.list.length lc] 28 (0, 0))

theorem MBox.cells {w : World} {b : Nat} {m : Msg} {ro lo : Option Addr} {rc lc : Nat} (h : MBox w b m ro lo rc lc) :
    w.cell? ⟨b, 0, none⟩ = some (.int .i64 m.kind) ∧ w.cell? ⟨b, 1, none⟩ = some (.int .i64 m.frm) ∧ w.cell? ⟨b, 2, none⟩ = some (.int .i64 m.to) ∧ w.cell? ⟨b, 3, none⟩ = some (.int .u64 (m.call : Int)) ∧
    w.cell? ⟨b, 4, none⟩ = some (.int .u64 (m.floor : Int)) ∧ w.cell? ⟨b, 5, none⟩ = some (.int .i64 m.op) ∧ w.cell? ⟨b, 6, none⟩ = some (.int .i64 m.fld) ∧ w.cell? ⟨b, 7, none⟩ = some (.int .i64 m.item) ∧
    w.cell? ⟨b, 8, none⟩ = some (.int .i64 m.tn) ∧ w.cell? ⟨b, 9, none⟩ = some (.int .u64 (m.ts : Int)) ∧ w.cell? ⟨b, 10, none⟩ = some (.slice ro m.refs.length rc) ∧ w.cell? ⟨b, 11, none⟩ = some (.int .u64 (m.val : Int)) ∧
    w.cell? ⟨b, 12, none⟩ = some (.int .i64 m.code) ∧ w.cell? ⟨b, 13, none⟩ = some (.int .u64 (m.seq : Int)) ∧ w.cell? ⟨b, 14, none⟩ = some (.int .i64 m.vou) ∧ w.cell? ⟨b, 15, none⟩ = some (.int .u64 (m.at_ : Int)) ∧
    w.cell? ⟨b, 16, none⟩ = some (.int .i64 m.dist) ∧ w.cell? ⟨b, 17, none⟩ = some (.int .u64 (m.stamp : Int)) ∧ w.cell? ⟨b, 18, none⟩ = some (.slice lo m.list.length lc) := by
  refine ⟨?_, ?_, ?_, ?_, ?_, ?_, ?_, ?_, ?_, ?_, ?_, ?_, ?_, ?_, ?_, ?_, ?_, ?_, ?_⟩ <;> exact cell_of_row w b _ _ _ _ h

theorem MBox.below {w w' : World} {b B : Nat} {m : Msg} {ro lo : Option Addr} {rc lc : Nat} (h : MBox w b m ro lo rc lc) (hb : Below B w w') (hB : b < B) : MBox w' b m ro lo rc lc := by
  unfold MBox
  rw [hb.block b hB]
  exact h

/-- What a boxed message is. -/
theorem MBox.new (w : World) (m : Msg) (ro lo : Option Addr) (rc lc : Nat) : MBox (w.alloc (.cells #[.int .i64 m.kind, .int .i64 m.frm, .int .i64 m.to, .int .u64 (m.call : Int), .int .u64 (m.floor : Int), .int .i64 m.op, .int .i64 m.fld, .int .i64 m.item,
    .int .i64 m.tn, .int .u64 (m.ts : Int), .slice ro m.refs.length rc, .int .u64 (m.val : Int), .int .i64 m.code, .int .u64 (m.seq : Int), .int .i64 m.vou, .int .u64 (m.at_ : Int), .int .i64 m.dist, .int .u64 (m.stamp : Int), .slice lo m.list.length lc] 28)) w.heap.size m ro lo rc lc := heap_alloc_new w _

theorem msg_size : (Try.prog.info? 28).map (·.size) = some 19 := by kernel_rfl

theorem MBox.range {w : World} {b : Nat} {m : Msg} {ro lo : Option Addr} {rc lc : Nat} (h : MBox w b m ro lo rc lc) :
    w.rangeAt b 0 [.int .i64 m.kind, .int .i64 m.frm, .int .i64 m.to, .int .u64 (m.call : Int), .int .u64 (m.floor : Int), .int .i64 m.op, .int .i64 m.fld, .int .i64 m.item,
    .int .i64 m.tn, .int .u64 (m.ts : Int), .slice ro m.refs.length rc, .int .u64 (m.val : Int), .int .i64 m.code, .int .u64 (m.seq : Int), .int .i64 m.vou, .int .u64 (m.at_ : Int), .int .i64 m.dist, .int .u64 (m.stamp : Int), .slice lo m.list.length lc] := by
  intro j v hv
  rw [cell_of_row w b _ _ _ _ h, Nat.zero_add, ← hv]
  simp

/-- The message is loaded, whole. -/
theorem load_msg {ops : Array Oper} {rest : List Oper} {op : Oper} {a : Act} {w : World} {Q : Exit → Act → World → Prop} (x : Operand) (ho : op.op = .load 28 x) (hw : Region.wanted op (yielded ops a.tmps) = true)
    (b : Nat) (hx : a.eval x = .pointer (some ⟨b, 0, none⟩)) (m : Msg) (ro lo : Option Addr) (rc lc : Nat) (hm : MBox w b m ro lo rc lc)
    (h : wpList Try.prog ops Q rest (a.put op.dst (m.v ro lo rc lc)) w) : wpList Try.prog ops Q (op :: rest) a w := by
  simp only [wpList, hw]
  rw [if_pos True.intro]
  exact Or.inl (wp_load_mid 28 x ho b 0 hx _ _ hm.range Try.underlying28 rfl msg_size h)

/-- The same, as the walk meets it. -/
theorem MBox.loadAt {w : World} {b : Nat} {m : Msg} {ro lo : Option Addr} {rc lc : Nat} (h : MBox w b m ro lo rc lc) :
    (Instr.loadAt 28 (.pointer (some ⟨b, 0, none⟩))).run Try.prog w = .ok (m.v ro lo rc lc) w :=
  run_loadAt_mid w b 0 28 _ _ h.range Try.underlying28 rfl msg_size

end Go.Proofs.Ytiepbjgcghedeab

namespace Go.Proofs.Ytiepbjgcghedeab
open Go.RowKit

/-- The cells of a message as a list. -/
@[reducible] def Msg.cl (m : Msg) (ro lo : Option Addr) (rc lc : Nat) : List Value :=
  [.int .i64 m.kind, .int .i64 m.frm, .int .i64 m.to, .int .u64 (m.call : Int), .int .u64 (m.floor : Int), .int .i64 m.op, .int .i64 m.fld, .int .i64 m.item,
    .int .i64 m.tn, .int .u64 (m.ts : Int), .slice ro m.refs.length rc, .int .u64 (m.val : Int), .int .i64 m.code, .int .u64 (m.seq : Int), .int .i64 m.vou, .int .u64 (m.at_ : Int), .int .i64 m.dist, .int .u64 (m.stamp : Int), .slice lo m.list.length lc]

/-- The message lies at the head of block b, and may be written. -/
structure MAt (w : World) (b : Nat) (m : Msg) (ro lo : Option Addr) (rc lc : Nat) : Prop where
  lt : b < w.heap.size
  rng : w.rangeAt b 0 (m.cl ro lo rc lc)
  th : w.there b 0 19

theorem kept_setCells (b : Nat) : ∀ (vs : List Value) (o : Nat) (w : World), Kept w (w.setCells b o vs) (fun k => k = b)
  | [], _, w => Kept.refl w _
  | v :: r, o, w => (Kept.setCell w ⟨b, o, none⟩ v).trans (kept_setCells b r (o + 1) _) (fun _ _ h => h)
theorem size_setCells (b : Nat) : ∀ (vs : List Value) (o : Nat) (w : World), (w.setCells b o vs).heap.size = w.heap.size
  | [], _, _ => rfl
  | v :: r, o, w => (size_setCells b r (o + 1) _).trans (by simp)

/-- What has cells and is not frozen may be written. -/
theorem there_row {w : World} {b : Nat} {cs : Array Value} {t : TypeId} (h : w.heap[b]? = some (.cells cs t (0, 0))) {n : Nat} (hn : n ≤ cs.size) : w.there b 0 n := by
  intro j hj
  rw [cell_of_row w b _ _ _ _ h, frozen_of_row w b _ _ _ h, Nat.zero_add]
  exact ⟨by rw [Array.getElem?_eq_getElem (by omega)]; rfl, rfl⟩

theorem MBox.mat {w : World} {b : Nat} {m : Msg} {ro lo : Option Addr} {rc lc : Nat} (h : MBox w b m ro lo rc lc) : MAt w b m ro lo rc lc :=
  ⟨(Array.getElem?_eq_some_iff.1 h).1, h.range, there_row h (Nat.le_refl _)⟩

/-- The message is stored, whole. -/
theorem store_msg {ops : Array Oper} {rest : List Oper} {op : Oper} {a : Act} {w : World} {Q : Exit → Act → World → Prop} (x y : Operand) (ho : op.op = .store 28 x y) (hgd : op.guard = none)
    (b : Nat) (hx : a.eval x = .pointer (some ⟨b, 0, none⟩)) (m : Msg) (ro lo : Option Addr) (rc lc : Nat) (hy : a.eval y = m.v ro lo rc lc) (hb : b < w.heap.size) (ht : w.there b 0 19)
    (h : ∀ w', MAt w' b m ro lo rc lc → Kept w w' (fun k => k = b) → w'.heap.size = w.heap.size → wpList Try.prog ops Q rest (a.put op.dst undef) w') : wpList Try.prog ops Q (op :: rest) a w :=
  wpList_store_mid hgd 28 x y ho b 0 (m.cl ro lo rc lc).toArray hx hy ht msg_size (all_oneCell_toArray (by intro v hv; simp at hv; rcases hv with rfl | rfl | rfl | rfl | rfl | rfl | rfl | rfl | rfl | rfl | rfl | rfl | rfl | rfl | rfl | rfl | rfl | rfl | rfl <;> rfl))
    (h _ ⟨by rw [size_setCells]; exact hb, World.rangeAt_setCells_same w b 0 _ ht, World.there_setCells ht b 0 _⟩ (kept_setCells b _ 0 w) (size_setCells b _ 0 w))

/-- It is loaded, whole. -/
theorem load_mat {ops : Array Oper} {rest : List Oper} {op : Oper} {a : Act} {w : World} {Q : Exit → Act → World → Prop} (x : Operand) (ho : op.op = .load 28 x) (hw : Region.wanted op (yielded ops a.tmps) = true)
    (b : Nat) (hx : a.eval x = .pointer (some ⟨b, 0, none⟩)) (m : Msg) (ro lo : Option Addr) (rc lc : Nat) (hm : MAt w b m ro lo rc lc)
    (h : wpList Try.prog ops Q rest (a.put op.dst (m.v ro lo rc lc)) w) : wpList Try.prog ops Q (op :: rest) a w := by
  simp only [wpList, hw]
  rw [if_pos True.intro]
  exact Or.inl (wp_load_mid 28 x ho b 0 hx _ _ hm.rng Try.underlying28 rfl msg_size h)

theorem MAt.cells {w : World} {b : Nat} {m : Msg} {ro lo : Option Addr} {rc lc : Nat} (h : MAt w b m ro lo rc lc) (j : Nat) (v : Value) (hj : (m.cl ro lo rc lc)[j]? = some v) : w.cell? ⟨b, j, none⟩ = some v := by
  have := h.rng j v hj
  rwa [Nat.zero_add] at this
theorem MAt.below {w w' : World} {b B : Nat} {m : Msg} {ro lo : Option Addr} {rc lc : Nat} (h : MAt w b m ro lo rc lc) (hb : Below B w w') (hB : b < B) : MAt w' b m ro lo rc lc :=
  ⟨Nat.lt_of_lt_of_le h.lt hb.size, fun j v hv => (hb.cell (p := ⟨b, 0 + j, none⟩) hB).trans (h.rng j v hv), fun j hj => by rw [hb.cell (p := ⟨b, 0 + j, none⟩) hB, hb.frozen (p := ⟨b, 0 + j, none⟩) hB]; exact h.th j hj⟩

/-- Read as a result, beside another one; alone. -/
theorem res_msg2 {fn : Func} {p u : Tmp} (h : fn.results = #[.cell p 28, .tmp u]) (tmps : Array Value) {w : World} {b : Nat} {m : Msg} {ro lo : Option Addr} {rc lc : Nat} (hp : tmps.getD p undef = .pointer (some ⟨b, 0, none⟩)) (hm : MAt w b m ro lo rc lc) :
    (results fn tmps).run Try.prog w = .ok (.tuple #[m.v ro lo rc lc, tmps.getD u undef]) w := by
  rw [results_cell_tmp h, hp]
  simp only [asAddr, Sem.run_pure, Result.andThen_ok, run_loadVar_mid w b 0 28 _ _ hm.rng Try.underlying28 rfl msg_size]
theorem res_msg1 {fn : Func} {p : Tmp} (h : fn.results = #[.cell p 28]) (tmps : Array Value) {w : World} {b : Nat} {m : Msg} {ro lo : Option Addr} {rc lc : Nat} (hp : tmps.getD p undef = .pointer (some ⟨b, 0, none⟩)) (hm : MAt w b m ro lo rc lc) :
    (results fn tmps).run Try.prog w = .ok (m.v ro lo rc lc) w := by
  have hp' : tmps[p]?.getD undef = .pointer (some ⟨b, 0, none⟩) := by simpa using hp
  simp [results, h, hp', asAddr, run_loadVar_mid w b 0 28 _ _ hm.rng Try.underlying28 rfl msg_size]

def zeroM : Msg := { kind := 0, frm := 0, to := 0, call := 0, floor := 0, op := 0, fld := 0, item := 0, tn := 0, ts := 0, refs := [], val := 0, code := 0, seq := 0, vou := 0, at_ := 0, dist := 0, stamp := 0, list := [] }

end Go.Proofs.Ytiepbjgcghedeab

namespace Go.Proofs.Ytiepbjgcghedeab
open Go.RowKit

def tblS : List (List UInt8) := [[], [99, 97, 108, 108, 32, 102, 108, 111, 111, 114, 32, 111, 112, 32, 102, 105, 101, 108, 100, 32, 116, 97, 114, 103, 101, 116, 32, 118, 97, 108, 117, 101, 32, 114, 101, 102, 115], [99, 97, 108, 108, 32, 99, 111, 100, 101, 32, 118, 97, 108, 117, 101, 32, 114, 101, 102, 115], [99, 97, 108, 108], [116, 97, 114, 103, 101, 116, 32, 115, 101, 113, 32, 118, 111, 117, 99, 104, 101, 114, 32, 97, 116, 32, 100, 105, 115, 116], [116, 97, 114, 103, 101, 116, 32, 115, 101, 113, 32, 97, 116, 32, 99, 111, 100, 101], [116, 97, 114, 103, 101, 116, 32, 115, 101, 113], [116, 97, 114, 103, 101, 116, 32, 115, 101, 113], [99, 97, 108, 108, 32, 105, 116, 101, 109, 32, 111, 112, 32, 116, 97, 114, 103, 101, 116], [99, 97, 108, 108, 32, 105, 116, 101, 109, 32, 99, 111, 100, 101, 32, 115, 116, 97, 109, 112, 32, 108, 105, 115, 116], [99, 97, 108, 108, 32, 105, 116, 101, 109, 32, 116, 97, 114, 103, 101, 116, 32, 115, 116, 97, 109, 112], [99, 97, 108, 108, 32, 105, 116, 101, 109]]
@[reducible] def sv (l : List UInt8) : Value := .string ⟨l.toArray⟩

/-- From place i on, the word under way began at fr. -/
def scan (S W : List UInt8) : Nat → Nat → Nat → Bool
  | 0, _, _ => false
  | n + 1, fr, i => if i = S.length ∨ S[i]? = some 32 then (if (S.take i).drop fr = W then true else scan S W n (i + 1) (i + 1)) else scan S W n fr (i + 1)
def hasW (k : Int) (W : List UInt8) : Bool := if 1 ≤ k ∧ k ≤ 11 then scan (tblS.getD k.toNat []) W ((tblS.getD k.toNat []).length + 1) 0 0 else false

theorem ext_list (S : List UInt8) (f j : Nat) : ((⟨S.toArray⟩ : ByteArray).extract f j).toList = (S.take j).drop f := by
  rw [Go.ByteArray.toList_eq, ByteArray.data_extract]
  simp [List.drop_take]

theorem scan_end {S W : List UInt8} {n f j : Nat} (h : j = S.length ∨ S[j]? = some 32) (he : ((S.take j).drop f == W) = true) : scan S W (n + 1) f j = true := by
  simp only [scan]
  rw [if_pos h, if_pos (by simpa using he)]
theorem scan_next {S W : List UInt8} {n f j : Nat} (h : j = S.length ∨ S[j]? = some 32) (he : ((S.take j).drop f == W) = false) : scan S W (n + 1) f j = scan S W n (j + 1) (j + 1) := by
  simp only [scan]
  rw [if_pos h, if_neg (by simpa using he)]
theorem scan_on {S W : List UInt8} {n f j : Nat} (h : ¬ (j = S.length ∨ S[j]? = some 32)) : scan S W (n + 1) f j = scan S W n f (j + 1) := by
  simp only [scan]
  rw [if_neg h]

theorem arr_size : (Try.prog.info? 103).map (·.size) = some 12 := by kernel_rfl

/-- A row of cells is stored, whole. -/
theorem store_tbl {ops : Array Oper} {rest : List Oper} {op : Oper} {a : Act} {w : World} {Q : Exit → Act → World → Prop} (x y : Operand) (ho : op.op = .store 103 x y) (hgd : op.guard = none)
    (b : Nat) (hx : a.eval x = .pointer (some ⟨b, 0, none⟩)) (hy : a.eval y = .agg (tblS.map sv).toArray) (ht : w.there b 0 12)
    (h : ∀ w', w'.rangeAt b 0 (tblS.map sv) → Kept w w' (fun k => k = b) → w'.heap.size = w.heap.size → wpList Try.prog ops Q rest (a.put op.dst undef) w') : wpList Try.prog ops Q (op :: rest) a w :=
  wpList_store_mid hgd 103 x y ho b 0 (tblS.map sv).toArray hx hy ht arr_size (all_oneCell_toArray (by intro v hv; obtain ⟨s, _, rfl⟩ := List.mem_map.1 hv; rfl))
    (h _ (World.rangeAt_setCells_same w b 0 _ ht) (kept_setCells b _ 0 w) (size_setCells b _ 0 w))

set_option maxRecDepth 20000 in
set_option maxHeartbeats 2000000 in
theorem has_in (k : Nat) (S W : List UInt8) (w : World) (h1 : 1 ≤ k) (h2 : k ≤ 11) (hS : (tblS.map sv)[k]? = some (sv S)) (hl : S.length ≤ 1000) :
    Calls Try.prog 59 #[.int .i64 (k : Int), sv W] w fun e w' => e = .returned (.bool (scan S W (S.length + 1) 0 0)) ∧ Below w.heap.size w w' := by
  go_enter Try.func59, Try.ntmps59
  go_wp2_with (refine store_tbl _ _ rfl rfl w.heap.size rfl rfl (there_row (heap_alloc_new w _) (Nat.le_refl 12)) ?_; intro w1 hr1 hk1 hz1; have c1 : w1.cell? ⟨w.heap.size, k, none⟩ = some (sv S) := by { have := hr1 k (sv S) hS; rwa [Nat.zero_add] at this }; clear hr1 hS; have q1 : Below w.heap.size w w1 := ((Below.refl _ _).alloc (Nat.le_refl _) _).trans (hk1.below (by simp) (fun i hi e => by omega)))
  go_loop [7, 8] (fun fr i => ∃ f k : Nat, f ≤ k ∧ k ≤ S.length + 1 ∧ fr = .int .i64 (f : Int) ∧ i = .int .i64 (k : Int) ∧ scan S W (S.length + 1 - k) f k = scan S W (S.length + 1) 0 0) (fun _ i => S.length + 1 - (intOf i).toNat)
  case atStart => exact ⟨0, 0, Nat.le_refl _, Nat.zero_le _, rfl, rfl, rfl⟩
  case round =>
    obtain ⟨f, j, hf, hj, rfl, rfl, hsc⟩ := hrel
    by_cases hend : j = S.length + 1
    · subst hend
      have hz : scan S W (S.length + 1) 0 0 = false := by rw [← hsc, Nat.sub_self]; rfl
      have HZ : Hid (scan S W (S.length + 1) 0 0 = false) := hz
      clear hsc hz
      go_wp2
      go_ret
      exact ⟨congrArg (fun x => Ending.returned (.bool x)) HZ.out.symm, q1⟩
    have hj2 : j ≤ S.length := by omega
    obtain ⟨n, hn⟩ : ∃ n, S.length + 1 - j = n + 1 := ⟨S.length - j, by omega⟩
    have hn2 : S.length + 1 - (j + 1) = n := by omega
    rw [hn] at hsc
    have HS : Hid (scan S W (n + 1) f j = scan S W (S.length + 1) 0 0) := hsc
    have HX : Hid (∀ a b, ((⟨S.toArray⟩ : ByteArray).extract a b).toList = (S.take b).drop a) := fun a b => ext_list S a b
    have HN : Hid (S.length + 1 - (j + 1) = n) := hn2
    clear hsc hn2 hn
    have hsz : (⟨S.toArray⟩ : ByteArray).size = S.length := by simp [ByteArray.size]
    by_cases hlt : j = S.length
    · subst hlt
      cases hc : (((⟨S.toArray⟩ : ByteArray).extract f S.length).toList == W)
      · have HC : Hid (((S.take S.length).drop f == W) = false) := by show _ = _; rw [← HX.out]; exact hc
        go_wp2
        go_round
        case rel =>
          refine ⟨S.length + 1, S.length + 1, Nat.le_refl _, Nat.le_refl _, by go_num, by go_num, ?_⟩
          rw [HN.out, ← HS.out]
          exact (scan_next (Or.inl rfl) HC.out).symm
        case measure => simp [intOf]
      · have HC : Hid (((S.take S.length).drop f == W) = true) := by show _ = _; rw [← HX.out]; exact hc
        go_wp2
        go_ret
        exact ⟨congrArg (fun x => Ending.returned (.bool x)) (by rw [← HS.out]; exact (scan_end (Or.inl rfl) HC.out).symm), q1⟩
    · have hjl : j < S.length := by omega
      have hjne : ((j : Int) == (S.length : Int)) = false := by rw [beq_eq_false_iff_ne]; omega
      have hget : (⟨S.toArray⟩ : ByteArray)[j]'(by rw [hsz]; exact hjl) = S[j] := rfl
      by_cases hsp : S[j] = 32
      · have HE : Hid (j = S.length ∨ S[j]? = some 32) := Or.inr (by rw [List.getElem?_eq_getElem hjl, hsp])
        have hch : ((((⟨S.toArray⟩ : ByteArray)[j]'(by rw [hsz]; exact hjl)).toNat : Int) == 32) = true := by rw [hget, hsp]; rfl
        cases hc : (((⟨S.toArray⟩ : ByteArray).extract f j).toList == W)
        · have HC : Hid (((S.take j).drop f == W) = false) := by show _ = _; rw [← HX.out]; exact hc
          clear hget hsp
          go_wp2
          go_round
          case rel =>
            refine ⟨j + 1, j + 1, Nat.le_refl _, by omega, by go_num, by go_num, ?_⟩
            rw [HN.out, ← HS.out]
            exact (scan_next HE.out HC.out).symm
          case measure => simp [intOf]; omega
        · have HC : Hid (((S.take j).drop f == W) = true) := by show _ = _; rw [← HX.out]; exact hc
          clear hget hsp
          go_wp2
          go_ret
          exact ⟨congrArg (fun x => Ending.returned (.bool x)) (by rw [← HS.out]; exact (scan_end HE.out HC.out).symm), q1⟩
      · have HE : Hid (¬ (j = S.length ∨ S[j]? = some 32)) := by
          show ¬ _
          rintro (h | h)
          · exact hlt h
          · rw [List.getElem?_eq_getElem hjl] at h; exact hsp (Option.some.inj h)
        have hch : ((((⟨S.toArray⟩ : ByteArray)[j]'(by rw [hsz]; exact hjl)).toNat : Int) == 32) = false := by
          rw [hget, beq_eq_false_iff_ne]
          intro e
          exact hsp (UInt8.toNat_inj.1 (by have : (32 : UInt8).toNat = 32 := rfl; omega))
        clear hget hsp
        go_wp2
        go_round
        case rel =>
          refine ⟨f, j + 1, by omega, by omega, by go_num, by go_num, ?_⟩
          rw [HN.out, ← HS.out]
          exact (scan_on HE.out).symm
        case measure => simp [intOf]; omega

set_option maxRecDepth 20000 in
set_option maxHeartbeats 2000000 in
theorem has_out (k : Int) (W : List UInt8) (w : World) (h : ¬ (1 ≤ k ∧ k ≤ 11)) :
    Calls Try.prog 59 #[.int .i64 k, sv W] w fun e w' => e = .returned (.bool false) ∧ Below w.heap.size w w' := by
  by_cases h1 : k < 1
  · go_enter Try.func59, Try.ntmps59
    go_wp2_with (refine store_tbl _ _ rfl rfl w.heap.size rfl rfl (there_row (heap_alloc_new w _) (Nat.le_refl 12)) ?_; intro w1 hr1 hk1 hz1; have q1 : Below w.heap.size w w1 := ((Below.refl _ _).alloc (Nat.le_refl _) _).trans (hk1.below (by simp) (fun i hi e => by omega)))
    go_ret
    exact ⟨rfl, q1⟩
  · have h2 : 11 < k := by omega
    go_enter Try.func59, Try.ntmps59
    go_wp2_with (refine store_tbl _ _ rfl rfl w.heap.size rfl rfl (there_row (heap_alloc_new w _) (Nat.le_refl 12)) ?_; intro w1 hr1 hk1 hz1; have q1 : Below w.heap.size w w1 := ((Below.refl _ _).alloc (Nat.le_refl _) _).trans (hk1.below (by simp) (fun i hi e => by omega)))
    go_ret
    exact ⟨rfl, q1⟩

theorem tbl_short : ∀ k, k ≤ 11 → (tblS.getD k []).length ≤ 1000 := by decide +kernel
theorem tbl_at {k : Nat} (h : k ≤ 11) : (tblS.map sv)[k]? = some (sv (tblS.getD k [])) := by
  have hl : k < tblS.length := by have : tblS.length = 12 := rfl; omega
  rw [List.getElem?_map, List.getElem?_eq_getElem hl]
  simp [List.getD_eq_getElem?_getD, List.getElem?_eq_getElem hl]

theorem has_any (k : Int) (W : List UInt8) (w : World) :
    Calls Try.prog 59 #[.int .i64 k, sv W] w fun e w' => e = .returned (.bool (hasW k W)) ∧ Below w.heap.size w w' := by
  unfold hasW
  by_cases h : 1 ≤ k ∧ k ≤ 11
  · rw [if_pos h]
    obtain ⟨n, rfl⟩ : ∃ n : Nat, k = (n : Int) := ⟨k.toNat, by omega⟩
    rw [Int.toNat_natCast]
    exact has_in n _ W w (by omega) (by omega) (tbl_at (by omega)) (tbl_short n (by omega))
  · rw [if_neg h]
    exact has_out k W w h

end Go.Proofs.Ytiepbjgcghedeab

