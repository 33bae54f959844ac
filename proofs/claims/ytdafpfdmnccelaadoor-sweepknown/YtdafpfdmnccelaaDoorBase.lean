/- Slices of bytes in memory: what a slice value holds, and that it goes on holding it. No program's text is in it. -/
import Derived.WalkKit
import Derived.WalkSpells
import Derived.WalkLawsBesides
import Derived.Laws.CopyOwn
import Derived.Laws.BytesArg
import Derived.Laws.IdiomStrings
import Derived.Maps.AppendAt
import Derived.Laws.AppendOwnNone
import Derived.Lib.SlBytesConst
namespace Go.Proofs.YtdafpfdmnccelaaDoor
open Go.RowKit

/-- A byte as a value. -/
def bv (b : UInt8) : Value := .int .u8 (b.toNat : Int)
theorem bv_def (b : UInt8) : bv b = .int .u8 (b.toNat : Int) := rfl

/-- From 'off' on block b holds the bytes l. -/
def Seg (w : World) (b off : Nat) (l : List UInt8) : Prop := ∀ i u, l[i]? = some u → w.cell? ⟨b, off + i, none⟩ = some (bv u)

/-- The slice value v holds the bytes l. -/
def Bs (w : World) (v : Value) (l : List UInt8) : Prop :=
  ∃ ao cap, v = .slice ao l.length cap ∧ (l.length ≤ cap ∧ (ao = none → cap = 0)) ∧ (l ≠ [] → ∃ b off, ao = some ⟨b, off, none⟩ ∧ b < w.heap.size ∧ Seg w b off l)

theorem Seg.at {w : World} {b off : Nat} {l : List UInt8} (h : Seg w b off l) (i : Nat) (hi : i < l.length) : w.cell? ⟨b, off + i, none⟩ = some (.int .u8 (l[i].toNat : Int)) :=
  h i l[i] (List.getElem?_eq_getElem hi)

theorem Seg.below {w w' : World} {b off : Nat} {l : List UInt8} {B : Nat} (h : Seg w b off l) (hb : Below B w w') (hB : b < B) : Seg w' b off l :=
  fun i u hu => (hb.cell (p := ⟨b, off + i, none⟩) hB).trans (h i u hu)
theorem Seg.block {w w' : World} {b off : Nat} {l : List UInt8} (h : Seg w b off l) (hb : w'.heap[b]? = w.heap[b]?) : Seg w' b off l :=
  fun i u hu => (World.cell?_of_block (a := ⟨b, off + i, none⟩) hb).trans (h i u hu)

theorem Bs.nil (w : World) : Bs w (.slice none 0 0) [] := ⟨none, 0, rfl, ⟨Nat.zero_le _, fun _ => rfl⟩, fun h => absurd rfl h⟩

theorem Bs.below {w w' : World} {v : Value} {l : List UInt8} (h : Bs w v l) (hb : Below w.heap.size w w') : Bs w' v l := by
  obtain ⟨ao, cap, rfl, hc, hx⟩ := h
  refine ⟨ao, cap, rfl, hc, fun hl => ?_⟩
  obtain ⟨b, off, rfl, hlt, hs⟩ := hx hl
  exact ⟨b, off, rfl, Nat.lt_of_lt_of_le hlt hb.size, hs.below hb hlt⟩

/-- A block of its own, whole. -/
theorem Bs.ofBlock {w : World} {g cap : Nat} {t : TypeId} {fr : Nat × Nat} {cur : Array Value} {l : List UInt8} (hg : w.heap[g]? = some (.cells cur t fr)) (hc : cur.toList.take l.length = l.map bv) (hcap : l.length ≤ cap) :
    Bs w (.slice (some ⟨g, 0, none⟩) l.length cap) l := by
  refine ⟨_, cap, rfl, ⟨hcap, fun h => by cases h⟩, fun _ => ⟨g, 0, rfl, (Array.getElem?_eq_some_iff.1 hg).1, fun i u hu => ?_⟩⟩
  have hi : i < l.length := (List.getElem?_eq_some_iff.1 hu).1
  have h2 : (cur.toList.take l.length)[i]? = some (bv u) := by rw [hc, List.getElem?_map, hu]; rfl
  rw [List.getElem?_take, if_pos hi] at h2
  simp only [World.cell?, hg, Nat.zero_add]
  simpa using h2

theorem Bs.ofOwns {w : World} {base : Nat} {e : TypeId} {v : Value} {l : List UInt8} (h : w.ownsRow base e 1 v l.length (l.map bv)) : Bs w v l := by
  obtain ⟨_, ⟨rfl, h0⟩ | ⟨g, cap, cur, rfl, hb, hg, hn, hm, hs, ht⟩⟩ := h
  · have : l = [] := List.eq_nil_of_length_eq_zero h0
    subst this
    exact Bs.nil _
  · exact Bs.ofBlock hg (by simpa using ht) hn

theorem Bs.pre {w : World} {ao : Option Addr} {n cap : Nat} {l : List UInt8} (h : Bs w (.slice ao n cap) l) (hi : Nat) (h2 : hi ≤ l.length) : Bs w (.slice ao hi cap) (l.take hi) := by
  obtain ⟨ao', cap', e, hc, hx⟩ := h
  simp only [Value.slice.injEq] at e
  obtain ⟨rfl, rfl, rfl⟩ := e
  have hlen : (l.take hi).length = hi := by simp; omega
  refine ⟨_, _, by rw [hlen], ⟨by omega, hc.2⟩, fun hne => ?_⟩
  have hl : l ≠ [] := by intro e; subst e; simp at hne
  obtain ⟨b, off, rfl, hlt, hs⟩ := hx hl
  refine ⟨b, off, rfl, hlt, fun i u hu => hs i u ?_⟩
  rw [List.getElem?_take] at hu
  split at hu
  · exact hu
  · cases hu

theorem Bs.post {w : World} {ao : Option Addr} {n cap : Nat} {l : List UInt8} (h : Bs w (.slice ao n cap) l) (lo : Nat) (h2 : lo ≤ l.length) : Bs w (.slice (Option.map (fun x => x.add lo) ao) (l.length - lo) (cap - lo)) (l.drop lo) := by
  obtain ⟨ao', cap', e, hc, hx⟩ := h
  simp only [Value.slice.injEq] at e
  obtain ⟨rfl, rfl, rfl⟩ := e
  have hlen : (l.drop lo).length = l.length - lo := by simp
  refine ⟨_, _, by rw [hlen], ⟨by omega, fun h => by have := hc.2 (by simpa using h); omega⟩, fun hne => ?_⟩
  have hl : l ≠ [] := by intro e; subst e; simp at hne
  obtain ⟨b, off, rfl, hlt, hs⟩ := hx hl
  refine ⟨b, off + lo, by simp [Addr.add], hlt, fun i u hu => ?_⟩
  rw [List.getElem?_drop] at hu
  rw [show off + lo + i = off + (lo + i) by omega]
  exact hs (lo + i) u hu

theorem map_bv_inj {l m : List UInt8} (h : l.map bv = m.map bv) : l = m := by
  refine List.map_inj_right ?_ |>.1 h
  intro x y e
  simp only [bv, Value.int.injEq, true_and] at e
  exact UInt8.toNat_inj.1 (by omega)
theorem bv_oneCell (l : List UInt8) : ∀ u ∈ l.map bv, u.oneCell' = true := by
  intro u hu
  obtain ⟨b, _, rfl⟩ := List.mem_map.1 hu
  rfl

/-- 'string(b)'. -/
theorem Bs.str {P : Program} {w : World} {v : Value} {l : List UInt8} (h : Bs w v l) (src dst e : TypeId) (hs : P.underlying src = some (.slice e)) (he : P.underlying e = some (.int .u8)) (hd : P.underlying dst = some .string) :
    (convert src dst v).run P w = .ok (.string ⟨l.toArray⟩) w := by
  obtain ⟨ao, cap, rfl, hc, hx⟩ := h
  cases hl : l with
  | nil =>
    cases ao with
    | none => rw [List.length_nil]; exact run_convert_bytes_nil w src e hs he 0 cap dst hd
    | some a => 
      have := run_convert_bytes_back (P := P) w src dst e a cap [] hs he hd (fun j hj => by simp at hj)
      simpa using this
  | cons x m =>
    rw [← hl]
    obtain ⟨b, off, rfl, hlt, hseg⟩ := hx (by rw [hl]; simp)
    exact run_convert_bytes_back (P := P) w src dst e ⟨b, off, none⟩ cap l hs he hd (fun j hj => by
      have : (⟨b, off, none⟩ : Addr).add j = ⟨b, off + j, none⟩ := by unfold Addr.add; split <;> simp_all
      rw [this]
      exact hseg.at j hj)

/-- 'make([]T, n)' of one-cell elements: a new block of n zeros. -/
theorem wpList_make_row {P : Program} (w : World) {ops : Array Oper} {rest : List Oper} {o : Oper} {a : Act} {Q : Exit → Act → World → Prop}
    (hg : o.guard = none) (l c : Operand) (t : TypeId) (hop : o.op = Op.makeSlice t l c)
    (e : TypeId) (i : TypeInfo) (z : Value) (h1 : P.underlying t = some (.slice e)) (h2 : P.info? e = some i) (h3 : i.zero = some z) (h4 : i.size = 1) (hz : z.cells = #[z])
    (kl kc : IntKind) (L C : Int) (n : Nat) (hl : a.eval l = .int kl L) (hc : a.eval c = .int kc C) (hL : L = (n : Int)) (hC : C = (n : Int)) (b2 : i.bytes * n ≤ 281474976710656) (b3 : n ≤ maxLen)
    (hK : ∀ w', w'.heap[w.heap.size]? = some (.cells (List.replicate n z).toArray e (0, 0)) → Below w.heap.size w w' → w.heap.size < w'.heap.size → wpList P ops Q rest (a.put o.dst (.slice (some ⟨w.heap.size, 0, none⟩) n n)) w') :
    wpList P ops Q (o :: rest) a w := by
  refine wpList_plain hg fun K hK' => ?_
  subst hL
  subst hC
  have b3' := b3
  have hb' : (i.bytes : Int) * (n : Int) ≤ 281474976710656 := by
    have h : ((i.bytes * n : Nat) : Int) ≤ 281474976710656 := by omega
    rwa [Int.natCast_mul] at h
  simp only [maxLen] at b3'
  have hrun := run_make (P := P) w t e i z h1 h2 h3 kl kc n n (by omega) (Int.le_refl _) hb' (by omega)
  unfold Oper.wp
  simp [execOp, hop, hl, hc, hrun, Result.andThen]
  refine hK' _ _ (hK _ ?_ ((Below.refl _ _).alloc (Nat.le_refl _) _) (by simp))
  rw [heap_alloc_new]
  have e1 : madeCells z.cells (n * i.size) = (List.replicate n z).toArray := by
    rw [h4, Nat.mul_one, hz]
    apply Array.ext'
    rw [toList_madeCells_one]
  rw [← e1]

theorem splice_all {α : Type} (z : α) (xs : List α) : splice (List.replicate xs.length z) 0 xs = xs := by
  simp [splice]

theorem Addr.add_at (b off j : Nat) : (⟨b, off, none⟩ : Addr).add j = ⟨b, off + j, none⟩ := by unfold Addr.add; split <;> simp_all

theorem Seg.src {w : World} {b off : Nat} {l : List UInt8} (h : Seg w b off l) : ∀ j v, (l.map bv)[j]? = some v → w.cell? ((⟨b, off, none⟩ : Addr).add j) = some v := by
  intro j v hv
  rw [List.getElem?_map] at hv
  cases hu : l[j]? with
  | none => rw [hu] at hv; cases hv
  | some u =>
    rw [hu] at hv
    simp only [Option.map_some, Option.some.injEq] at hv
    subst hv
    rw [Addr.add_at]
    exact h j u hu

theorem src_of {w w1 : World} {ao : Option Addr} {l : List UInt8} (hx : l ≠ [] → ∃ b off, ao = some ⟨b, off, none⟩ ∧ b < w.heap.size ∧ Seg w b off l) (hb : Below w.heap.size w w1) (hp : 0 < (l.map bv).length) :
    ∃ ad, ao = some ad ∧ ∀ j v, (l.map bv)[j]? = some v → w1.cell? (ad.add j) = some v := by
  obtain ⟨b, off, rfl, hlt, hs⟩ := hx (by intro e; subst e; simp at hp)
  exact ⟨_, rfl, (hs.below hb hlt).src⟩

theorem len_min (l : List UInt8) (k : Nat) : (l.map bv).length = Nat.min l.length (l.length + k) := by
  rw [List.length_map]
  exact (Nat.min_eq_left (by omega)).symm
theorem len_fit (l : List UInt8) (k : Nat) (z : Value) : 0 + (l.map bv).length ≤ (List.replicate (l.length + k) z).length := by simp

/-- Of what was there only the blocks of S may have turned. -/
structure Kept (w w' : World) (S : Nat → Prop) : Prop where
  os : w'.os = w.os
  tape : w'.tape = w.tape
  output : w'.output = w.output
  size : w.heap.size ≤ w'.heap.size
  block : ∀ k, k < w.heap.size → ¬ S k → w'.heap[k]? = w.heap[k]?

theorem Kept.refl (w : World) (S : Nat → Prop) : Kept w w S := ⟨rfl, rfl, rfl, Nat.le_refl _, fun _ _ _ => rfl⟩
theorem Kept.trans {a b c : World} {S S' : Nat → Prop} (h : Kept a b S) (k : Kept b c S') (hs : ∀ i, i < a.heap.size → S' i → S i) : Kept a c S :=
  ⟨k.os.trans h.os, k.tape.trans h.tape, k.output.trans h.output, Nat.le_trans h.size k.size,
    fun i hi hn => (k.block i (Nat.lt_of_lt_of_le hi h.size) (fun e => hn (hs i hi e))).trans (h.block i hi hn)⟩
theorem Kept.mono {a b : World} {S S' : Nat → Prop} (h : Kept a b S) (hs : ∀ i, i < a.heap.size → S i → S' i) : Kept a b S' :=
  ⟨h.os, h.tape, h.output, h.size, fun i hi hn => h.block i hi (fun e => hn (hs i hi e))⟩
theorem Kept.below {w w' : World} {S : Nat → Prop} {B : Nat} (h : Kept w w' S) (hB : B ≤ w.heap.size) (hs : ∀ i, i < B → ¬ S i) : Below B w w' :=
  ⟨h.os, h.tape, h.output, h.size, fun k hk => h.block k (by omega) (hs k hk)⟩
theorem kept_of_below {w w' : World} (h : Below w.heap.size w w') (S : Nat → Prop) : Kept w w' S := ⟨h.os, h.tape, h.output, h.size, fun k hk _ => h.block k hk⟩
theorem Kept.grown {w w' : World} {row : Option Nat} (h : w.grownBy w' row) : Kept w w' (fun k => row = some k) :=
  ⟨h.os, h.tape, h.output, h.size, fun k hk hn => h.block k hk (fun e => hn e.symm)⟩
theorem Kept.alloc (w : World) (o : Obj) (S : Nat → Prop) : Kept w (w.alloc o) S := ⟨rfl, rfl, rfl, by simp, fun k hk _ => Below.heap_alloc w o k hk⟩
theorem Kept.setCell (w : World) (a : Addr) (u : Value) : Kept w (w.setCell a u) (fun k => k = a.block) :=
  ⟨rfl, rfl, rfl, by simp [World.setCell], fun k _ hn => heap_setCell_other w a k u hn⟩

/-- v' lies where v did, or in new memory. -/
def Moved (w : World) (v v' : Value) : Prop := ∀ k, v'.ownBlock = some k → v.ownBlock = some k ∨ w.heap.size ≤ k
theorem Moved.refl (w : World) (v : Value) : Moved w v v := fun _ h => Or.inl h
theorem Moved.trans {w w1 : World} {v v1 v2 : Value} (h : Moved w v v1) (k : Moved w1 v1 v2) (hs : w.heap.size ≤ w1.heap.size) : Moved w v v2 := by
  intro i hi
  rcases k i hi with h1 | h1
  · exact h i h1
  · exact Or.inr (by omega)

/-- 'append(v, s...)' onto a slice of bytes that lies at the head of a block of its own. -/
theorem wpList_append_bs {P : Program} {w : World} {ops : Array Oper} {rest : List Oper} {o : Oper} {a : Act} {Q : Exit → Act → World → Prop} (hgd : o.guard = none) (s x : Operand) (t : TypeId)
    (ho : o.op = .call { callee := .builtin .append, args := #[s, x], argTypes := #[t, t] })
    (base : Nat) (e : TypeId) (i : TypeInfo) (ht : P.underlying t = some (.slice e)) (hi : P.info? e = some i) (hz : i.zero = some (.int .u8 0)) (hsize : i.size = 1) (hby : i.bytes = 1)
    (v : Value) (n : Nat) (l : List UInt8) (hs : a.eval s = v) (hn : n = l.length) (hown : w.ownsRow base e 1 v n (l.map bv))
    (sv : Value) (hx : a.eval x = sv) (m : List UInt8) (hsv : Bs w sv m) (hlen : n + m.length ≤ 140737488355328) (hbase : base ≤ w.heap.size)
    (h : ∀ v' w', w'.ownsRow base e 1 v' (l ++ m).length ((l ++ m).map bv) → Kept w w' (fun k => v.ownBlock = some k) → Moved w v v' → wpList P ops Q rest (a.put o.dst v') w') :
    wpList P ops Q (o :: rest) a w := by
  subst hn
  obtain ⟨ao, cap, rfl, hc, hxx⟩ := hsv
  cases ao with
  | none =>
    have hm : m.length = 0 := by have := hc.2 rfl; omega
    have hm' : m = [] := List.eq_nil_of_length_eq_zero hm
    subst hm'
    have h0 : cap = 0 := hc.2 rfl
    subst h0
    refine wpList_append_own_none hgd s x t ho base e i 1 ht hi v l.length (l.map bv) hs hown hx ?_
    exact h v w (by simpa using hown) (Kept.refl _ _) (Moved.refl _ _)
  | some ad =>
    refine wpList_append_own_at w hgd s x t ho base e i (.int .u8 0) 1 1 ht hi hz hsize hby rfl (by decide) v l.length (l.map bv) hs hown ad m.length cap (m.map bv) hx (by simp) ?_ (bv_oneCell m) (by unfold maxLen; omega) (by omega) hbase ?_
    · intro j u hu
      have hne : m ≠ [] := by intro e; subst e; simp at hu
      obtain ⟨b, off, e, _, hseg⟩ := hxx hne
      cases e
      exact hseg.src j u hu
    · intro v' w' h1 h2 _ h4
      refine h v' w' (by simpa using h1) (Kept.grown h2) ?_
      intro k hk
      rcases h4 with h4 | h4
      · exact Or.inl (h4 ▸ hk)
      · rw [h4] at hk
        simp only [Option.some.injEq] at hk
        exact Or.inr (by omega)

/-- One element in a block of its own, as append lays it. -/
theorem Bs.one (w : World) (x : UInt8) (t : TypeId) : Bs (w.alloc (.cells #[.int .u8 (x.toNat : Int)] t)) (.slice (some ⟨w.heap.size, 0, none⟩) 1 1) [x] :=
  Bs.ofBlock (l := [x]) (heap_alloc_new w _) rfl (by simp)

theorem own_form {w : World} {base : Nat} {e : TypeId} {v : Value} {n : Nat} {xs : List Value} (h : w.ownsRow base e 1 v n xs) : ∃ ao n' c, v = .slice ao n' c := by
  rcases h.2 with ⟨rfl, _⟩ | ⟨g, cap, cur, rfl, _⟩
  · exact ⟨_, _, _, rfl⟩
  · exact ⟨_, _, _, rfl⟩

theorem Bs.kept {w w' : World} {v : Value} {l : List UInt8} {S : Nat → Prop} (h : Bs w v l) (hk : Kept w w' S) (hs : ∀ k, l ≠ [] → v.ownBlock = some k → k < w.heap.size → ¬ S k) : Bs w' v l := by
  obtain ⟨ao, cap, rfl, hc, hx⟩ := h
  refine ⟨ao, cap, rfl, hc, fun hl => ?_⟩
  obtain ⟨b, off, rfl, hlt, hseg⟩ := hx hl
  exact ⟨b, off, rfl, Nat.lt_of_lt_of_le hlt hk.size, hseg.block (hk.block b hlt (hs b hl rfl hlt))⟩

theorem own_below {w w' : World} {base : Nat} {e : TypeId} {v : Value} {n : Nat} {xs : List Value} (h : w.ownsRow base e 1 v n xs) (hk : Kept w w' (fun k => v.ownBlock = some k)) (hb : base ≤ w.heap.size) : Below base w w' :=
  hk.below hb (fun i hi e => by have := h.lt i e; omega)

end Go.Proofs.YtdafpfdmnccelaaDoor
