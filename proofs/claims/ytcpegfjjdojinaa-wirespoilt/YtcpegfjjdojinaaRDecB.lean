/- The plain Decode: how far the reading of a message's fields has come. -/
import Derived.Test.YtcpegfjjdojinaaRDecA
import Derived.Test.YtcpegfjjdojinaaWSet
import Derived.Test.YtcpegfjjdojinaaWReadF
namespace Go.Proofs.Ytcpegfjjdojinaa
open Go.RowKit

theorem hiddenR {p : Prop} (h : p) : Hid p := h
theorem own_keptR {w w' : World} {base : Nat} {e : TypeId} {sz : Nat} {v : Value} {n : Nat} {xs : List Value} {S : Nat → Prop} (h : w.ownsRow base e sz v n xs) (hk : Kept w w' S) (hs : ∀ k, v.ownBlock = some k → ¬ S k) : w'.ownsRow base e sz v n xs := by
  refine ⟨h.1, ?_⟩
  rcases h.2 with h2 | ⟨g, cap, cur, rfl, hb, hg, h5⟩
  · exact Or.inl h2
  · exact Or.inr ⟨g, cap, cur, rfl, hb, (hk.block g (Array.getElem?_eq_some_iff.1 hg).1 (hs g rfl)).trans hg, h5⟩
theorem own_geR {w : World} {base : Nat} {e : TypeId} {sz : Nat} {v : Value} {n : Nat} {xs : List Value} (h : w.ownsRow base e sz v n xs) : ∀ k, v.ownBlock = some k → base ≤ k ∧ k < w.heap.size := by
  intro k hk
  rcases h.2 with ⟨rfl, _⟩ | ⟨g, cap, cur, rfl, hb, hg, _⟩
  · simp [Value.ownBlock] at hk
  · simp only [Value.ownBlock, Option.some.injEq] at hk
    subst hk
    exact ⟨hb, (Array.getElem?_eq_some_iff.1 hg).1⟩

/-- Where the Reader, its bytes and the message lie. -/
structure F0 (w : World) (fb cap : Nat) (ao : Option Addr) (L : List UInt8) (mb : Nat) : Prop where
  fl : fb < w.heap.size
  ml : mb < w.heap.size
  ne : fb ≠ mb
  row : ∀ k, L ≠ [] → (Value.slice ao L.length cap).ownBlock = some k → k < w.heap.size ∧ k ≠ mb

/-- The message m, read up to p; the field's box lies in the first new block, the rows of refs and list behind it. -/
structure FS (w W : World) (fb cap : Nat) (ao : Option Addr) (L : List UInt8) (mb : Nat) (k : Int) (m : Msg) (ro lo : Option Addr) (rc lc : Nat) (p e : Nat) : Prop where
  rd : RF W fb ao cap L p e
  ms : MAt W mb m ro lo rc lc
  bx : W.heap[w.heap.size]? = some (.cells #[.int .i64 k, .pointer (some ⟨fb, 0, none⟩)] 99 (0, 0))
  kp : Kept w W (fun j => j = fb ∨ j = mb)
  rr : W.ownsRow (w.heap.size + 1) 24 2 (.slice ro m.refs.length rc) m.refs.length (m.refs.flatMap idCells)
  rl : W.ownsRow (w.heap.size + 1) 22 1 (.slice lo m.list.length lc) m.list.length (m.list.map nv64)
  ap : ∀ j, (Value.slice ro m.refs.length rc).ownBlock = some j → (Value.slice lo m.list.length lc).ownBlock ≠ some j

section
variable {w W W' : World} {fb cap mb : Nat} {ao : Option Addr} {L : List UInt8} {k : Int} {m : Msg} {ro lo : Option Addr} {rc lc : Nat} {p e : Nat}
theorem FS.lt (h : FS w W fb cap ao L mb k m ro lo rc lc p e) : w.heap.size < W.heap.size := (Array.getElem?_eq_some_iff.1 h.bx).1
/-- What changes old blocks other than these alone. -/
theorem FS.move (h0 : F0 w fb cap ao L mb) (h : FS w W fb cap ao L mb k m ro lo rc lc p e) {S : Nat → Prop} (hk : Kept W W' S) (hS : ∀ j, S j → j = fb ∨ j = mb) {p' e' : Nat} {m' : Msg} (hr : RF W' fb ao cap L p' e') (hm : MAt W' mb m' ro lo rc lc) (h1 : m'.refs = m.refs) (h2 : m'.list = m.list) : FS w W' fb cap ao L mb k m' ro lo rc lc p' e' := by
  have hlt := h.lt
  have hf := h0.fl
  have hml := h0.ml
  have hS2 : ∀ j, w.heap.size ≤ j → ¬ S j := fun j hj x => by rcases hS j x with e | e <;> omega
  refine ⟨hr, hm, (hk.block _ hlt (hS2 _ (Nat.le_refl _))).trans h.bx, h.kp.trans hk (fun i _ x => hS i x), ?_, ?_, ?_⟩
  · rw [h1]; exact own_keptR h.rr hk (fun j hj => hS2 j (by have := (own_geR h.rr j hj).1; omega))
  · rw [h2]; exact own_keptR h.rl hk (fun j hj => hS2 j (by have := (own_geR h.rl j hj).1; omega))
  · rw [h1, h2]; exact h.ap
/-- The Reader reads on. -/
theorem FS.read (h0 : F0 w fb cap ao L mb) (h : FS w W fb cap ao L mb k m ro lo rc lc p e) {p' e' : Nat} (ht : FTo W W' fb ao cap L p' e') : FS w W' fb cap ao L mb k m ro lo rc lc p' e' :=
  h.move h0 ht.kept (fun _ e => Or.inl e) ht.rd (h.ms.keep ht.kept (fun e => h0.ne e.symm)) rfl rfl
/-- What is new alone. -/
theorem FS.below (h0 : F0 w fb cap ao L mb) (h : FS w W fb cap ao L mb k m ro lo rc lc p e) (hb : Below W.heap.size W W') : FS w W' fb cap ao L mb k m ro lo rc lc p e :=
  h.read h0 (FTo.ofBelow h.rd hb)
/-- A cell of the message is set. -/
theorem FS.put (h0 : F0 w fb cap ao L mb) (h : FS w W fb cap ao L mb k m ro lo rc lc p e) (m' : Msg) (j : Nat) (u : Value) (hj : j < 19) (hm : m'.cl ro lo rc lc = (m.cl ro lo rc lc).set j u) (h1 : m'.refs = m.refs) (h2 : m'.list = m.list) : FS w (W.setCell ⟨mb, j, none⟩ u) fb cap ao L mb k m' ro lo rc lc p e :=
  h.move h0 (Kept.setCell W ⟨mb, j, none⟩ u) (fun _ e => Or.inr e) (h.rd.keep (Kept.setCell W ⟨mb, j, none⟩ u) (fun e => h0.ne e) (fun i hne hi _ e => (h0.row i hne hi).2 e)) (h.ms.set j u hj hm) h1 h2
end

/-- An ID is stored, whole. -/
theorem store_idR {ops : Array Oper} {rest : List Oper} {op : Oper} {a : Act} {w : World} {Q : Exit → Act → World → Prop} (x y : Operand) (ho : op.op = .store 24 x y) (hgd : op.guard = none)
    (b o : Nat) (hx : a.eval x = .pointer (some ⟨b, o, none⟩)) (i : Int × Nat) (hy : a.eval y = idv i) (ht : w.there b o 2)
    (h : wpList Try.prog ops Q rest (a.put op.dst undef) ((w.setCell ⟨b, o, none⟩ (.int .i64 i.1)).setCell ⟨b, o + 1, none⟩ (.int .u64 (i.2 : Int)))) : wpList Try.prog ops Q (op :: rest) a w :=
  wpList_store_mid hgd 24 x y ho b o #[.int .i64 i.1, .int .u64 (i.2 : Int)] hx hy ht id_size (all_oneCell_toArray (by intro v hv; simp at hv; rcases hv with rfl | rfl <;> rfl)) h
theorem MAt.there8 {w : World} {b : Nat} {m : Msg} {ro lo : Option Addr} {rc lc : Nat} (h : MAt w b m ro lo rc lc) : w.there b 8 2 := by
  intro j hj
  have := h.th (8 + j) (by omega)
  rwa [Nat.zero_add] at this

section
variable {w W W4 : World} {fb cap mb : Nat} {ao : Option Addr} {L : List UInt8} {k : Int} {m : Msg} {ro lo : Option Addr} {rc lc : Nat} {p e : Nat}
/-- An ID is put behind the refs. -/
theorem FS.pushR (h0 : F0 w fb cap ao L mb) (h : FS w W fb cap ao L mb k m ro lo rc lc p e) (x : Int × Nat) {g c4 : Nat} (ho : W4.ownsRow (w.heap.size + 1) 24 2 (.slice (some ⟨g, 0, none⟩) (m.refs.length + 1) c4) (m.refs.length + 1) (m.refs.flatMap idCells ++ idCells x))
    (hk : Kept W W4 (fun j => (Value.slice ro m.refs.length rc).ownBlock = some j)) (hg : (Value.slice ro m.refs.length rc).ownBlock = some g ∨ W.heap.size ≤ g) :
    FS w (W4.setCell ⟨mb, 10, none⟩ (.slice (some ⟨g, 0, none⟩) (m.refs.length + 1) c4)) fb cap ao L mb k { m with refs := m.refs ++ [x] } (some ⟨g, 0, none⟩) lo c4 lc p e := by
  have hf := h0.fl
  have hml := h0.ml
  have hlt := h.lt
  have hS : ∀ j, (Value.slice ro m.refs.length rc).ownBlock = some j → w.heap.size + 1 ≤ j := fun j hj => (own_geR h.rr j hj).1
  have hs4 := hk.size
  have r4 : RF W4 fb ao cap L p e := h.rd.keep hk (fun x => by have := hS _ x; omega) (fun i hne hi _ x => by have := hS _ x; have := (h0.row i hne hi).1; omega)
  have m4 : MAt W4 mb m ro lo rc lc := h.ms.keep hk (fun x => by have := hS _ x; omega)
  have b4 := (hk.block _ hlt (fun x => by have := hS _ x; omega)).trans h.bx
  have k4 : Kept w W4 (fun j => j = fb ∨ j = mb) := h.kp.trans hk (fun i hi x => by have := hS _ x; omega)
  have l4 := own_keptR h.rl hk (fun j hj x => h.ap j x hj)
  have kc := Kept.setCell W4 ⟨mb, 10, none⟩ (.slice (some ⟨g, 0, none⟩) (m.refs.length + 1) c4)
  refine ⟨r4.keep kc (fun e => h0.ne e) (fun i hne hi _ e => (h0.row i hne hi).2 e), m4.set 10 _ (by omega) (by simp [Msg.cl]), (kc.block _ (by omega) (fun e => by have e' : w.heap.size = mb := e; omega)).trans b4, k4.trans kc (fun i _ e => Or.inr e), ?_, ?_, ?_⟩
  · have := own_keptR ho kc (fun j hj e => by have := (own_geR ho j hj).1; have e' : j = mb := e; omega)
    simpa using this
  · exact own_keptR l4 kc (fun j hj e => by have := (own_geR h.rl j hj).1; have e' : j = mb := e; omega)
  · intro j hj
    simp only [Value.ownBlock, Option.some.injEq] at hj
    subst hj
    rcases hg with hg | hg
    · exact h.ap g hg
    · intro e
      have := (own_geR h.rl g e).2
      omega
/-- A number is put behind the list. -/
theorem FS.pushL (h0 : F0 w fb cap ao L mb) (h : FS w W fb cap ao L mb k m ro lo rc lc p e) (x : Nat) {g c4 : Nat} (ho : W4.ownsRow (w.heap.size + 1) 22 1 (.slice (some ⟨g, 0, none⟩) (m.list.length + 1) c4) (m.list.length + 1) (m.list.map nv64 ++ [nv64 x]))
    (hk : Kept W W4 (fun j => (Value.slice lo m.list.length lc).ownBlock = some j)) (hg : (Value.slice lo m.list.length lc).ownBlock = some g ∨ W.heap.size ≤ g) :
    FS w (W4.setCell ⟨mb, 18, none⟩ (.slice (some ⟨g, 0, none⟩) (m.list.length + 1) c4)) fb cap ao L mb k { m with list := m.list ++ [x] } ro (some ⟨g, 0, none⟩) rc c4 p e := by
  have hf := h0.fl
  have hml := h0.ml
  have hlt := h.lt
  have hS : ∀ j, (Value.slice lo m.list.length lc).ownBlock = some j → w.heap.size + 1 ≤ j := fun j hj => (own_geR h.rl j hj).1
  have hs4 := hk.size
  have r4 : RF W4 fb ao cap L p e := h.rd.keep hk (fun x => by have := hS _ x; omega) (fun i hne hi _ x => by have := hS _ x; have := (h0.row i hne hi).1; omega)
  have m4 : MAt W4 mb m ro lo rc lc := h.ms.keep hk (fun x => by have := hS _ x; omega)
  have b4 := (hk.block _ hlt (fun x => by have := hS _ x; omega)).trans h.bx
  have k4 : Kept w W4 (fun j => j = fb ∨ j = mb) := h.kp.trans hk (fun i hi x => by have := hS _ x; omega)
  have l4 := own_keptR h.rr hk (fun j hj x => h.ap j hj x)
  have kc := Kept.setCell W4 ⟨mb, 18, none⟩ (.slice (some ⟨g, 0, none⟩) (m.list.length + 1) c4)
  refine ⟨r4.keep kc (fun e => h0.ne e) (fun i hne hi _ e => (h0.row i hne hi).2 e), m4.set 18 _ (by omega) (by simp [Msg.cl]), (kc.block _ (by omega) (fun e => by have e' : w.heap.size = mb := e; omega)).trans b4, k4.trans kc (fun i _ e => Or.inr e), ?_, ?_, ?_⟩
  · exact own_keptR l4 kc (fun j hj e => by have := (own_geR h.rr j hj).1; have e' : j = mb := e; omega)
  · have := own_keptR ho kc (fun j hj e => by have := (own_geR ho j hj).1; have e' : j = mb := e; omega)
    simpa using this
  · intro j hj e
    simp only [Value.ownBlock, Option.some.injEq] at e
    subst e
    rcases hg with hg | hg
    · exact h.ap g hj hg
    · have := (own_geR h.rr g hj).2
      omega
end

theorem Msg.norefs (M : Msg) (h : M.refs = []) : ({ M with refs := [] } : Msg) = M := by cases M; simp at h; subst h; rfl
theorem Msg.nolist (M : Msg) (h : M.list = []) : ({ M with list := [] } : Msg) = M := by cases M; simp at h; subst h; rfl

theorem cell_two_new (w : World) (a b : Value) (t : TypeId) : ∀ j u, [a, b][j]? = some u → (w.alloc (.cells #[a, b] t)).cell? ((⟨w.heap.size, 0, none⟩ : Addr).add j) = some u := by
  intro j u hj
  rw [Addr.add_at, cell_of_row _ _ _ _ _ _ (heap_alloc_new w _)]
  simpa using hj
theorem idCells_one1 (x : Int × Nat) : ∀ u ∈ idCells x, u.oneCell' = true := by
  intro u hu
  simp only [idCells, List.mem_cons, List.not_mem_nil, or_false] at hu
  rcases hu with rfl | rfl <;> rfl

end Go.Proofs.Ytcpegfjjdojinaa
