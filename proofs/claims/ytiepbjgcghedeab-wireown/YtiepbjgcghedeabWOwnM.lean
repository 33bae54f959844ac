/- What is decoded is new memory: what stays while it is written into. -/
import Derived.Test.YtiepbjgcghedeabWBackM
import Derived.Test.YtiepbjgcghedeabWShortP
import Derived.Test.YtiepbjgcghedeabWDecOk
import Derived.Test.YtiepbjgcghedeabWKnowP
namespace Go.Proofs.Ytiepbjgcghedeab
open Go.RowKit

theorem MAt.kept {w w' : World} {b : Nat} {m : Msg} {ro lo : Option Addr} {rc lc : Nat} (h : MAt w b m ro lo rc lc) (hb : w'.heap[b]? = w.heap[b]?) (hs : w.heap.size ≤ w'.heap.size) : MAt w' b m ro lo rc lc := by
  refine ⟨Nat.lt_of_lt_of_le h.lt hs, fun j v hv => (World.cell?_of_block (a := ⟨b, 0 + j, none⟩) hb).trans (h.rng j v hv), fun j hj => ?_⟩
  have ht := h.th j hj
  refine ⟨?_, ?_⟩
  · rw [World.cell?_of_block (a := ⟨b, 0 + j, none⟩) hb]; exact ht.1
  · rw [World.frozen?_of_block (a := ⟨b, 0 + j, none⟩) hb]; exact ht.2

/-- A block of at least n cells of type T that may be written. -/
def WT (w : World) (k : Nat) (T : TypeId) (n : Nat) : Prop := ∃ c : Array Value, w.heap[k]? = some (.cells c T (0, 0)) ∧ n ≤ c.size
theorem WT.at {w : World} {k n : Nat} {T : TypeId} (h : WT w k T n) (j : Nat) (hj : j < n) : (∃ u, w.cell? ⟨k, j, none⟩ = some u) ∧ w.frozen? ⟨k, j, none⟩ = false := by
  obtain ⟨c, hc, hs⟩ := h
  refine ⟨⟨c[j]'(by omega), ?_⟩, frozen_of_row w k j _ _ hc⟩
  rw [cell_of_row w k j _ _ _ hc, Array.getElem?_eq_getElem (by omega)]
theorem WT.set {w : World} {k n : Nat} {T : TypeId} (h : WT w k T n) (q j : Nat) (u : Value) : WT (w.setCell ⟨q, j, none⟩ u) k T n := by
  obtain ⟨c, hc, hn⟩ := h
  by_cases e : q = k
  · subst e
    exact ⟨_, heap_setCell_same w q j _ _ u hc, by simpa using hn⟩
  · exact ⟨c, (heap_setCell_other w _ k u (fun h => e h.symm)).trans hc, hn⟩
theorem WT.below {w w' : World} {k n : Nat} {T : TypeId} (h : WT w k T n) (hb : Below w.heap.size w w') : WT w' k T n := by
  obtain ⟨c, hc, hn⟩ := h
  exact ⟨c, (hb.block k (Array.getElem?_eq_some_iff.1 hc).1).trans hc, hn⟩

/-- All that must stay, and what may be written. -/
structure OI (w W : World) (bx xb yb kb n C : Nat) (m : Msg) (ro lo ro2 lo2 ro4 lo4 : Option Addr) (rc lc rc2 lc2 rc4 lc4 : Nat) : Prop where
  mb : MAt W bx m ro lo rc lc
  mx : MAt W xb m ro2 lo2 rc2 lc2
  my : MAt W yb m ro4 lo4 rc4 lc4
  yr : RowI W ro4 rc4 m.refs C
  yl : RowU W lo4 lc4 m.list C
  xr : ∀ k, ro2 = some ⟨k, 0, none⟩ → WT W k 24 (m.refs.length * 2)
  xl : ∀ k, lo2 = some ⟨k, 0, none⟩ → WT W k 22 m.list.length
  bb : WT W kb 5 n
  bel : Below w.heap.size w W

section
variable {w W W' : World} {bx xb yb kb n C : Nat} {m : Msg} {ro lo ro2 lo2 ro4 lo4 : Option Addr} {rc lc rc2 lc2 rc4 lc4 : Nat}
theorem OI.set (h : OI w W bx xb yb kb n C m ro lo ro2 lo2 ro4 lo4 rc lc rc2 lc2 rc4 lc4) (q j : Nat) (u : Value) (h1 : q ≠ bx) (h2 : q ≠ xb) (h3 : q ≠ yb) (h4 : q < C) (h5 : w.heap.size ≤ q) : OI w (W.setCell ⟨q, j, none⟩ u) bx xb yb kb n C m ro lo ro2 lo2 ro4 lo4 rc lc rc2 lc2 rc4 lc4 := by
  have hk : Kept W (W.setCell ⟨q, j, none⟩ u) (fun k => k = q) := Kept.setCell _ _ _
  have hs : W.heap.size ≤ (W.setCell ⟨q, j, none⟩ u).heap.size := hk.size
  exact ⟨h.mb.kept (heap_setCell_other W _ bx u (fun e => h1 e.symm)) hs, h.mx.kept (heap_setCell_other W _ xb u (fun e => h2 e.symm)) hs, h.my.kept (heap_setCell_other W _ yb u (fun e => h3 e.symm)) hs,
    h.yr.keep hk (fun k hk e => by have e' : k = q := e; omega), h.yl.keep hk (fun k hk e => by have e' : k = q := e; omega), fun k e => (h.xr k e).set q j u, fun k e => (h.xl k e).set q j u, h.bb.set q j u, h.bel.setCell (by simpa using h5) _⟩
theorem OI.below (h : OI w W bx xb yb kb n C m ro lo ro2 lo2 ro4 lo4 rc lc rc2 lc2 rc4 lc4) (hb : Below W.heap.size W W') : OI w W' bx xb yb kb n C m ro lo ro2 lo2 ro4 lo4 rc lc rc2 lc2 rc4 lc4 :=
  ⟨h.mb.below hb h.mb.lt, h.mx.below hb h.mx.lt, h.my.below hb h.my.lt, h.yr.keep (kept_of_below hb (fun _ => False)) (fun _ _ e => e), h.yl.keep (kept_of_below hb (fun _ => False)) (fun _ _ e => e),
    fun k e => (h.xr k e).below hb, fun k e => (h.xl k e).below hb, h.bb.below hb, h.bel.trans (hb.mono h.bel.size)⟩
end

theorem RowI.wt {w : World} {ao : Option Addr} {c B : Nat} {xs : List (Int × Nat)} (h : RowI w ao c xs B) : ∀ k, ao = some ⟨k, 0, none⟩ → B ≤ k ∧ k < w.heap.size ∧ WT w k 24 (xs.length * 2) := by
  intro k hk
  rcases h with ⟨h1, _⟩ | ⟨k', h1, _, h3, h4⟩
  · rw [h1] at hk; cases hk
  · rw [h1] at hk
    simp only [Option.some.injEq, Addr.mk.injEq, and_true] at hk
    subst hk
    exact ⟨h3, (Array.getElem?_eq_some_iff.1 h4).1, _, h4, by rw [List.size_toArray, length_flat2 idCells (fun _ => rfl)]; exact Nat.le_refl _⟩
theorem RowU.wt {w : World} {ao : Option Addr} {c B : Nat} {xs : List Nat} (h : RowU w ao c xs B) : ∀ k, ao = some ⟨k, 0, none⟩ → B ≤ k ∧ k < w.heap.size ∧ WT w k 22 xs.length := by
  intro k hk
  rcases h with ⟨h1, _⟩ | ⟨k', h1, _, h3, h4⟩
  · rw [h1] at hk; cases hk
  · rw [h1] at hk
    simp only [Option.some.injEq, Addr.mk.injEq, and_true] at hk
    subst hk
    exact ⟨h3, (Array.getElem?_eq_some_iff.1 h4).1, _, h4, by simp⟩
theorem RowI.some {w : World} {ao : Option Addr} {c B : Nat} {xs : List (Int × Nat)} (h : RowI w ao c xs B) (hne : 0 < xs.length) : ∃ k, ao = some ⟨k, 0, none⟩ := by
  rcases h with ⟨_, _, h1⟩ | ⟨k', h1, _⟩
  · rw [h1] at hne; simp at hne
  · exact ⟨k', h1⟩
theorem RowU.some {w : World} {ao : Option Addr} {c B : Nat} {xs : List Nat} (h : RowU w ao c xs B) (hne : 0 < xs.length) : ∃ k, ao = some ⟨k, 0, none⟩ := by
  rcases h with ⟨_, _, h1⟩ | ⟨k', h1, _⟩
  · rw [h1] at hne; simp at hne
  · exact ⟨k', h1⟩

theorem own_wt {w : World} {g n : Nat} {v : Value} {T : TypeId} {xs : List Value} (h : w.ownsRow g T 1 v n xs) (hn : 0 < n) : ∃ k cap, v = .slice (some ⟨k, 0, none⟩) n cap ∧ n ≤ cap ∧ g ≤ k ∧ k < w.heap.size ∧ WT w k T n := by
  rcases h.2 with ⟨_, h0⟩ | ⟨k, cap, cur, hv, hb, hg, hnc, hcm, hs, ht⟩
  · omega
  · exact ⟨k, cap, hv, hnc, hb, (Array.getElem?_eq_some_iff.1 hg).1, cur, hg, by omega⟩

theorem WT.there {w : World} {k n : Nat} {T : TypeId} (h : WT w k T n) (o c : Nat) (ho : o + c ≤ n) : w.there k o c := by
  intro j hj
  have := h.at (o + j) (by omega)
  exact ⟨by rw [this.1.choose_spec]; rfl, this.2⟩

theorem OI.sets {w : World} {bx xb yb kb n C : Nat} {m : Msg} {ro lo ro2 lo2 ro4 lo4 : Option Addr} {rc lc rc2 lc2 rc4 lc4 : Nat} (q : Nat) (h1 : q ≠ bx) (h2 : q ≠ xb) (h3 : q ≠ yb) (h4 : q < C) (h5 : w.heap.size ≤ q) :
    ∀ (vs : List Value) (j : Nat) (W : World), OI w W bx xb yb kb n C m ro lo ro2 lo2 ro4 lo4 rc lc rc2 lc2 rc4 lc4 → OI w (W.setCells q j vs) bx xb yb kb n C m ro lo ro2 lo2 ro4 lo4 rc lc rc2 lc2 rc4 lc4
  | [], _, _, h => h
  | v :: vs, j, _, h => OI.sets q h1 h2 h3 h4 h5 vs (j + 1) _ (h.set q j v h1 h2 h3 h4 h5)

/-- An ID is stored, whole. -/
theorem store_id {ops : Array Oper} {rest : List Oper} {op : Oper} {a : Act} {w : World} {Q : Exit → Act → World → Prop} (x y : Operand) (ho : op.op = .store 24 x y) (hgd : op.guard = none)
    (b o : Nat) (hx : a.eval x = .pointer (some ⟨b, o, none⟩)) (z s : Int) (hy : a.eval y = .agg #[.int .i64 z, .int .u64 s]) (ht : w.there b o 2)
    (h : wpList Try.prog ops Q rest (a.put op.dst undef) (w.setCells b o [.int .i64 z, .int .u64 s])) : wpList Try.prog ops Q (op :: rest) a w :=
  wpList_store_mid hgd 24 x y ho b o #[.int .i64 z, .int .u64 s] hx hy ht id_size (all_oneCell_toArray (by intro v hv; simp at hv; rcases hv with rfl | rfl <;> rfl)) h

end Go.Proofs.Ytiepbjgcghedeab
