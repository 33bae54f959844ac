/- CodecOne: the walk. -/
import Derived.Test.YtmnnpbijifoagabOneMath
import Derived.Test.YtmnnpbijifoagabOwn4
import Derived.Test.YtmnnpbijifoagabWalkF
import Derived.Deep.RegionHeld
namespace Go.Proofs.Ytmnnpbijifoagab
open Go.RowKit

/-- A slice of numbers. -/
def Nums (w : World) (v : Value) (zs : List Int) : Prop :=
  ∃ ao cap, v = .slice ao zs.length cap ∧ (zs ≠ [] → ∃ blk off, ao = some ⟨blk, off, none⟩ ∧ blk < w.heap.size ∧ ∀ i (hi : i < zs.length), w.cell? ⟨blk, off + i, none⟩ = some (.int .i64 zs[i]))

/-- One thing that was read, and where its text lies. -/
def oneCells (x : LayD × Value) : List Value := [.int .i64 x.1.what, .int .u8 (x.1.b.toNat : Int), .int .u64 (x.1.n : Int), x.2]
/-- A text that lies in memory of its own, behind the Reader. -/
def Lone (w : World) (rb : Nat) (v : Value) (t : List UInt8) : Prop :=
  (v = .slice none 0 0 ∧ t = []) ∨ ∃ k, rb < k ∧ v = .slice (some ⟨k, 0, none⟩) t.length t.length ∧ w.heap[k]? = some (.cells (t.map bv).toArray 5 (0, 0))
theorem Lone.bs {w : World} {rb : Nat} {v : Value} {t : List UInt8} (h : Lone w rb v t) : Bs w v t := by
  rcases h with ⟨rfl, rfl⟩ | ⟨k, _, rfl, hg⟩
  · exact Bs.nil _
  · exact Bs.ofBlock hg (List.take_of_length_le (by simp)) (Nat.le_refl _)
theorem Lone.kept {w w' : World} {rb : Nat} {v : Value} {t : List UInt8} {S : Nat → Prop} (h : Lone w rb v t) (hk : Kept w w' S) (hs : ∀ k cs, rb < k → w.heap[k]? = some (.cells cs 5 (0, 0)) → ¬ S k) : Lone w' rb v t := by
  rcases h with h | ⟨k, hlt, rfl, hg⟩
  · exact Or.inl h
  · exact Or.inr ⟨k, hlt, rfl, (hk.block k (Array.getElem?_eq_some_iff.1 hg).1 (hs k _ hlt hg)).trans hg⟩
theorem NewBs.lone {w w' : World} {rb : Nat} {v : Value} {t : List UInt8} (h : NewBs w w' v t) (hr : rb < w.heap.size) : Lone w' rb v t := by
  rcases h with h | ⟨k, hk, rfl, hg⟩
  · exact Or.inl h
  · exact Or.inr ⟨k, by omega, rfl, hg⟩
theorem Lone.oneCell {w : World} {rb : Nat} {v : Value} {t : List UInt8} (h : Lone w rb v t) : v.oneCell' = true := by
  rcases h with ⟨rfl, _⟩ | ⟨k, _, rfl, _⟩ <;> rfl

/-- What was read so far. -/
structure Got (w : World) (base rb g : Nat) (v : Value) (k : Nat) (qs : List (LayD × Value)) (L : List UInt8) (p e : Nat) : Prop where
  own : w.ownsRow base 47 4 v k (qs.flatMap oneCells)
  len : qs.length = k
  rd : RD w rb g L p e
  same : Same L p e (qs.map Prod.fst)
  base : rb < base
  texts : ∀ x ∈ qs, Lone w rb x.2 x.1.t ∧ x.1.n < 18446744073709551616

theorem Got.lays {w : World} {base rb g : Nat} {v : Value} {k : Nat} {qs : List (LayD × Value)} {L : List UInt8} {p e : Nat} (h : Got w base rb g v k qs L p e) : Lays w v (qs.map Prod.fst) := by
  obtain ⟨hown, hlen, _, _, _, htx⟩ := h
  subst hlen
  obtain ⟨_, ⟨rfl, h0⟩ | ⟨b, cap, cur, rfl, hb, hg, hn, hm, hs, htk⟩⟩ := hown
  · have : qs = [] := List.eq_nil_of_length_eq_zero h0
    subst this
    exact ⟨none, 0, rfl, fun h => absurd rfl h⟩
  · refine ⟨_, cap, by rw [List.length_map], fun _ => ⟨b, 0, rfl, (Array.getElem?_eq_some_iff.1 hg).1, fun i hi => ?_⟩⟩
    rw [List.length_map] at hi
    have hc : ∀ j, j < 4 → w.cell? ⟨b, 0 + i * 4 + j, none⟩ = (oneCells qs[i])[j]? := by
      intro j hj
      rw [cell_of_row w b _ _ _ _ hg, ← flat4 oneCells (fun _ => rfl) qs i j hi hj, ← htk, List.getElem?_take, if_pos (by omega), Nat.zero_add]
      simp
    have ht := htx _ (List.getElem_mem hi)
    simp only [List.getElem_map]
    exact ⟨by simpa [oneCells] using hc 0 (by omega), by simpa [oneCells] using hc 1 (by omega), by simpa [oneCells] using hc 2 (by omega), ⟨_, by simpa [oneCells] using hc 3 (by omega), ht.1.bs⟩, ht.2⟩

theorem Try.infoLay : (Try.prog.info? 47).map (fun i => (i.zero, i.size, i.bytes)) = some (some (.agg #[.int .i64 0, .int .u8 0, .int .u64 0, .slice none 0 0]), 4, 48) := by kernel_rfl

/-- The variable's own block stays as it is while the Reader goes on. -/
theorem RTo.box {wr w4 : World} {o : Obj} {rb g : Nat} {L : List UInt8} {p e : Nat} (h : RTo (wr.alloc o) w4 rb g L p e) (hrb : rb < wr.heap.size) : w4.heap[wr.heap.size]? = some o :=
  (h.kept.block wr.heap.size (by simp) (by omega)).trans (heap_alloc_new wr o)

theorem own_type {w : World} {base : Nat} {e : TypeId} {sz : Nat} {v : Value} {n : Nat} {xs : List Value} (h : w.ownsRow base e sz v n xs) : ∀ k, v.ownBlock = some k → ∃ cs, w.heap[k]? = some (.cells cs e (0, 0)) := by
  intro k hk
  obtain ⟨_, ⟨rfl, h0⟩ | ⟨g, cap, cur, rfl, hb, hg, _⟩⟩ := h
  · simp [Value.ownBlock] at hk
  · simp only [Value.ownBlock, Option.some.injEq] at hk
    subst hk
    exact ⟨_, hg⟩
theorem not_both {w : World} {k : Nat} {cs cs' : Array Value} (h : w.heap[k]? = some (.cells cs 5 (0, 0))) (h' : w.heap[k]? = some (.cells cs' 47 (0, 0))) : False := by
  rw [h] at h'
  simp at h'

section
variable {wr w4 w6 : World} {base rb g B : Nat} {v v' : Value} {k : Nat} {qs : List (LayD × Value)} {L : List UInt8} {p e p' e' j : Nat} {cs cs2 : Array Value} {u tv : Value} {d : LayD}
theorem kept5 (hto : RTo (wr.alloc (.cells cs 47)) w4 rb g L p' e') : Kept wr ((w4.setCell ⟨wr.heap.size, j, none⟩ u).alloc (.cells cs2 47)) (fun k => k = rb) := by
  refine (Kept.alloc wr (.cells cs 47) (fun k => k = rb)).trans (S' := fun k => k = rb ∨ k = wr.heap.size) ?_ (fun i hi h => h.resolve_right (by omega))
  refine (hto.kept.mono (S' := fun k => k = rb ∨ k = wr.heap.size) (fun _ _ h => Or.inl h)).trans (S' := fun k => k = rb ∨ k = wr.heap.size) ?_ (fun _ _ h => h)
  refine ((Kept.setCell w4 ⟨wr.heap.size, j, none⟩ u).mono (S' := fun k => k = rb ∨ k = wr.heap.size) (fun _ _ h => Or.inr h)).trans (S' := fun k => k = rb ∨ k = wr.heap.size) ?_ (fun _ _ h => h)
  exact Kept.alloc _ _ _
theorem Got.own5 (h : Got wr base rb g v k qs L p e) (hto : RTo (wr.alloc (.cells cs 47)) w4 rb g L p' e') : ((w4.setCell ⟨wr.heap.size, j, none⟩ u).alloc (.cells cs2 47)).ownsRow base 47 4 v k (qs.flatMap oneCells) :=
  own_kept h.own (kept5 hto) (fun k hk e => by have := (own_base h.own k hk).1; have := h.base; omega)
theorem Got.next (h : Got wr base rb g v k qs L p e) (hto : RTo (wr.alloc (.cells cs 47)) w4 rb g L p' e') (hsame : Same L p' e' (qs.map Prod.fst ++ [d])) (hn : d.n < 18446744073709551616) (htx : Lone w4 rb tv d.t)
    (hown' : w6.ownsRow base 47 4 v' (k + 1) (qs.flatMap oneCells ++ oneCells (d, tv))) (hgrow : ((w4.setCell ⟨wr.heap.size, j, none⟩ u).alloc (.cells cs2 47)).grownBy w6 v.ownBlock) (hB : B ≤ rb) :
    Got w6 base rb g v' (k + 1) (qs ++ [(d, tv)]) L p' e' ∧ Below B wr w6 := by
  have h5 := h.own5 (j := j) (u := u) (cs2 := cs2) hto
  have hk5 := kept5 (j := j) (u := u) (cs2 := cs2) hto
  have hg6 := Kept.grown hgrow
  have hrb := h.rd.size
  have hgl := h.rd.lt
  have hbase := h.base
  have hbx := fun k hk => (own_base h5 k hk).1
  refine ⟨⟨by simpa using hown', by simp [h.len], ?_, by simpa using hsame, hbase, ?_⟩, ?_⟩
  · refine RD.keep ?_ hg6 (fun e => by have := hbx _ e; omega) (fun e => by have := hbx _ e; omega)
    exact (hto.rd.keep (Kept.setCell w4 _ _) (by simp; omega) (by simp; omega)).below ((Below.refl _ _).alloc (Nat.le_refl _) _)
  · intro x hx
    have h6 : ∀ k cs', rb < k → ((w4.setCell ⟨wr.heap.size, j, none⟩ u).alloc (.cells cs2 47)).heap[k]? = some (.cells cs' 5 (0, 0)) → ¬ (v.ownBlock = some k) := fun k cs' _ hc hv => by
      obtain ⟨_, hc'⟩ := own_type h5 k hv
      exact not_both hc hc'
    rcases List.mem_append.1 hx with h1 | h1
    · have ht := h.texts x h1
      exact ⟨(ht.1.kept hk5 (fun k _ hl _ e => by omega)).kept hg6 h6, ht.2⟩
    · rw [List.mem_singleton.1 h1]
      refine ⟨Lone.kept ?_ hg6 h6, hn⟩
      refine (htx.kept (Kept.setCell w4 _ _) (fun k cs' _ hc e => ?_)).kept (Kept.alloc _ _ (fun _ => False)) (fun _ _ _ _ e => e)
      simp only at e
      subst e
      exact not_both hc (hto.box hrb)
  · exact (hk5.below (by omega) (fun i hi e => by omega)).trans (hg6.below (by have := hk5.size; omega) (fun i hi e => by have := hbx _ e; omega))
end
theorem Got.still {w w' : World} {base rb g : Nat} {v : Value} {k : Nat} {qs : List (LayD × Value)} {L : List UInt8} {p e : Nat} (h : Got w base rb g v k qs L p e) (hto : RTo w w' rb g L p e) : Got w' base rb g v k qs L p e :=
  ⟨own_kept h.own hto.kept (fun k hk e => by have := (own_base h.own k hk).1; have := h.base; omega), h.len, hto.rd, h.same, h.base, fun x hx => ⟨(h.texts x hx).1.kept hto.kept (fun k _ hl _ e => by omega), (h.texts x hx).2⟩⟩
theorem Bs.later1 {w : World} {v : Value} {l : List UInt8} (h : Bs w v l) : ∀ W, Below w.heap.size w W → (convert 30 9 v).run Try.prog W = .ok (.string ⟨l.toArray⟩) W :=
  fun _ hb => (h.below hb).str 30 9 5 Try.underlying30 Try.underlying5 Try.underlying9
theorem cell_four_set (w : World) (q : Addr) (u a b c d : Value) (t : TypeId) : ∀ j x, [a, b, c, d][j]? = some x → ((w.setCell q u).alloc (.cells #[a, b, c, d] t)).cell? ((⟨w.heap.size, 0, none⟩ : Addr).add j) = some x := by
  have e : (w.setCell q u).heap.size = w.heap.size := by simp
  rw [← e]
  exact cell_four_new _ _ _ _ _ _

theorem four_cells {w : World} {g : Nat} {a b c d : Value} {t : TypeId} (h : w.heap[g]? = some (.cells #[a, b, c, d] t (0, 0))) (j : Nat) : w.cell? ⟨g, 0, none⟩ = some a ∧ w.cell? ⟨g, 1, none⟩ = some b ∧ w.cell? ⟨g, 2, none⟩ = some c ∧ w.cell? ⟨g, 3, none⟩ = some d ∧ w.frozen? ⟨g, j, none⟩ = false :=
  ⟨by rw [cell_of_row w g 0 _ _ _ h]; rfl, by rw [cell_of_row w g 1 _ _ _ h]; rfl, by rw [cell_of_row w g 2 _ _ _ h]; rfl, by rw [cell_of_row w g 3 _ _ _ h]; rfl, frozen_of_row w g j _ _ h⟩
theorem rByte_u8 (L : List UInt8) (p e m : Nat) : ∃ x : UInt8, (rByte L p e m).1 = x.toNat := by
  unfold rByte
  split
  · exact ⟨0, rfl⟩
  · split
    · exact ⟨0, rfl⟩
    · split
      · exact ⟨0, rfl⟩
      · exact ⟨_, rfl⟩
theorem oneCells_one {x : LayD × Value} (h : x.2.oneCell' = true) : ∀ u ∈ oneCells x, u.oneCell' = true := by
  intro u hu
  simp only [oneCells, List.mem_cons, List.not_mem_nil, or_false] at hu
  rcases hu with rfl | rfl | rfl | rfl
  · rfl
  · rfl
  · rfl
  · exact h
theorem NewBs.form {w w' : World} {v : Value} {t : List UInt8} (h : NewBs w w' v t) : ∃ ao n c, v = .slice ao n c := by
  rcases h with ⟨rfl, _⟩ | ⟨k, _, rfl, _⟩
  · exact ⟨_, _, _, rfl⟩
  · exact ⟨_, _, _, rfl⟩
theorem Lone.nil (w : World) (rb : Nat) : Lone w rb (.slice none 0 0) [] := Or.inl ⟨rfl, rfl⟩

end Go.Proofs.Ytmnnpbijifoagab
