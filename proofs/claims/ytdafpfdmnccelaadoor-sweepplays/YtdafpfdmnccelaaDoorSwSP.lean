import Derived.Test.YtdafpfdmnccelaaDoorHpOP
import Derived.Deep.RegionLaw
import Derived.Test.YtdafpfdmnccelaaDoorPaTP
/- Rows of words that are the call's own: read, appended to. -/
/- What came in for the sweep's statements: numbers, steps. -/
namespace Go.Proofs.YtdafpfdmnccelaaDoor
open Go.RowKit

/-- v is a slice of l in memory of its own, from block base on. -/
def OwU (w : World) (base : Nat) (v : Value) (l : List Nat) : Prop := w.ownsRow base 39 1 v l.length (l.map uV)
theorem OwU.nil (w : World) (base : Nat) : OwU w base (.slice none 0 0) [] := ⟨rfl, Or.inl ⟨rfl, rfl⟩⟩
theorem OwU.ge {w : World} {base : Nat} {v : Value} {l : List Nat} (h : OwU w base v l) : ∀ k, v.ownBlock = some k → base ≤ k ∧ k < w.heap.size := by
  intro k hk
  obtain ⟨_, ⟨rfl, h0⟩ | ⟨g, cap, cur, rfl, hb, hg, _⟩⟩ := h
  · simp [Value.ownBlock] at hk
  · simp only [Value.ownBlock, Option.some.injEq] at hk
    subst hk
    exact ⟨hb, (Array.getElem?_eq_some_iff.1 hg).1⟩
theorem OwU.kept {w w' : World} {base : Nat} {v : Value} {l : List Nat} {S : Nat → Prop} (h : OwU w base v l) (hk : Kept w w' S) (hs : ∀ k, v.ownBlock = some k → ¬ S k) : OwU w' base v l := own_kept h hk hs
theorem OwU.below {w w' : World} {base : Nat} {v : Value} {l : List Nat} (h : OwU w base v l) (hb : Below w.heap.size w w') : OwU w' base v l := h.kept (kept_of_below hb (fun _ => False)) (fun _ _ => id)
theorem OwU.slice {w : World} {base : Nat} {v : Value} {l : List Nat} (h : OwU w base v l) : ∃ ao cap, v = .slice ao l.length cap ∧ l.length ≤ cap ∧ cap ≤ maxLen ∧ (ao = none → cap = 0) := own_slice h
theorem OwU.at {w : World} {base : Nat} {v : Value} {l : List Nat} (h : OwU w base v l) (i : Nat) (hi : i < l.length) : ∃ g cap, v = .slice (some ⟨g, 0, none⟩) l.length cap ∧ base ≤ g ∧ g < w.heap.size ∧ l.length ≤ cap ∧ ∀ j (hj : j < l.length), w.cell? ⟨g, j, none⟩ = some (.int .u64 (l[j] : Int)) := by
  obtain ⟨_, ⟨rfl, h0⟩ | ⟨g, cap, cur, rfl, hb, hg, hn, hm, hs, ht⟩⟩ := h
  · omega
  · refine ⟨g, cap, rfl, hb, (Array.getElem?_eq_some_iff.1 hg).1, hn, fun j hj => ?_⟩
    rw [cell_of_row w g j _ _ _ hg]
    have h2 : (cur.toList.take (l.length * 1))[j]? = some (.int .u64 (l[j] : Int)) := by
      rw [ht, List.getElem?_map, List.getElem?_eq_getElem hj]
      rfl
    rw [List.getElem?_take_of_lt (by omega)] at h2
    simpa using h2
theorem sr_oneU (w : World) (x : Nat) (T : TypeId) : Sr (w.alloc (.cells #[.int .u64 (x : Int)] T)) (.slice (some ⟨w.heap.size, 0, none⟩) 1 1) 1 [x].length ([x].map uV) := by
  refine ⟨rfl, Or.inr ⟨_, _, rfl, fun j u hu => ?_⟩, uV_one _⟩
  have hj : j < 1 := by simpa using (List.getElem?_eq_some_iff.1 hu).1
  have hj0 : j = 0 := by omega
  subst hj0
  simp only [List.map_cons, List.map_nil, List.getElem?_cons_zero, Option.some.injEq] at hu
  subst hu
  rw [Addr.add_at, cell_of_row _ _ _ _ _ _ (heap_alloc_new w _)]
  rfl
theorem wpList_owU {w : World} {ops : Array Oper} {rest : List Oper} {o : Oper} {a : Act} {Q : Exit → Act → World → Prop} (hgd : o.guard = none) (s x : Operand)
    (ho : o.op = .call { callee := .builtin .append, args := #[s, x], argTypes := #[42, 42] })
    (base : Nat) (v : Value) (l : List Nat) (hs : a.eval s = v) (hown : OwU w base v l) (u : Value) (m : List Nat) (hx : a.eval x = u) (hr : Sr w u 1 m.length (m.map uV)) (h63 : l.length + m.length ≤ 1000000000) (hbase : base ≤ w.heap.size)
    (h : ∀ v' w', OwU w' base v' (l ++ m) → Kept w w' (fun k => v.ownBlock = some k) → Moved w v v' → wpList Tryd.prog ops Q rest (a.put o.dst v') w') :
    wpList Tryd.prog ops Q (o :: rest) a w := by
  obtain ⟨i, hi, hz0, hz1, hz2⟩ := info_parts Tryd.infoU64
  refine wpList_append_sr hgd s x 42 ho 39 i (.int .u64 0) 1 8 Tryd.underlying42 hi hz0 hz1 hz2 rfl (by omega) base v l.length (l.map uV) hs hown u m.length (m.map uV) hx hr h63 (by omega) hbase ?_
  intro v' w' h1 h2 h3
  refine h v' w' ?_ h2 h3
  unfold OwU
  rw [List.length_append, List.map_append]
  exact h1
/-- One more is true. -/
def updW (f : Nat → Bool) (j : Nat) : Nat → Bool := fun a => if a = j then true else f a
/-- The cells of a list of n + 1 Bools. -/
def bwV (n : Nat) (f : Nat → Bool) : List Value := (List.range (n + 1)).map (fun j => Value.bool (f j))
theorem bw_cell {w : World} {kb n : Nat} {f : Nat → Bool} (r : Row w kb 4 (bwV n f)) (j : Nat) (hj : j ≤ n) : w.cell? ⟨kb, j, none⟩ = some (.bool (f j)) := by
  refine r.at j _ ?_
  unfold bwV
  rw [List.getElem?_map, List.getElem?_range (by omega)]
  rfl
theorem bw_set {w : World} {kb n : Nat} {f : Nat → Bool} (r : Row w kb 4 (bwV n f)) (j : Nat) : Row (w.setCell ⟨kb, j, none⟩ (.bool true)) kb 4 (bwV n (updW f j)) := by
  have h := r.set j (.bool true)
  have e : (bwV n f).set j (.bool true) = bwV n (updW f j) := by
    unfold bwV updW
    apply List.ext_getElem?
    intro i
    rw [List.getElem?_set, List.getElem?_map, List.getElem?_map]
    simp only [List.length_map, List.length_range]
    by_cases e : j = i
    · subst e
      rw [if_pos rfl]
      by_cases hj : j < n + 1
      · rw [if_pos hj, List.getElem?_range hj]
        simp
      · rw [if_neg hj, List.getElem?_eq_none (by simp; omega)]
        rfl
    · rw [if_neg e]
      by_cases hi : i < n + 1
      · rw [List.getElem?_range hi]
        simp only [Option.map_some]
        rw [if_neg (fun h => e h.symm)]
      · rw [List.getElem?_eq_none (by simp; omega)]
        rfl
  rw [e] at h
  exact h
theorem Tryd.infoBoolW : (Tryd.prog.info? 4).map (fun i => (i.zero, i.size, i.bytes)) = some (some (.bool false), 1, 1) := by kernel_rfl
theorem made_bw (M : Nat) : madeCells (Value.bool false).cells ((M + 1) * 1) = (bwV M (fun _ => false)).toArray := by
  rw [Nat.mul_one, show (Value.bool false).cells = #[Value.bool false] from rfl]
  apply Array.ext'
  rw [toList_madeCells_one]
  simp [bwV]
  rw [List.map_const', List.length_range]
theorem make_bws (n : Nat) (hn : n ≤ 60) : ∀ W : World, (Instr.makeSlice 26 (.int .i64 ((n : Int) + 1)) (.int .i64 ((n : Int) + 1))).run Tryd.prog W = .ok (.slice (some ⟨W.heap.size, 0, none⟩) (n + 1) (n + 1)) (W.alloc (.cells (bwV n (fun _ => false)).toArray 4)) := fun W => by
  obtain ⟨i, hi, hz0, hz1, hz2⟩ := info_parts Tryd.infoBoolW
  have := run_make (P := Tryd.prog) W 26 4 i _ Tryd.underlying26 hi hz0 .i64 .i64 ((n : Int) + 1) ((n : Int) + 1) (by omega) (Int.le_refl _) (by rw [hz2]; omega) (by omega)
  rw [hz1, show ((n : Int) + 1).toNat = n + 1 by omega, made_bw] at this
  exact this
/-- A list of nil lists. -/
theorem Tryd.infoNils : (Tryd.prog.info? 27).map (fun i => (i.zero, i.size, i.bytes)) = some (some (.slice none 0 0), 1, 24) := by kernel_rfl
theorem made_nils (n : Nat) : madeCells (Value.slice none 0 0).cells (n * 1) = Array.replicate n (Value.slice none 0 0) := by
  rw [Nat.mul_one, show (Value.slice none 0 0).cells = #[Value.slice none 0 0] from rfl]
  apply Array.ext'
  rw [toList_madeCells_one]
  simp
theorem make_nils (n : Nat) (hn : n ≤ 60) : ∀ W : World, (Instr.makeSlice 25 (.int .i64 (n : Int)) (.int .i64 (n : Int))).run Tryd.prog W = .ok (.slice (some ⟨W.heap.size, 0, none⟩) n n) (W.alloc (.cells (Array.replicate n (Value.slice none 0 0)) 27)) := fun W => by
  obtain ⟨i, hi, hz0, hz1, hz2⟩ := info_parts Tryd.infoNils
  have := run_make (P := Tryd.prog) W 25 27 i _ Tryd.underlying25 hi hz0 .i64 .i64 (n : Int) (n : Int) (by omega) (Int.le_refl _) (by rw [hz2]; omega) (by omega)
  rw [hz1, Int.toNat_natCast, made_nils] at this
  exact this
theorem nils_cell {W W' : World} {n i : Nat} {T : TypeId} (hi : i < n) (hb : Below (W.heap.size + 1) (W.alloc (.cells (Array.replicate n (Value.slice none 0 0)) T)) W') : W'.cell? ⟨W.heap.size, i, none⟩ = some (.slice none 0 0) := by
  have hc : (W.alloc (.cells (Array.replicate n (Value.slice none 0 0)) T)).cell? ⟨W.heap.size, i, none⟩ = some (.slice none 0 0) := by
    rw [cell_of_row _ _ _ _ _ _ (heap_alloc_new W _)]
    simp [hi]
  exact (hb.cell (p := ⟨W.heap.size, i, none⟩) (Nat.lt_succ_self _)).trans hc
end Go.Proofs.YtdafpfdmnccelaaDoor

namespace Go.Proofs.YtdafpfdmnccelaaDoor
open Go.RowKit

def cW (z : Nat) : List Value := [.int .u64 (z : Int)]
theorem ews_word {H : Type} {enc : TypeId × Value → H} {W : World} : ∀ n cs (y : DataW H × List MemPlace), DataW.trod enc Tryd.prog W 0 (fun _ => true) true n 39 cs = some y → ∃ x : Nat, cs = cW x ∧ x < 18446744073709551616 := by
  intro n cs y h
  obtain ⟨z, e, b⟩ := trod_u64 h
  exact ⟨z, e, b⟩
/-- A step of the sweep's statement. -/
structure StepS where
  what : Int
  ser : Nat
def cStepS (s : StepS) : List Value := [.int .i64 s.what, .int .u64 (s.ser : Int)]
theorem ews_stepS {H : Type} {enc : TypeId × Value → H} {W : World} : ∀ n cs (y : DataW H × List MemPlace), DataW.trod enc Tryd.prog W 0 (fun _ => true) true n 54 cs = some y → ∃ x : StepS, cs = cStepS x ∧ x.ser < 18446744073709551616 := by
  intro n cs y h
  obtain ⟨hlen, k, hf⟩ := trod_fields 2 Tryd.underlying54 (by kernel_rfl) h
  obtain ⟨v0, v1, rfl⟩ := list2 hlen
  obtain ⟨y0, g0⟩ := hf 0 3 0 1 rfl (by kernel_rfl)
  obtain ⟨y1, g1⟩ := hf 1 39 1 1 rfl (by kernel_rfl)
  obtain ⟨z0, e0, _, _⟩ := DataW.trod_int Tryd.underlying3 g0
  obtain ⟨z1, e1, b1⟩ := trod_u64 g1
  simp only [List.drop_succ_cons, List.drop_zero, List.take_succ_cons, List.take_zero, List.cons.injEq, and_true] at e0 e1
  subst e0 e1
  exact ⟨⟨z0, z1⟩, rfl, b1⟩
theorem WS.word {w : World} {ao : Option Addr} {n cap : Nat} {xs : List Nat} (h : WS w (.slice ao n cap) 1 cW xs) (i : Nat) (hi : i < xs.length) : ∃ b off, ao = some ⟨b, off, none⟩ ∧ b < w.heap.size ∧ w.cell? ⟨b, off + i, none⟩ = some (.int .u64 (xs[i] : Int)) := by
  obtain ⟨b, off, h1, h2, h3⟩ := h.at i hi
  have := h3 0 _ rfl
  rw [Nat.mul_one, Nat.add_zero] at this
  exact ⟨b, off, h1, h2, this⟩
theorem WS.stepS {w : World} {ao : Option Addr} {n cap : Nat} {xs : List StepS} (h : WS w (.slice ao n cap) 2 cStepS xs) (i : Nat) (hi : i < xs.length) : ∃ b off, ao = some ⟨b, off, none⟩ ∧ b < w.heap.size ∧
    w.cell? ⟨b, off + i * 2, none⟩ = some (.int .i64 xs[i].what) ∧ w.cell? ⟨b, off + i * 2 + 1, none⟩ = some (.int .u64 (xs[i].ser : Int)) := by
  obtain ⟨b, off, h1, h2, h3⟩ := h.at i hi
  exact ⟨b, off, h1, h2, h3 0 _ rfl, h3 1 _ rfl⟩
end Go.Proofs.YtdafpfdmnccelaaDoor
