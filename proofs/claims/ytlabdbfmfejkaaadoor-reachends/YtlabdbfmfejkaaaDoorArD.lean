/- An arena in memory; take, drop, all. -/
import Derived.Test.YtlabdbfmfejkaaaDoorArC
import Derived.Test.YtlabdbfmfejkaaaDoorTbLP
namespace Go.Proofs.YtlabdbfmfejkaaaDoor
open Go.RowKit

/-- An arena of the blocks bs, at block b. -/
structure AR (w : World) (b : Nat) (bs : List Bk) : Prop where
  tb : TB w
  pos : 0 < b
  len : bs.length ≤ 256
  ex : ∃ cs, w.heap[b]? = some (.cells cs 165 (0, 0)) ∧ cs.size = 513 ∧ cs[0]? = some (.int .i64 (bs.length : Int)) ∧ ∀ i (hi : i < bs.length), cs[1 + i * 2]? = some (.int .i64 (bs[i].c : Int)) ∧ cs[1 + i * 2 + 1]? = some (.int .u32 (bs[i].t : Int))

section
variable {w w' : World} {b : Nat} {bs : List Bk} {S : Nat → Prop}
theorem AR.lt (h : AR w b bs) : b < w.heap.size := by
  obtain ⟨cs, h1, _⟩ := h.ex
  exact (Array.getElem?_eq_some_iff.1 h1).1
theorem AR.kept (h : AR w b bs) (hk : Kept w w' S) (h0 : ¬ S 0) (hb : ¬ S b) : AR w' b bs := by
  obtain ⟨cs, h1, h2⟩ := h.ex
  exact ⟨h.tb.kept hk h0, h.pos, h.len, cs, (hk.block b h.lt hb).trans h1, h2⟩
theorem AR.below (h : AR w b bs) (hb : Below w.heap.size w w') : AR w' b bs := h.kept (kept_of_below hb (fun _ => False)) id id
theorem AR.cnt (h : AR w b bs) : w.cell? ⟨b, 0, none⟩ = some (.int .i64 (bs.length : Int)) := by
  obtain ⟨cs, h1, _, h2, _⟩ := h.ex
  rw [cell_of_row w b 0 _ _ _ h1, h2]
theorem AR.cls (h : AR w b bs) (i : Nat) (hi : i < bs.length) : w.cell? ⟨b, 1 + i * 2, none⟩ = some (.int .i64 (bs[i].c : Int)) := by
  obtain ⟨cs, h1, _, _, h2⟩ := h.ex
  rw [cell_of_row w b _ _ _ _ h1, (h2 i hi).1]
theorem AR.tkn (h : AR w b bs) (i : Nat) (hi : i < bs.length) : w.cell? ⟨b, 1 + i * 2 + 1, none⟩ = some (.int .u32 (bs[i].t : Int)) := by
  obtain ⟨cs, h1, _, _, h2⟩ := h.ex
  rw [cell_of_row w b _ _ _ _ h1, (h2 i hi).2]
theorem AR.free (h : AR w b bs) (j : Nat) : w.frozen? ⟨b, j, none⟩ = false := by
  obtain ⟨cs, h1, _⟩ := h.ex
  exact frozen_of_row w b j _ _ h1
/-- One of its blocks is another. -/
theorem AR.set (h : AR w b bs) (n : Nat) (x : Bk) (hn : n < bs.length) (hk : Kept w w' (fun k => k = b))
    (hb : ∀ cs, w.heap[b]? = some (.cells cs 165 (0, 0)) → w'.heap[b]? = some (.cells ((cs.setIfInBounds (1 + n * 2) (.int .i64 (x.c : Int))).setIfInBounds (1 + n * 2 + 1) (.int .u32 (x.t : Int))) 165 (0, 0))) : AR w' b (bs.set n x) := by
  obtain ⟨cs, h1, h2, h3, h4⟩ := h.ex
  have hl := h.len
  refine ⟨h.tb.kept hk (by have := h.pos; show ¬ (0 = b); omega), h.pos, by simpa using h.len, _, hb cs h1, by simpa using h2, ?_, fun i hi => ?_⟩
  · rw [Array.getElem?_setIfInBounds_ne (by omega), Array.getElem?_setIfInBounds_ne (by omega), h3, List.length_set]
  · rw [List.length_set] at hi
    by_cases e : n = i
    · subst e
      rw [List.getElem_set_self]
      constructor
      · rw [Array.getElem?_setIfInBounds_ne (by omega), Array.getElem?_setIfInBounds_self_of_lt (by omega)]
      · rw [Array.getElem?_setIfInBounds_self_of_lt (by simp; omega)]
    · rw [List.getElem_set_ne e]
      obtain ⟨h5, h6⟩ := h4 i hi
      constructor
      · rw [Array.getElem?_setIfInBounds_ne (by omega), Array.getElem?_setIfInBounds_ne (by omega), h5]
      · rw [Array.getElem?_setIfInBounds_ne (by omega), Array.getElem?_setIfInBounds_ne (by omega), h6]
end

set_option maxRecDepth 20000 in
set_option maxHeartbeats 400000 in
theorem all_any (b : Nat) (bs : List Bk) (w : World) (h : AR w b bs) :
    Calls Tryd.prog 115 #[.pointer (some ⟨b, 0, none⟩)] w fun e w' => e = .returned (.slice (some ⟨b, 1, none⟩) bs.length 256) ∧ ∃ n, w' = w.drewN n := by
  have c0 := h.cnt
  have hli : (bs.length : Int) ≤ 256 := by have := h.len; omega
  have hl := h.len
  go_enter Tryd.func115, Tryd.ntmps115
  go_wp2
  go_quiet (fail)
  go_wp2
  go_ret
  exact ⟨rfl, _, rfl⟩

end Go.Proofs.YtlabdbfmfejkaaaDoor
