/- Lists of IDs of the call's own (as in RoC and RoS, with no roots beneath). -/
import Derived.Test.YtlabdbfmfejkaaaGreatDoorPaKP
namespace Go.Proofs.YtlabdbfmfejkaaaGreatDoor
open Go.RowKit

theorem idsV_app (l m : List (Int × Nat)) : idsV (l ++ m) = idsV l ++ idsV m := by simp [idsV]
/-- A list of IDs of the call's own. -/
def OwI (w : World) (base : Nat) (v : Value) (l : List (Int × Nat)) : Prop := w.ownsRow base 55 2 v l.length (idsV l)
theorem OwI.nil (w : World) (base : Nat) : OwI w base (.slice none 0 0) [] := ⟨rfl, Or.inl ⟨rfl, rfl⟩⟩
theorem OwI.kept {w w' : World} {base : Nat} {v : Value} {l : List (Int × Nat)} {P : Nat → Prop} (h : OwI w base v l) (hk : Kept w w' P) (hs : ∀ k, v.ownBlock = some k → ¬ P k) : OwI w' base v l := own_kept h hk hs
theorem OwI.below {w w' : World} {base : Nat} {v : Value} {l : List (Int × Nat)} (h : OwI w base v l) (hb : Below w.heap.size w w') : OwI w' base v l := h.kept (kept_of_below hb (fun _ => False)) (fun _ _ => id)
theorem OwI.sr {w : World} {base : Nat} {v : Value} {l : List (Int × Nat)} (h : OwI w base v l) : Sr w v 2 l.length (idsV l) := own_sr h (idsV_one l)
theorem OwI.slice {w : World} {base : Nat} {v : Value} {l : List (Int × Nat)} (h : OwI w base v l) : ∃ ao cap, v = .slice ao l.length cap ∧ l.length ≤ cap ∧ cap ≤ maxLen ∧ (ao = none → cap = 0) := own_slice h
theorem OwI.ge {w : World} {base : Nat} {v : Value} {l : List (Int × Nat)} (h : OwI w base v l) : ∀ k, v.ownBlock = some k → base ≤ k ∧ k < w.heap.size := by
  intro k hk
  rcases h.2 with ⟨rfl, _⟩ | ⟨g, cap, cur, rfl, h2, h3, _⟩
  · cases hk
  · have e : g = k := by simpa [Value.ownBlock] using hk
    subst e
    exact ⟨h2, (Array.getElem?_eq_some_iff.1 h3).1⟩
theorem OwI.mono {w : World} {base base' : Nat} {v : Value} {l : List (Int × Nat)} (h : OwI w base v l) (hb : base' ≤ base) : OwI w base' v l := by
  refine ⟨h.1, ?_⟩
  rcases h.2 with h1 | ⟨g, cap, cur, rfl, h2, h3⟩
  · exact Or.inl h1
  · exact Or.inr ⟨g, cap, cur, rfl, Nat.le_trans hb h2, h3⟩
/-- One ID in a block, as append lays it. -/
theorem sr_id (w : World) (a : Int) (n : Nat) (T : TypeId) : Sr (w.alloc (.cells #[.int .i64 a, .int .u64 (n : Int)] T)) (.slice (some ⟨w.heap.size, 0, none⟩) 1 1) 2 [(a, n)].length (idsV [(a, n)]) := by
  have h := heap_alloc_new w (.cells #[.int .i64 a, .int .u64 (n : Int)] T)
  refine ⟨rfl, Or.inr ⟨⟨w.heap.size, 0, none⟩, 1, rfl, fun j u hu => ?_⟩, idsV_one _⟩
  rw [Addr.add_at, Nat.zero_add, cell_of_row _ _ _ _ _ _ h]
  have e : (idsV [(a, n)]) = [.int .i64 a, .int .u64 (n : Int)] := rfl
  rw [e] at hu
  simpa using hu
theorem sr_id2 (w : World) (o : Obj) (a : Int) (n : Nat) (T : TypeId) : Sr ((w.alloc o).alloc (.cells #[.int .i64 a, .int .u64 (n : Int)] T)) (.slice (some ⟨w.heap.size + 1, 0, none⟩) 1 1) 2 [(a, n)].length (idsV [(a, n)]) := by
  have h := sr_id (w.alloc o) a n T
  simpa using h
theorem wpList_owI {w : World} {ops : Array Oper} {rest : List Oper} {o : Oper} {a : Act} {Q : Exit → Act → World → Prop} (hgd : o.guard = none) (s x : Operand)
    (ho : o.op = .call { callee := .builtin .append, args := #[s, x], argTypes := #[46, 46] })
    (base : Nat) (v : Value) (l : List (Int × Nat)) (hs : a.eval s = v) (hown : OwI w base v l)
    (u : Value) (m : List (Int × Nat)) (hx : a.eval x = u) (hr : Sr w u 2 m.length (idsV m)) (h63 : l.length + m.length ≤ 1000000000) (hbase : base ≤ w.heap.size)
    (h : ∀ v' w', OwI w' base v' (l ++ m) → Kept w w' (fun k => v.ownBlock = some k) → Moved w v v' → wpList Tryz.prog ops Q rest (a.put o.dst v') w') :
    wpList Tryz.prog ops Q (o :: rest) a w := by
  obtain ⟨i, hi, hz0, hz1, hz2⟩ := info_parts Tryz.infoID
  refine wpList_append_sr hgd s x 46 ho 55 i _ 2 16 Tryz.underlying46 hi hz0 hz1 hz2 rfl (by omega) base v l.length (idsV l) hs hown u m.length (idsV m) hx hr h63 (by omega) hbase ?_
  intro v' w' h1 h2 h3
  exact h v' w' (by unfold OwI; rw [List.length_append, idsV_app]; exact h1) h2 h3

theorem OwI.at {w : World} {B : Nat} {v : Value} {l : List (Int × Nat)} (h : OwI w B v l) : ∃ ao c, v = .slice ao l.length c ∧ l.length ≤ c ∧ c ≤ maxLen ∧ ∀ k (hk : k < l.length), ∃ g, ao = some ⟨g, 0, none⟩ ∧ B ≤ g ∧ g < w.heap.size ∧ w.cell? ⟨g, k * 2, none⟩ = some (.int .i64 l[k].1) ∧ w.cell? ⟨g, k * 2 + 1, none⟩ = some (.int .u64 (l[k].2 : Int)) := by
  have hs := h.sr
  obtain ⟨ao, c, rfl, h1, h2, h3⟩ := h.slice
  refine ⟨ao, c, rfl, h1, h2, fun k hk => ?_⟩
  rcases h.2 with ⟨_, h0⟩ | ⟨g, cap, cur, he, hge, _, _⟩
  · omega
  · simp only [Value.slice.injEq] at he
    obtain ⟨rfl, _, rfl⟩ := he
    rcases hs.val with ⟨h0, _⟩ | ⟨ad, k', h0, hc⟩
    · cases h0
    · simp only [Value.slice.injEq, Option.some.injEq] at h0
      obtain ⟨rfl, _, rfl⟩ := h0
      obtain ⟨e0, e1⟩ := idsV_at l k hk
      have c0 := hc _ _ e0
      have c1 := hc _ _ e1
      rw [Addr.add_at, Nat.zero_add] at c0 c1
      exact ⟨g, rfl, hge, cell_lt c0, c0, c1⟩
end Go.Proofs.YtlabdbfmfejkaaaGreatDoor
