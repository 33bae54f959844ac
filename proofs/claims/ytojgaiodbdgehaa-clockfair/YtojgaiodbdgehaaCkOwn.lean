/- Slices of numbers that are their owner's, and append. -/
import Derived.Test.YtojgaiodbdgehaaCkC
namespace Go.Proofs.Ytojgaiodbdgehaa
open Go.RowKit

def nv (n : Nat) : Value := .int .u64 (n : Int)
theorem Try.infoN64 : (Try.prog.info? 26).map (fun i => (i.zero, i.size, i.bytes)) = some (some (.int .u64 0), 1, 8) := by kernel_rfl
theorem ninfo_parts {α β γ : Type} {o : Option TypeInfo} {f : TypeInfo → α} {g : TypeInfo → β} {h : TypeInfo → γ} {a : α} {b : β} {c : γ} (hh : o.map (fun i => (f i, g i, h i)) = some (a, b, c)) : ∃ i, o = some i ∧ f i = a ∧ g i = b ∧ h i = c := by
  cases o with
  | none => cases hh
  | some i => simp at hh; exact ⟨i, rfl, hh.1, hh.2.1, hh.2.2⟩
theorem nown_empty {w : World} {g : Nat} {t : TypeId} (hg : w.heap[g]? = some (.cells #[] t (0, 0))) : w.ownsRow g t 1 (.slice (some ⟨g, 0, none⟩) 0 0) 0 [] :=
  ⟨by simp, Or.inr ⟨g, 0, #[], rfl, Nat.le_refl _, hg, Nat.le_refl _, Nat.zero_le _, by simp, by simp⟩⟩

/-- 'append(v, s...)' of numbers onto a row that is its owner's. -/
theorem append_ns {w : World} {ops : Array Oper} {rest : List Oper} {o : Oper} {a : Act} {Q : Exit → Act → World → Prop} (hgd : o.guard = none) (s x : Operand)
    (ho : o.op = .call { callee := .builtin .append, args := #[s, x], argTypes := #[31, 31] })
    (base : Nat) (v : Value) (l : List Nat) (n : Nat) (hs : a.eval s = v) (hn : n = l.length) (hown : w.ownsRow base 26 1 v n (l.map nv))
    (sv : Value) (hx : a.eval x = sv) (m : List Nat) (hsv : Ns .u64 w sv m) (hlen : (n + m.length) * 8 ≤ 140737488355328) (hbase : base ≤ w.heap.size)
    (h : ∀ v' w', w'.ownsRow base 26 1 v' (l ++ m).length ((l ++ m).map nv) → Kept w w' (fun k => v.ownBlock = some k) → Moved w v v' → wpList Try.prog ops Q rest (a.put o.dst v') w') :
    wpList Try.prog ops Q (o :: rest) a w := by
  subst hn
  obtain ⟨i, hi1, hz0, hz1, hz2⟩ := ninfo_parts Try.infoN64
  obtain ⟨ao, cap, rfl, hc, hxx⟩ := hsv
  cases ao with
  | none =>
    have hm : m.length = 0 := by have := hc.2 rfl; omega
    have hm' : m = [] := List.eq_nil_of_length_eq_zero hm
    subst hm'
    have h0 : cap = 0 := hc.2 rfl
    subst h0
    refine wpList_append_own_none hgd s x 31 ho base 26 i 1 Try.underlying31 hi1 v l.length (l.map nv) hs hown hx ?_
    exact h v w (by simpa using hown) (Kept.refl _ _) (Moved.refl _ _)
  | some ad =>
    refine wpList_append_own_at w hgd s x 31 ho base 26 i _ 1 8 Try.underlying31 hi1 hz0 hz1 hz2 rfl (by omega) v l.length (l.map nv) hs hown ad m.length cap (m.map nv) hx (by simp) ?_ (by intro u hu; obtain ⟨n, _, rfl⟩ := List.mem_map.1 hu; rfl) (by simp only [maxLen]; omega) (by omega) hbase ?_
    · intro j u hu
      have hne : m ≠ [] := by intro e; subst e; simp at hu
      obtain ⟨b, off, e, _, hat⟩ := hxx hne
      cases e
      have hj : j < m.length := by have := (List.getElem?_eq_some_iff.1 hu).1; simpa using this
      rw [Addr.add_at, hat j hj]
      rw [List.getElem?_map, List.getElem?_eq_getElem hj] at hu
      simpa [nv] using hu
    · intro v' w' h1 h2 _ h4
      refine h v' w' (by simpa using h1) (Kept.grown h2) ?_
      intro k hk
      rcases h4 with h4 | h4
      · exact Or.inl (h4 ▸ hk)
      · rw [h4] at hk
        simp only [Option.some.injEq] at hk
        exact Or.inr (by omega)

end Go.Proofs.Ytojgaiodbdgehaa
