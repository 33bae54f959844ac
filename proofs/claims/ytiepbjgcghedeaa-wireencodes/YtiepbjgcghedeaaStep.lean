/- An append inside a region that draws its order. -/
import Derived.Test.YtiepbjgcghedeaaBase
import Derived.Deep.RegionHeldLaw
namespace Go.Proofs.Ytiepbjgcghedeaa
open Go.RowKit

/-- The same as one step of a region that draws its order. -/
theorem step_append_bs {P : Program} {w : World} {ops : Array Oper} {o : Oper} {a : Act} {K : Act → World → Prop} {Q : Exit → Act → World → Prop} {E : Prop} (hgd : o.guard = none) (s x : Operand) (t : TypeId)
    (ho : o.op = .call { callee := .builtin .append, args := #[s, x], argTypes := #[t, t] })
    (base : Nat) (e : TypeId) (i : TypeInfo) (ht : P.underlying t = some (.slice e)) (hi : P.info? e = some i) (hz : i.zero = some (.int .u8 0)) (hsize : i.size = 1) (hby : i.bytes = 1)
    (v : Value) (n : Nat) (l : List UInt8) (hs : a.eval s = v) (hn : n = l.length) (hown : w.ownsRow base e 1 v n (l.map bv))
    (sv : Value) (hx : a.eval x = sv) (m : List UInt8) (hsv : Bs w sv m) (hlen : n + m.length ≤ 140737488355328) (hbase : base ≤ w.heap.size)
    (h : ∀ v' w', w'.ownsRow base e 1 v' (l ++ m).length ((l ++ m).map bv) → Kept w w' (fun k => v.ownBlock = some k) → Moved w v v' → K (a.put o.dst v') w') :
    if Region.wanted o (yielded ops a.tmps) = true then Oper.wp P o a w K Q else E := by
  have hw : Region.wanted o (yielded ops a.tmps) = true := by simp [Region.wanted, hgd]
  rw [if_pos hw]
  subst hn
  obtain ⟨ao, cap, rfl, hc, hxx⟩ := hsv
  cases ao with
  | none =>
    have hm : m.length = 0 := by have := hc.2 rfl; omega
    have hm' : m = [] := List.eq_nil_of_length_eq_zero hm
    subst hm'
    have h0 : cap = 0 := hc.2 rfl
    subst h0
    have hr := run_append_owned_none (P := P) (w := w) base t o.type e i 1 ht hi v l.length (l.map bv) hown
    unfold Oper.wp
    simp [execOp, ho, resolve, invoke, builtin, hs, hx, hr, Result.andThen]
    exact h v w (by simpa using hown) (Kept.refl _ _) (Moved.refl _ _)
  | some ad =>
    obtain ⟨v', w', hr, h1, h2, _, h4⟩ := run_append_own_at (P := P) w base t o.type e i (.int .u8 0) 1 1 ht hi hz hsize hby rfl (by decide) v l.length (l.map bv) hown ad m.length cap (m.map bv) (by simp) (by
      intro j u hu
      have hne : m ≠ [] := by intro e; subst e; simp at hu
      obtain ⟨b, off, e, _, hseg⟩ := hxx hne
      cases e
      exact hseg.src j u hu) (bv_oneCell m) (by unfold maxLen; omega) (by omega) hbase
    unfold Oper.wp execOp
    simp only [ho, resolve, invoke, builtin, Sem.run_bind, Sem.run_pure, Result.andThen_ok, List.map_toArray, List.map_cons, List.map_nil, hs, hx, hr]
    refine h v' w' (by simpa using h1) (Kept.grown h2) ?_
    intro k hk
    rcases h4 with h4 | h4
    · exact Or.inl (h4 ▸ hk)
    · rw [h4] at hk
      simp only [Option.some.injEq] at hk
      exact Or.inr (by omega)

end Go.Proofs.Ytiepbjgcghedeaa
