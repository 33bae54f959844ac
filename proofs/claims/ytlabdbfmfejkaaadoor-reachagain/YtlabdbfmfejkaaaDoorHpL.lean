/- Free, clone, Object. -/
import Derived.Test.YtlabdbfmfejkaaaDoorHpK
namespace Go.Proofs.YtlabdbfmfejkaaaDoor
open Go.RowKit

section
variable {w : World} {hb ab mb : Nat} {h : HSt} {L : List Pl}
theorem HX.frees (x : HX w hb ab mb h L) {s : Nat} (hs : s < 18446744073709551616) {p : Pl} (hg : getP L s = some p) {w1 w2 : World} (hB : Below w.heap.size w w1) (ha : AR w2 ab (freeL h.bs (p.o.c : Int))) (k1 : Kept w1 w2 (fun k => k = ab)) (ty : TypeId) :
    ∃ w', (Builtin.delete_ #[133, 32] ty #[.map (some mb), .int .u64 (s : Int)]).run Tryd.prog w2 = .ok (.tuple #[]) w' ∧ Goes w w' hb (fun k => k ∈ hBl hb ab mb L) (h.freeS s) := by
  obtain ⟨n1, n2, n3, n4, n5⟩ := nd_parts x.nd
  have x1 := x.below hB
  have hm := x1.mp.kept k1 (by show ¬ (mb = ab); omega)
  obtain ⟨w', hrun, hm2, k2⟩ := hm.del Tryd.underlying133 s hs (u := p.v) (by rw [getP_look, hg]; rfl) ty
  have hgc : getC h.cs s = some p.o := by rw [x.get, hg]; rfl
  have hsS : h.freeS s = { h with bs := freeL h.bs (p.o.c : Int), cs := h.cs.filter (fun o => o.s != s) } := by
    unfold HSt.freeS
    rw [hgc]
  have kAll : Kept w1 w' (fun k => k = ab ∨ k = mb) := (k1.mono (fun k _ e => Or.inl e)).trans k2 (fun k _ e => Or.inr e)
  have x' : HX w' hb ab mb (h.freeS s) (L.filter (fun p => p.o.s != s)) := by
    refine x1.less s (by rw [hsS]) (by rw [hsS]; exact ⟨rfl, rfl, rfl⟩) (x.ok.free s) kAll ?_ hm2
    rw [hsS]
    exact ha.kept k2 (by have := x.pos mb (by simp [hBl]); show ¬ (0 = mb); omega) (by show ¬ (ab = mb); omega)
  refine ⟨w', hrun, x'.goes ((kept_of_below hB _).trans kAll (fun k _ e => ?_)) (fun k hk => Or.inl (less_sub hk))⟩
  rcases e with e | e <;> simp [hBl, e]

end

/-- A slice of IDs, of numbers, nil or not. -/
theorem sr_ids {w : World} {g : Nat} {l : List (Int × Nat)} (h : Row w g 47 (idsV l)) : Sr w (.slice (some ⟨g, 0, none⟩) l.length l.length) 2 l.length (idsV l) := by
  refine ⟨idsV_len l, Or.inr ⟨_, _, rfl, fun j u hu => ?_⟩, fun u hu => ?_⟩
  · rw [Addr.add_at, Nat.zero_add]
    have hj : j < (idsV l).length := (List.getElem?_eq_some_iff.1 hu).1
    rw [h.cell j hj]
    rw [List.getElem?_eq_getElem hj] at hu
    exact hu
  · unfold idsV at hu
    obtain ⟨y, _, hy⟩ := List.mem_flatMap.1 hu
    simp only [idV, List.mem_cons, List.not_mem_nil, or_false] at hy
    rcases hy with rfl | rfl <;> rfl
theorem sr_us {w : World} {g : Nat} {l : List Nat} (h : Row w g 32 (l.map uV)) : Sr w (.slice (some ⟨g, 0, none⟩) l.length l.length) 1 l.length (l.map uV) := by
  refine ⟨by simp, Or.inr ⟨_, _, rfl, fun j u hu => ?_⟩, fun u hu => ?_⟩
  · rw [Addr.add_at, Nat.zero_add]
    have hj : j < (l.map uV).length := (List.getElem?_eq_some_iff.1 hu).1
    rw [h.cell j hj]
    rw [List.getElem?_eq_getElem hj] at hu
    exact hu
  · obtain ⟨y, _, rfl⟩ := List.mem_map.1 hu
    rfl

end Go.Proofs.YtlabdbfmfejkaaaDoor
