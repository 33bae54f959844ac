/- Free, clone, Object. -/
import Derived.Test.YtfonlolgkaobcaaGreatDoorHpK
namespace Go.Proofs.YtfonlolgkaobcaaGreatDoor
open Go.RowKit

section
variable {w : World} {hb ab mb : Nat} {h : HSt} {L : List Pl}
theorem HX.frees (x : HX w hb ab mb h L) {s : Nat} (hs : s < 18446744073709551616) {p : Pl} (hg : getP L s = some p) {w1 w2 : World} (hB : Below w.heap.size w w1) (ha : AR w2 ab (freeL h.bs (p.o.c : Int))) (k1 : Kept w1 w2 (fun k => k = ab)) (ty : TypeId) :
    ∃ w', (Builtin.delete_ #[103, 39] ty #[.map (some mb), .int .u64 (s : Int)]).run Tryz.prog w2 = .ok (.tuple #[]) w' ∧ Goes w w' hb (fun k => k ∈ hBl hb ab mb L) (h.freeS s) := by
  obtain ⟨n1, n2, n3, n4, n5⟩ := nd_parts x.nd
  have x1 := x.below hB
  have hm := x1.mp.kept k1 (by show ¬ (mb = ab); omega)
  obtain ⟨w', hrun, hm2, k2⟩ := hm.del Tryz.underlying103 s hs (u := p.v) (by rw [getP_look, hg]; rfl) ty
  have hgc : getC h.cs s = some p.o := by rw [x.get, hg]; rfl
  have hsS : h.freeS s = { h with bs := freeL h.bs (p.o.c : Int), cs := h.cs.filter (fun o => o.s != s) } := by
    unfold HSt.freeS
    rw [hgc]
  have kAll : Kept w1 w' (fun k => k = ab ∨ k = mb) := (k1.mono (fun k _ e => Or.inl e)).trans k2 (fun k _ e => Or.inr e)
  have x' : HX w' hb ab mb (h.freeS s) (L.filter (fun p => p.o.s != s)) := by
    refine x1.less s (by rw [hsS]) (by rw [hsS]; exact ⟨rfl, rfl, rfl⟩) (x.ok.free s) kAll ?_ hm2
    rw [hsS]
    exact ha.kept k2 (by have := x.pos mb (by simp [hBl]); show ¬ (0 = mb); omega) (by show ¬ (ab = mb); omega)
  refine ⟨w', hrun, x'.goes ((kept_of_below hB _).trans kAll (fun k _ e => ?_)) (fun k hk => Or.inl (less_sub hk))⟩
  rcases e with e | e <;> simp [hBl, e]

set_option maxRecDepth 20000 in
set_option maxHeartbeats 1000000 in
theorem hfree_any (x : HX w hb ab mb h L) (s : Nat) (hs : s < 18446744073709551616) :
    Calls Tryz.prog 22 #[.pointer (some ⟨hb, 0, none⟩), .int .u64 (s : Int)] w fun e w' => e = .returned (.int .i64 (h.freeR s : Int)) ∧ Goes w w' hb (fun k => k ∈ hBl hb ab mb L) (h.freeS s) := by
  have c4 := x.c4
  have hA : ∀ o, Below w.heap.size w (w.alloc o) := fun o => (Below.refl _ _).alloc (Nat.le_refl _) o
  cases hg : getP L s with
  | none =>
    have hgc : getC h.cs s = none := by rw [x.get, hg]; rfl
    unfold HSt.freeR HSt.freeS
    rw [hgc, if_neg (by simp)]
    have hlk := x.look2N s hs hg
    unfold zO at hlk
    go_enter Tryz.func22, Tryz.ntmps22
    go_wp2
    go_ret
    exact ⟨rfl, x.hp.stay (hA _)⟩
  | some p =>
    have hgc : getC h.cs s = some p.o := by rw [x.get, hg]; rfl
    have hR : h.freeR s = 0 := by
      unfold HSt.freeR
      rw [hgc, if_pos (by simp)]
    rw [hR]
    have hlk := x.look2S s hs hg
    unfold Pl.v at hlk
    have hFr := fun W (hW : Below w.heap.size w W) => free_any ab h.bs (p.o.c : Int) x.ok.ao W (x.below hW).ar
    have hDe : ∀ w1 w2 : World, Below w.heap.size w w1 → AR w2 ab (freeL h.bs (p.o.c : Int)) → Kept w1 w2 (fun k => k = ab) → ∃ w', (∀ ty, (Builtin.delete_ #[103, 39] ty #[.map (some mb), .int .u64 (s : Int)]).run Tryz.prog w2 = .ok (.tuple #[]) w') ∧ Goes w w' hb (fun k => k ∈ hBl hb ab mb L) (h.freeS s) := fun w1 w2 hB ha k1 => by
      obtain ⟨w', h1, h2⟩ := x.frees hs hg hB ha k1 0
      exact ⟨w', fun ty => h1, h2⟩
    have c3' := fun o => (x.below (hA o)).c3
    have hc4 : ∀ w1 w2 : World, Below w.heap.size w w1 → Kept w1 w2 (fun k => k = ab) → w2.cell? ⟨hb, 4, none⟩ = some (.map (some mb)) := fun w1 w2 hB k1 => by
      obtain ⟨n1, n2, n3, n4, n5⟩ := nd_parts x.nd
      exact ((x.below hB).box.kept k1 (by show ¬ (hb = ab); omega)).cell 4 (by simp)
    generalize freeR h.bs (p.o.c : Int) = fr at *
    go_enter Tryz.func22, Tryz.ntmps22
    go_wp2
    go_region_with (go_at_call 49; refine (hFr _ (hA _).drew).mono ?_; rintro e w2 ⟨rfl, ha2, hk2⟩; obtain ⟨w3, u3, g3⟩ := hDe _ w2 (hA _).drew ha2 hk2; have d4 := hc4 _ w2 (hA _).drew hk2)
    all_goals
      go_wp2_with (simp only [u3])
      go_ret
      exact ⟨rfl, g3⟩
end

/-- A slice of IDs, of numbers, nil or not. -/
theorem sr_ids {w : World} {g : Nat} {l : List (Int × Nat)} (h : Row w g 41 (idsV l)) : Sr w (.slice (some ⟨g, 0, none⟩) l.length l.length) 2 l.length (idsV l) := by
  refine ⟨idsV_len l, Or.inr ⟨_, _, rfl, fun j u hu => ?_⟩, fun u hu => ?_⟩
  · rw [Addr.add_at, Nat.zero_add]
    have hj : j < (idsV l).length := (List.getElem?_eq_some_iff.1 hu).1
    rw [h.cell j hj]
    rw [List.getElem?_eq_getElem hj] at hu
    exact hu
  · unfold idsV at hu
    obtain ⟨y, _, hy⟩ := List.mem_flatMap.1 hu
    simp only [idV, List.mem_cons, List.not_mem_nil, or_false] at hy
    rcases hy with rfl | rfl <;> rfl
theorem sr_us {w : World} {g : Nat} {l : List Nat} (h : Row w g 39 (l.map uV)) : Sr w (.slice (some ⟨g, 0, none⟩) l.length l.length) 1 l.length (l.map uV) := by
  refine ⟨by simp, Or.inr ⟨_, _, rfl, fun j u hu => ?_⟩, fun u hu => ?_⟩
  · rw [Addr.add_at, Nat.zero_add]
    have hj : j < (l.map uV).length := (List.getElem?_eq_some_iff.1 hu).1
    rw [h.cell j hj]
    rw [List.getElem?_eq_getElem hj] at hu
    exact hu
  · obtain ⟨y, _, rfl⟩ := List.mem_map.1 hu
    rfl

end Go.Proofs.YtfonlolgkaobcaaGreatDoor
