/- The plain heap: Free. -/
import Derived.Test.YtlabdbfmfejkaaaDoorHpSP
import Derived.Deep.RegionHeld
namespace Go.Proofs.YtlabdbfmfejkaaaDoor
open Go.RowKit

theorem Tryd.infoPtr2 : (Tryd.prog.info? 117).map (fun i => (i.zero, i.size, i.bytes)) = some (some (.pointer none), 1, 8) := by kernel_rfl
theorem filter_split {M : List Pl} (hs : (M.map (·.o)).Pairwise (fun a b => a.s < b.s)) {k s : Nat} (hk : k < M.length) (e : M[k].o.s = s) : M.filter (fun p => p.o.s != s) = M.take k ++ M.drop (k + 1) := by
  have h1 : M = M.take k ++ M[k] :: M.drop (k + 1) := by
    rw [← List.drop_eq_getElem_cons hk, List.take_append_drop]
  rw [List.pairwise_map, List.pairwise_iff_getElem] at hs
  have hA : ∀ p ∈ M.take k, (p.o.s != s) = true := fun p hp => by
    obtain ⟨j, hj, rfl⟩ := List.mem_take_iff_getElem.1 hp
    have := hs j k (by omega) hk (by omega)
    rw [bne_iff_ne]
    omega
  have hB : ∀ p ∈ M.drop (k + 1), (p.o.s != s) = true := fun p hp => by
    obtain ⟨j, hj, rfl⟩ := List.mem_drop_iff_getElem.1 hp
    have := hs k (k + 1 + j) hk (by omega) (by omega)
    rw [bne_iff_ne]
    omega
  have h2 : M.filter (fun p => p.o.s != s) = (M.take k ++ M[k] :: M.drop (k + 1)).filter (fun p => p.o.s != s) := by rw [← h1]
  rw [h2, List.filter_append, List.filter_cons, if_neg (by simp [e]), List.filter_eq_self.2 hA, List.filter_eq_self.2 hB]
theorem sub_filter (M : List Pl) (s : Nat) : ((M.filter (fun p => p.o.s != s)).flatMap Pl.bl3).Sublist (M.flatMap Pl.bl3) := by
  induction M with
  | nil => exact List.Sublist.refl _
  | cons q l ih =>
    rw [List.filter_cons]
    split
    · rw [List.flatMap_cons, List.flatMap_cons]
      exact (List.Sublist.refl _).append ih
    · rw [List.flatMap_cons]
      exact ih.trans (List.sublist_append_right _ _)

section
variable {w w2 w9 : World} {rb ra rc rt : Nat} {lv v9 : Value} {h : HSt} {M : List Pl}
/-- An object less. -/
theorem RX.less (x : RX w rb ra rc rt lv h M) {s : Nat} {p : Pl} (hg : getP M s = some p) (ha : RA w2 ra rc rt (freeL h.bs (p.o.c : Int))) (k2 : Kept w w2 (fun k => k = rc ∨ k = rt)) (hB : Below w2.heap.size w2 w9)
    (ho : w9.ownsRow 0 117 1 v9 (M.filter (fun p => p.o.s != s)).length ((M.filter (fun p => p.o.s != s)).map Pl.ptr)) (hv : ∀ k, v9.ownBlock = some k → w2.heap.size ≤ k) :
    RGoes w (w9.setCell ⟨rb, 4, none⟩ v9) rb (fun k => k ∈ rBl rb ra rc rt lv M) (h.freeS s) := by
  obtain ⟨⟨a1, a2, a3, a4, a5, a6⟩, n2, n3, n4⟩ := rnd_parts x.nd
  have hlt := x.lt
  have hs2 := k2.size
  have hrb := hlt rb (by simp [rBl])
  have hra := hlt ra (by simp [rBl])
  have hrc := hlt rc (by simp [rBl])
  have hrt := hlt rt (by simp [rBl])
  have hgc : getC h.cs s = some p.o := by rw [x.get, hg]; rfl
  have hsS : h.freeS s = { h with bs := freeL h.bs (p.o.c : Int), cs := h.cs.filter (fun o => o.s != s) } := by
    unfold HSt.freeS
    rw [hgc]
  have kS := Kept.setCell w9 ⟨rb, 4, none⟩ v9
  have hb9 : Row w9 rb 36 [.int .i64 (h.node : Int), .int .i64 (h.most : Int), .int .u64 (h.last : Int), .pointer (some ⟨ra, 0, none⟩), lv] := (x.box.kept k2 (by show ¬ (rb = rc ∨ rb = rt); omega)).below hB
  have hsub := sub_filter M s
  have hMlt : ∀ k ∈ M.flatMap Pl.bl3, k < w.heap.size := fun k hk => hlt k (by simp only [rBl, List.mem_cons, List.mem_append]; exact Or.inr (Or.inr (Or.inr (Or.inr (Or.inr hk)))))
  have x' : RX (w9.setCell ⟨rb, 4, none⟩ v9) rb ra rc rt v9 (h.freeS s) (M.filter (fun p => p.o.s != s)) := by
    refine ⟨?_, ?_, ?_, fun q hq => ?_, ?_, ?_, x.ok.free s⟩
    · rw [hsS]
      exact hb9.set 4 v9
    · rw [hsS]
      exact (ha.below hB).kept kS (by show ¬ (ra = rb); omega) (by show ¬ (rc = rb); omega) (by show ¬ (rt = rb); omega)
    · exact own_kept ho kS (fun k e => by have := hv k e; show ¬ (k = rb); omega)
    · have hq := (List.mem_filter.1 hq).1
      have m1 := n4 q.pb (mem3 hq (by simp [Pl.bl3]))
      have m2 := n4 q.rb (mem3 hq (by simp [Pl.bl3]))
      have m3 := n4 q.vb (mem3 hq (by simp [Pl.bl3]))
      exact ⟨(((x.rows q hq).1.kept k2 (by show ¬ (q.pb = rc ∨ q.pb = rt); omega)).below hB).kept kS (by show ¬ (q.pb = rb); omega), (((x.rows q hq).2.1.kept k2 (by show ¬ (q.rb = rc ∨ q.rb = rt); omega)).below hB).kept kS (by show ¬ (q.rb = rb); omega), (((x.rows q hq).2.2.kept k2 (by show ¬ (q.vb = rc ∨ q.vb = rt); omega)).below hB).kept kS (by show ¬ (q.vb = rb); omega)⟩
    · refine rnd_mk ⟨a1, a2, a3, a4, a5, a6⟩ (fun k e => by have := hv k e; omega) (n3.sublist hsub) (fun k hk => ?_)
      have hk' := hsub.subset hk
      have := n4 k hk'
      have hkl := hMlt k hk'
      exact ⟨this.1, this.2.1, this.2.2.1, this.2.2.2.1, fun e => by have := hv k e; omega⟩
    · rw [hsS, ← x.cs, List.filter_map]
      rfl
  refine x'.goes (((k2.mono (fun k _ e => by rcases e with e | e <;> simp [rBl, e]) : Kept w w2 (fun k => k ∈ rBl rb ra rc rt lv M)) |>.trans (kept_of_below hB (fun _ => False)) (fun _ _ e => e.elim)).trans kS (fun k _ e => ?_)) (fun k hk => ?_)
  · have e' : k = rb := e
    rw [e']
    simp [rBl]
  · simp only [rBl, List.mem_cons, List.mem_append, Option.mem_toList] at hk ⊢
    rcases hk with e | e | e | e | e | e
    · exact Or.inl (Or.inl e)
    · exact Or.inl (Or.inr (Or.inl e))
    · exact Or.inl (Or.inr (Or.inr (Or.inl e)))
    · exact Or.inl (Or.inr (Or.inr (Or.inr (Or.inl e))))
    · have := hv k e
      exact Or.inr (by omega)
    · exact Or.inl (Or.inr (Or.inr (Or.inr (Or.inr (Or.inr (hsub.subset e))))))
end
/-- A list of pointers, cut ahead and behind. -/
theorem pl_pre {W : World} {g cap : Nat} {M : List Pl} (hc : ∀ j (hj : j < M.length), W.cell? ⟨g, j, none⟩ = some (.pointer (some ⟨M[j].pb, 0, none⟩))) (k : Nat) (hk : k ≤ M.length) : Sr W (.slice (some ⟨g, 0, none⟩) k cap) 1 k ((M.take k).map Pl.ptr) := by
  refine ⟨by simp; omega, Or.inr ⟨_, _, rfl, fun j u hu => ?_⟩, fun u hu => ?_⟩
  · have hj : j < k := by have := (List.getElem?_eq_some_iff.1 hu).1; simp at this; omega
    rw [Addr.add_at, Nat.zero_add, hc j (by omega)]
    rw [List.getElem?_map, List.getElem?_take_of_lt hj, List.getElem?_eq_getElem (by omega)] at hu
    simpa [Pl.ptr] using hu
  · obtain ⟨q, _, rfl⟩ := List.mem_map.1 hu
    rfl
theorem pl_post {W : World} {g : Nat} {M : List Pl} (hc : ∀ j (hj : j < M.length), W.cell? ⟨g, j, none⟩ = some (.pointer (some ⟨M[j].pb, 0, none⟩))) (k : Nat) (hk : k ≤ M.length) (c : Nat) : Sr W (.slice (some ⟨g, k, none⟩) (M.length - k) c) 1 (M.length - k) ((M.drop k).map Pl.ptr) := by
  refine ⟨by simp, Or.inr ⟨_, _, rfl, fun j u hu => ?_⟩, fun u hu => ?_⟩
  · have hj : j < M.length - k := by have := (List.getElem?_eq_some_iff.1 hu).1; simpa using this
    rw [Addr.add_at, hc (k + j) (by omega)]
    rw [List.getElem?_map, List.getElem?_drop, List.getElem?_eq_getElem (by omega)] at hu
    simpa [Pl.ptr] using hu
  · obtain ⟨q, _, rfl⟩ := List.mem_map.1 hu
    rfl
theorem sr_nil (w : World) (ad : Addr) (n c : Nat) (hn : n = 0) : Sr w (.slice (some ad) n c) 1 0 [] := by
  subst hn
  exact ⟨rfl, Or.inr ⟨ad, c, rfl, fun j u hu => by simp at hu⟩, by simp⟩
theorem own_nil {w : World} {T : TypeId} {c base g : Nat} (hg : w.heap[g]? = some (.cells #[] T (0, 0))) (hb : base ≤ g) : w.ownsRow base T c (.slice (some ⟨g, 0, none⟩) 0 0) 0 [] :=
  ⟨by simp, Or.inr ⟨g, 0, #[], rfl, hb, hg, Nat.le_refl _, Nat.zero_le _, by simp, by simp⟩⟩
theorem own_ge {w : World} {base c n k : Nat} {e : TypeId} {v : Value} {xs : List Value} (h : w.ownsRow base e c v n xs) (hk : v.ownBlock = some k) : base ≤ k := by
  rcases h.2 with ⟨rfl, _⟩ | ⟨g, cap, cur, rfl, h2, h3⟩
  · simp [Value.ownBlock] at hk
  · simp only [Value.ownBlock, Option.some.injEq] at hk
    omega
theorem own_zero {w : World} {base c n : Nat} {e : TypeId} {v : Value} {xs : List Value} (h : w.ownsRow base e c v n xs) : w.ownsRow 0 e c v n xs := by
  refine ⟨h.1, ?_⟩
  rcases h.2 with h1 | ⟨g, cap, cur, h1, h2, h3⟩
  · exact Or.inl h1
  · exact Or.inr ⟨g, cap, cur, h1, Nat.zero_le _, h3⟩

section
variable {w : World} {rb ra rc rt : Nat} {lv : Value} {h : HSt} {M : List Pl}
end

end Go.Proofs.YtlabdbfmfejkaaaDoor
