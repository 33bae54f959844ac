/- New; what a heap is behind an object is made or freed. -/
import Derived.Test.YtlabdbfmfejkaaaDoorHpHP
import Derived.Deep.RegionWith
namespace Go.Proofs.YtlabdbfmfejkaaaDoor
open Go.RowKit

section
variable {w w' : World} {hb ab mb : Nat} {h : HSt} {L : List Pl}
/-- An object more. -/
theorem HX.more (x : HX w hb ab mb h L) {h' : HSt} {p : Pl} (hcs : h'.cs = h.cs ++ [p.o]) (hok : h'.Ok) (hk : Kept w w' (fun k => k = hb ∨ k = ab ∨ k = mb))
    (h1 : Row w' hb 135 [.int .i64 (h'.node : Int), .int .i64 (h'.most : Int), .int .u64 (h'.last : Int), .pointer (some ⟨ab, 0, none⟩), .map (some mb)])
    (h2 : AR w' ab h'.bs) (h3 : MP w' mb (L.map Pl.e ++ [p.e])) (h4 : Row w' p.rb 47 (idsV p.o.rf)) (h5 : Row w' p.vb 32 (p.o.vl.map uV)) (g1 : w.heap.size ≤ p.rb) (g2 : w.heap.size ≤ p.vb) (g3 : p.rb ≠ p.vb) :
    HX w' hb ab mb h' (L ++ [p]) := by
  obtain ⟨n1, n2, n3, n4, n5⟩ := nd_parts x.nd
  have hlt := x.lt
  have hpos := x.tb.size
  have e : hBl hb ab mb (L ++ [p]) = hBl hb ab mb L ++ [p.rb, p.vb] := by
    unfold hBl
    rw [List.flatMap_append]
    simp [Pl.bl]
  refine ⟨h1, h2, by rw [List.map_append]; exact h3, fun q hq => ?_, ?_, ?_, by rw [List.map_append, x.cs, hcs]; rfl, hok⟩
  · rcases List.mem_append.1 hq with hq | hq
    · have m1 := n5 q.rb (mem_bl hq (by simp [Pl.bl]))
      have m2 := n5 q.vb (mem_bl hq (by simp [Pl.bl]))
      exact ⟨(x.rows q hq).1.kept hk (by show ¬ (q.rb = hb ∨ q.rb = ab ∨ q.rb = mb); omega), (x.rows q hq).2.kept hk (by show ¬ (q.vb = hb ∨ q.vb = ab ∨ q.vb = mb); omega)⟩
    · rw [List.mem_singleton] at hq
      subst hq
      exact ⟨h4, h5⟩
  · rw [e, List.nodup_append]
    refine ⟨x.nd, by simp [g3], fun a ha c hc => ?_⟩
    have := hlt a ha
    simp only [List.mem_cons, List.not_mem_nil, or_false] at hc
    omega
  · intro k hk
    rw [e, List.mem_append] at hk
    rcases hk with hk | hk
    · exact x.pos k hk
    · simp only [List.mem_cons, List.not_mem_nil, or_false] at hk
      omega
/-- An object less. -/
theorem HX.less (x : HX w hb ab mb h L) {h' : HSt} (s : Nat) (hcs : h'.cs = h.cs.filter (fun o => o.s != s)) (hn : h'.node = h.node ∧ h'.most = h.most ∧ h'.last = h.last) (hok : h'.Ok) (hk : Kept w w' (fun k => k = ab ∨ k = mb))
    (h2 : AR w' ab h'.bs) (h3 : MP w' mb ((L.map Pl.e).filter (fun p => p.1 != s))) : HX w' hb ab mb h' (L.filter (fun p => p.o.s != s)) := by
  obtain ⟨n1, n2, n3, n4, n5⟩ := nd_parts x.nd
  have hsub : (hBl hb ab mb (L.filter (fun p => p.o.s != s))).Sublist (hBl hb ab mb L) := by
    unfold hBl
    refine List.Sublist.cons_cons _ (List.Sublist.cons_cons _ (List.Sublist.cons_cons _ ?_))
    clear n4 n5 x h3
    induction L with
    | nil => exact List.Sublist.refl _
    | cons q l ih =>
      rw [List.filter_cons]
      split
      · rw [List.flatMap_cons, List.flatMap_cons]
        exact (List.Sublist.refl _).append ih
      · rw [List.flatMap_cons]
        exact ih.trans (List.sublist_append_right _ _)
  refine ⟨?_, h2, ?_, fun q hq => ?_, x.nd.sublist hsub, fun k hk => x.pos k (hsub.subset hk), ?_, hok⟩
  · rw [hn.1, hn.2.1, hn.2.2]
    exact x.box.kept hk (by show ¬ (hb = ab ∨ hb = mb); omega)
  · have e : (L.filter (fun p => p.o.s != s)).map Pl.e = (L.map Pl.e).filter (fun p => p.1 != s) := by
      rw [List.filter_map]
      rfl
    rw [e]
    exact h3
  · have hq := (List.mem_filter.1 hq).1
    have m1 := n5 q.rb (mem_bl hq (by simp [Pl.bl]))
    have m2 := n5 q.vb (mem_bl hq (by simp [Pl.bl]))
    exact ⟨(x.rows q hq).1.kept hk (by show ¬ (q.rb = ab ∨ q.rb = mb); omega), (x.rows q hq).2.kept hk (by show ¬ (q.vb = ab ∨ q.vb = mb); omega)⟩
  · rw [hcs, ← x.cs, List.filter_map]
    rfl
theorem less_sub {s k : Nat} (hk : k ∈ hBl hb ab mb (L.filter (fun p => p.o.s != s))) : k ∈ hBl hb ab mb L := by
  unfold hBl at *
  simp only [List.mem_cons, List.mem_flatMap] at *
  rcases hk with h | h | h | ⟨p, hp, h⟩
  · exact Or.inl h
  · exact Or.inr (Or.inl h)
  · exact Or.inr (Or.inr (Or.inl h))
  · exact Or.inr (Or.inr (Or.inr ⟨p, (List.mem_filter.1 hp).1, h⟩))
end

set_option maxRecDepth 20000 in
set_option maxHeartbeats 1000000 in
theorem hnew_no (node cells objects : Int) (last : Nat) (h : ¬ (1 ≤ node ∧ node ≤ 64) ∨ ¬ (1 ≤ objects ∧ objects ≤ 64) ∨ 72057594037927935 < last ∨ cells < 16 ∨ 4096 < cells ∨ cells % 16 ≠ 0) (w : World) :
    Calls Tryd.prog 31 #[.int .i64 node, .int .i64 cells, .int .i64 objects, .int .u64 (last : Int)] w fun e w' => e = .returned (.tuple #[.pointer none, .int .i64 1]) ∧ w = w' := by
  have t1 : True := trivial
  by_cases h1 : 1 ≤ node ∧ node ≤ 64
  · have hW1 := fun w => within_yes node 1 64 h1.1 h1.2 w
    by_cases h2 : 1 ≤ objects ∧ objects ≤ 64
    · have hW2 := fun w => within_yes objects 1 64 h2.1 h2.2 w
      by_cases h3 : 72057594037927935 < last
      · have h3i : (72057594037927935 : Int) < (last : Int) := by omega
        clear h h1 h2 h3
        go_enter Tryd.func31, Tryd.ntmps31
        go_wp2_with (first
          | (go_at_call 62; clear t1; refine (hW1 _).mono ?_; rintro e _ ⟨rfl, rfl⟩)
          | (go_at_call 62; refine (hW2 _).mono ?_; rintro e _ ⟨rfl, rfl⟩))
        go_ret2
        exact ⟨rfl, rfl⟩
      · have h3i : ¬ (72057594037927935 : Int) < (last : Int) := by omega
        have hN := fun w => new_no cells (by omega) w
        clear h h1 h2 h3
        go_enter Tryd.func31, Tryd.ntmps31
        go_wp2_with (first
          | (go_at_call 62; clear t1; refine (hW1 _).mono ?_; rintro e _ ⟨rfl, rfl⟩)
          | (go_at_call 62; refine (hW2 _).mono ?_; rintro e _ ⟨rfl, rfl⟩)
          | (go_at_call 63; refine (hN _).mono ?_; rintro e _ ⟨rfl, rfl⟩))
        go_ret2
        exact ⟨rfl, rfl⟩
    · have hW2 := fun w => within_no objects 1 64 (by omega) w
      clear h h1 h2
      go_enter Tryd.func31, Tryd.ntmps31
      go_wp2_with (first
        | (go_at_call 62; clear t1; refine (hW1 _).mono ?_; rintro e _ ⟨rfl, rfl⟩)
        | (go_at_call 62; refine (hW2 _).mono ?_; rintro e _ ⟨rfl, rfl⟩))
      go_ret2
      exact ⟨rfl, rfl⟩
  · have hW1 := fun w => within_no node 1 64 (by omega) w
    clear h h1
    go_enter Tryd.func31, Tryd.ntmps31
    go_wp2_with (go_at_call 62; refine (hW1 _).mono ?_; rintro e _ ⟨rfl, rfl⟩)
    go_ret2
    exact ⟨rfl, rfl⟩

theorem HX.new {w w1 : World} {node most last n : Nat} (h1 : node ≤ 64) (h2 : most ≤ 64) (h3 : last ≤ 72057594037927935) (h4 : n ≤ 256) (ha : AR w1 w.heap.size (List.replicate n bk0)) :
    HX ((w1.alloc (.map #[] 0)).alloc (.cells #[.int .i64 (node : Int), .int .i64 (most : Int), .int .u64 (last : Int), .pointer (some ⟨w.heap.size, 0, none⟩), .map (some w1.heap.size)] 135)) (w1.heap.size + 1) w.heap.size w1.heap.size ⟨node, most, last, List.replicate n bk0, []⟩ [] := by
  have hlt := ha.lt
  have hp := ha.tb.size
  refine ⟨?_, ?_, ?_, by simp, ?_, ?_, rfl, HSt.Ok.new h1 h2 h3 h4⟩
  · have := heap_alloc_new (w1.alloc (.map #[] 0)) (.cells #[.int .i64 (node : Int), .int .i64 (most : Int), .int .u64 (last : Int), .pointer (some ⟨w.heap.size, 0, none⟩), .map (some w1.heap.size)] 135)
    rw [World.size_alloc] at this
    exact this
  · exact (ha.below ((Below.refl _ _).alloc (Nat.le_refl _) _)).below ((Below.refl _ _).alloc (Nat.le_refl _) _)
  · exact (MP.made w1).below ((Below.refl _ _).alloc (Nat.le_refl _) _)
  · simp [hBl]
    omega
  · intro k hk
    simp [hBl] at hk
    have := ha.pos
    omega

set_option maxRecDepth 20000 in
set_option maxHeartbeats 1000000 in
theorem hnew_ok (node n objects last : Nat) (h1 : 1 ≤ node ∧ node ≤ 64) (h2 : 1 ≤ objects ∧ objects ≤ 64) (h3 : last ≤ 72057594037927935) (h4 : 1 ≤ n ∧ n ≤ 256) (w : World) (hT : TB w) :
    Calls Tryd.prog 31 #[.int .i64 (node : Int), .int .i64 ((16 * n : Nat) : Int), .int .i64 (objects : Int), .int .u64 (last : Int)] w fun e w' => ∃ hb F, e = .returned (.tuple #[.pointer (some ⟨hb, 0, none⟩), .int .i64 0]) ∧ HP w' hb F ⟨node, objects, last, List.replicate n bk0, []⟩ ∧ (∀ k, F k → w.heap.size ≤ k) ∧ Below w.heap.size w w' := by
  have t1 : True := trivial
  have hW1 := fun w => within_yes node 1 64 (by omega) (by omega) w
  have hW2 := fun w => within_yes objects 1 64 (by omega) (by omega) w
  have h3i : ¬ (72057594037927935 : Int) < (last : Int) := by omega
  have hN := fun w (h : TB w) => new_ok n h4.1 h4.2 w h
  generalize 16 * n = N at *
  have hmm := @run_makeMap Tryd.prog
  have HNew : Hid (∀ w1, AR w1 w.heap.size (List.replicate n bk0) → HX ((w1.alloc (.map #[] 0)).alloc (.cells #[.int .i64 (node : Int), .int .i64 (objects : Int), .int .u64 (last : Int), .pointer (some ⟨w.heap.size, 0, none⟩), .map (some w1.heap.size)] 135)) (w1.heap.size + 1) w.heap.size w1.heap.size ⟨node, objects, last, List.replicate n bk0, []⟩ []) := fun w1 ha => HX.new h1.2 h2.2 h3 h4.2 ha
  clear h1 h2 h3 h4
  go_enter Tryd.func31, Tryd.ntmps31
  go_wp2_with (first
    | (go_at_call 62; clear t1; refine (hW1 _).mono ?_; rintro e _ ⟨rfl, rfl⟩)
    | (go_at_call 62; refine (hW2 _).mono ?_; rintro e _ ⟨rfl, rfl⟩)
    | (go_at_call 63; refine (hN _ hT).mono ?_; rintro e w1 ⟨rfl, ha1, hb1⟩))
  go_ret2
  have hx := HNew.out w1 ha1
  have hz := hb1.size
  refine ⟨w1.heap.size + 1, _, ?_, hx.hp, fun k hk => ?_, (hb1.alloc hz _).alloc (by simp; omega) _⟩
  · rfl
  · simp [hBl] at hk
    omega

end Go.Proofs.YtlabdbfmfejkaaaDoor
