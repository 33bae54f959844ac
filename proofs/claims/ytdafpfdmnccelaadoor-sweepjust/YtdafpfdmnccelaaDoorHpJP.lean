import Derived.Test.YtdafpfdmnccelaaDoorHpHP
import Derived.Deep.RegionWith
import Derived.Laws.MakeOwn
/- New; what a heap is behind an object is made or freed. -/
/- Make. -/
/- Free, clone, Object. -/
namespace Go.Proofs.YtdafpfdmnccelaaDoor
open Go.RowKit

section
variable {w w' : World} {hb ab mb : Nat} {h : HSt} {L : List Pl}
/-- An object more. -/
theorem HX.more (x : HX w hb ab mb h L) {h' : HSt} {p : Pl} (hcs : h'.cs = h.cs ++ [p.o]) (hok : h'.Ok) (hk : Kept w w' (fun k => k = hb ∨ k = ab ∨ k = mb))
    (h1 : Row w' hb 119 [.int .i64 (h'.node : Int), .int .i64 (h'.most : Int), .int .u64 (h'.last : Int), .pointer (some ⟨ab, 0, none⟩), .map (some mb)])
    (h2 : AR w' ab h'.bs) (h3 : MP w' mb (L.map Pl.e ++ [p.e])) (h4 : Row w' p.rb 51 (idsV p.o.rf)) (h5 : Row w' p.vb 39 (p.o.vl.map uV)) (g1 : w.heap.size ≤ p.rb) (g2 : w.heap.size ≤ p.vb) (g3 : p.rb ≠ p.vb) :
    HX w' hb ab mb h' (L ++ [p]) := by
  obtain ⟨n1, n2, n3, n4, n5⟩ := nd_parts x.nd
  have hlt := x.lt
  have hpos := x.tb.size
  have e : hBl hb ab mb (L ++ [p]) = hBl hb ab mb L ++ [p.rb, p.vb] := by
    unfold hBl
    rw [List.flatMap_append]
    simp [Pl.bl]
  refine ⟨h1, h2, by rw [List.map_append]; exact h3, fun q hq => ?_, ?_, ?_, by rw [List.map_append, x.cs, hcs]; rfl, hok⟩
  · rcases List.mem_append.1 hq with hq | hq
    · have m1 := n5 q.rb (mem_bl hq (by simp [Pl.bl]))
      have m2 := n5 q.vb (mem_bl hq (by simp [Pl.bl]))
      exact ⟨(x.rows q hq).1.kept hk (by show ¬ (q.rb = hb ∨ q.rb = ab ∨ q.rb = mb); omega), (x.rows q hq).2.kept hk (by show ¬ (q.vb = hb ∨ q.vb = ab ∨ q.vb = mb); omega)⟩
    · rw [List.mem_singleton] at hq
      subst hq
      exact ⟨h4, h5⟩
  · rw [e, List.nodup_append]
    refine ⟨x.nd, by simp [g3], fun a ha c hc => ?_⟩
    have := hlt a ha
    simp only [List.mem_cons, List.not_mem_nil, or_false] at hc
    omega
  · intro k hk
    rw [e, List.mem_append] at hk
    rcases hk with hk | hk
    · exact x.pos k hk
    · simp only [List.mem_cons, List.not_mem_nil, or_false] at hk
      omega
/-- An object less. -/
theorem HX.less (x : HX w hb ab mb h L) {h' : HSt} (s : Nat) (hcs : h'.cs = h.cs.filter (fun o => o.s != s)) (hn : h'.node = h.node ∧ h'.most = h.most ∧ h'.last = h.last) (hok : h'.Ok) (hk : Kept w w' (fun k => k = ab ∨ k = mb))
    (h2 : AR w' ab h'.bs) (h3 : MP w' mb ((L.map Pl.e).filter (fun p => p.1 != s))) : HX w' hb ab mb h' (L.filter (fun p => p.o.s != s)) := by
  obtain ⟨n1, n2, n3, n4, n5⟩ := nd_parts x.nd
  have hsub : (hBl hb ab mb (L.filter (fun p => p.o.s != s))).Sublist (hBl hb ab mb L) := by
    unfold hBl
    refine List.Sublist.cons_cons _ (List.Sublist.cons_cons _ (List.Sublist.cons_cons _ ?_))
    clear n4 n5 x h3
    induction L with
    | nil => exact List.Sublist.refl _
    | cons q l ih =>
      rw [List.filter_cons]
      split
      · rw [List.flatMap_cons, List.flatMap_cons]
        exact (List.Sublist.refl _).append ih
      · rw [List.flatMap_cons]
        exact ih.trans (List.sublist_append_right _ _)
  refine ⟨?_, h2, ?_, fun q hq => ?_, x.nd.sublist hsub, fun k hk => x.pos k (hsub.subset hk), ?_, hok⟩
  · rw [hn.1, hn.2.1, hn.2.2]
    exact x.box.kept hk (by show ¬ (hb = ab ∨ hb = mb); omega)
  · have e : (L.filter (fun p => p.o.s != s)).map Pl.e = (L.map Pl.e).filter (fun p => p.1 != s) := by
      rw [List.filter_map]
      rfl
    rw [e]
    exact h3
  · have hq := (List.mem_filter.1 hq).1
    have m1 := n5 q.rb (mem_bl hq (by simp [Pl.bl]))
    have m2 := n5 q.vb (mem_bl hq (by simp [Pl.bl]))
    exact ⟨(x.rows q hq).1.kept hk (by show ¬ (q.rb = ab ∨ q.rb = mb); omega), (x.rows q hq).2.kept hk (by show ¬ (q.vb = ab ∨ q.vb = mb); omega)⟩
  · rw [hcs, ← x.cs, List.filter_map]
    rfl
theorem less_sub {s k : Nat} (hk : k ∈ hBl hb ab mb (L.filter (fun p => p.o.s != s))) : k ∈ hBl hb ab mb L := by
  unfold hBl at *
  simp only [List.mem_cons, List.mem_flatMap] at *
  rcases hk with h | h | h | ⟨p, hp, h⟩
  · exact Or.inl h
  · exact Or.inr (Or.inl h)
  · exact Or.inr (Or.inr (Or.inl h))
  · exact Or.inr (Or.inr (Or.inr ⟨p, (List.mem_filter.1 hp).1, h⟩))
end

set_option maxRecDepth 20000 in
set_option maxHeartbeats 1000000 in
theorem hnew_no (node cells objects : Int) (last : Nat) (h : ¬ (1 ≤ node ∧ node ≤ 64) ∨ ¬ (1 ≤ objects ∧ objects ≤ 64) ∨ 72057594037927935 < last ∨ cells < 16 ∨ 4096 < cells ∨ cells % 16 ≠ 0) (w : World) :
    Calls Tryd.prog 27 #[.int .i64 node, .int .i64 cells, .int .i64 objects, .int .u64 (last : Int)] w fun e w' => e = .returned (.tuple #[.pointer none, .int .i64 1]) ∧ w = w' := by
  have t1 : True := trivial
  by_cases h1 : 1 ≤ node ∧ node ≤ 64
  · have hW1 := fun w => within_yes node 1 64 h1.1 h1.2 w
    by_cases h2 : 1 ≤ objects ∧ objects ≤ 64
    · have hW2 := fun w => within_yes objects 1 64 h2.1 h2.2 w
      by_cases h3 : 72057594037927935 < last
      · have h3i : (72057594037927935 : Int) < (last : Int) := by omega
        clear h h1 h2 h3
        go_enter Tryd.func27, Tryd.ntmps27
        go_wp2_with (first
          | (go_at_call 51; clear t1; refine (hW1 _).mono ?_; rintro e _ ⟨rfl, rfl⟩)
          | (go_at_call 51; refine (hW2 _).mono ?_; rintro e _ ⟨rfl, rfl⟩))
        go_ret2
        exact ⟨rfl, rfl⟩
      · have h3i : ¬ (72057594037927935 : Int) < (last : Int) := by omega
        have hN := fun w => new_no cells (by omega) w
        clear h h1 h2 h3
        go_enter Tryd.func27, Tryd.ntmps27
        go_wp2_with (first
          | (go_at_call 51; clear t1; refine (hW1 _).mono ?_; rintro e _ ⟨rfl, rfl⟩)
          | (go_at_call 51; refine (hW2 _).mono ?_; rintro e _ ⟨rfl, rfl⟩)
          | (go_at_call 61; refine (hN _).mono ?_; rintro e _ ⟨rfl, rfl⟩))
        go_ret2
        exact ⟨rfl, rfl⟩
    · have hW2 := fun w => within_no objects 1 64 (by omega) w
      clear h h1 h2
      go_enter Tryd.func27, Tryd.ntmps27
      go_wp2_with (first
        | (go_at_call 51; clear t1; refine (hW1 _).mono ?_; rintro e _ ⟨rfl, rfl⟩)
        | (go_at_call 51; refine (hW2 _).mono ?_; rintro e _ ⟨rfl, rfl⟩))
      go_ret2
      exact ⟨rfl, rfl⟩
  · have hW1 := fun w => within_no node 1 64 (by omega) w
    clear h h1
    go_enter Tryd.func27, Tryd.ntmps27
    go_wp2_with (go_at_call 51; refine (hW1 _).mono ?_; rintro e _ ⟨rfl, rfl⟩)
    go_ret2
    exact ⟨rfl, rfl⟩

theorem HX.new {w w1 : World} {node most last n : Nat} (h1 : node ≤ 64) (h2 : most ≤ 64) (h3 : last ≤ 72057594037927935) (h4 : n ≤ 256) (ha : AR w1 w.heap.size (List.replicate n bk0)) :
    HX ((w1.alloc (.map #[] 0)).alloc (.cells #[.int .i64 (node : Int), .int .i64 (most : Int), .int .u64 (last : Int), .pointer (some ⟨w.heap.size, 0, none⟩), .map (some w1.heap.size)] 119)) (w1.heap.size + 1) w.heap.size w1.heap.size ⟨node, most, last, List.replicate n bk0, []⟩ [] := by
  have hlt := ha.lt
  have hp := ha.tb.size
  refine ⟨?_, ?_, ?_, by simp, ?_, ?_, rfl, HSt.Ok.new h1 h2 h3 h4⟩
  · have := heap_alloc_new (w1.alloc (.map #[] 0)) (.cells #[.int .i64 (node : Int), .int .i64 (most : Int), .int .u64 (last : Int), .pointer (some ⟨w.heap.size, 0, none⟩), .map (some w1.heap.size)] 119)
    rw [World.size_alloc] at this
    exact this
  · exact (ha.below ((Below.refl _ _).alloc (Nat.le_refl _) _)).below ((Below.refl _ _).alloc (Nat.le_refl _) _)
  · exact (MP.made w1).below ((Below.refl _ _).alloc (Nat.le_refl _) _)
  · simp [hBl]
    omega
  · intro k hk
    simp [hBl] at hk
    have := ha.pos
    omega

set_option maxRecDepth 20000 in
set_option maxHeartbeats 1000000 in
theorem hnew_ok (node n objects last : Nat) (h1 : 1 ≤ node ∧ node ≤ 64) (h2 : 1 ≤ objects ∧ objects ≤ 64) (h3 : last ≤ 72057594037927935) (h4 : 1 ≤ n ∧ n ≤ 256) (w : World) (hT : TB w) :
    Calls Tryd.prog 27 #[.int .i64 (node : Int), .int .i64 ((16 * n : Nat) : Int), .int .i64 (objects : Int), .int .u64 (last : Int)] w fun e w' => ∃ hb F, e = .returned (.tuple #[.pointer (some ⟨hb, 0, none⟩), .int .i64 0]) ∧ HP w' hb F ⟨node, objects, last, List.replicate n bk0, []⟩ ∧ (∀ k, F k → w.heap.size ≤ k) ∧ Below w.heap.size w w' := by
  have t1 : True := trivial
  have hW1 := fun w => within_yes node 1 64 (by omega) (by omega) w
  have hW2 := fun w => within_yes objects 1 64 (by omega) (by omega) w
  have h3i : ¬ (72057594037927935 : Int) < (last : Int) := by omega
  have hN := fun w (h : TB w) => new_ok n h4.1 h4.2 w h
  generalize 16 * n = N at *
  have hmm := @run_makeMap Tryd.prog
  have HNew : Hid (∀ w1, AR w1 w.heap.size (List.replicate n bk0) → HX ((w1.alloc (.map #[] 0)).alloc (.cells #[.int .i64 (node : Int), .int .i64 (objects : Int), .int .u64 (last : Int), .pointer (some ⟨w.heap.size, 0, none⟩), .map (some w1.heap.size)] 119)) (w1.heap.size + 1) w.heap.size w1.heap.size ⟨node, objects, last, List.replicate n bk0, []⟩ []) := fun w1 ha => HX.new h1.2 h2.2 h3 h4.2 ha
  clear h1 h2 h3 h4
  go_enter Tryd.func27, Tryd.ntmps27
  go_wp2_with (first
    | (go_at_call 51; clear t1; refine (hW1 _).mono ?_; rintro e _ ⟨rfl, rfl⟩)
    | (go_at_call 51; refine (hW2 _).mono ?_; rintro e _ ⟨rfl, rfl⟩)
    | (go_at_call 61; refine (hN _ hT).mono ?_; rintro e w1 ⟨rfl, ha1, hb1⟩))
  go_ret2
  have hx := HNew.out w1 ha1
  have hz := hb1.size
  refine ⟨w1.heap.size + 1, _, ?_, hx.hp, fun k hk => ?_, (hb1.alloc hz _).alloc (by simp; omega) _⟩
  · rfl
  · simp [hBl] at hk
    omega

end Go.Proofs.YtdafpfdmnccelaaDoor

namespace Go.Proofs.YtdafpfdmnccelaaDoor
open Go.RowKit

theorem Tryd.infoID : (Tryd.prog.info? 51).map (fun i => (i.zero, i.size, i.bytes)) = some (some (.agg #[.int .i64 0, .int .u64 0]), 2, 16) := by kernel_rfl
theorem Tryd.infoU64 : (Tryd.prog.info? 39).map (fun i => (i.zero, i.size, i.bytes)) = some (some (.int .u64 0), 1, 8) := by kernel_rfl
theorem made_ids (n : Nat) : madeCells (Value.agg #[.int .i64 0, .int .u64 0]).cells (n * 2) = (idsV (List.replicate n (0, 0))).toArray := by
  apply Array.ext'
  apply List.ext_getElem?
  intro i
  have hl : (idsV (List.replicate n ((0, 0) : Int × Nat))).length = n * 2 := by rw [idsV_len, List.length_replicate]
  show ((Array.range (n * 2)).map ((#[Value.int .i64 0, Value.int .u64 0] : Array Value)[· % 2]!)).toList[i]? = _
  rw [Array.getElem?_toList, Array.getElem?_map]
  by_cases hi : i < n * 2
  · rw [Array.getElem?_range, if_pos hi]
    simp only [Option.map_some]
    obtain ⟨h1, h2⟩ := idsV_at (List.replicate n ((0, 0) : Int × Nat)) (i / 2) (by rw [List.length_replicate]; omega)
    rw [List.getElem_replicate] at h1 h2
    rcases Nat.mod_two_eq_zero_or_one i with e | e
    · rw [e, show i = i / 2 * 2 by omega, h1]
      rfl
    · rw [e]
      have e2 : i = i / 2 * 2 + 1 := by omega
      rw [e2, h2]
      rfl
  · rw [Array.getElem?_range, if_neg hi, List.getElem?_eq_none (by simp; omega)]
    rfl
theorem made_u64 (n : Nat) : madeCells (Value.int .u64 0).cells (n * 1) = ((List.replicate n 0).map uV).toArray := by
  rw [Nat.mul_one, show (Value.int .u64 0).cells = #[Value.int .u64 0] from rfl]
  apply Array.ext'
  rw [toList_madeCells_one, List.map_replicate]
  rfl

section
variable {w w1 : World} {hb ab mb : Nat} {h : HSt} {L : List Pl}
/-- Behind the arena gave a cell, the serial rose, and two blocks were laid. -/
theorem HX.makes (x : HX w hb ab mb h L) (r v : Nat) (hE : (h.makeR (r : Int) (v : Int)).2 = 0) (ha : AR w1 ab (allocL h.bs (1 + r + v))) (k1 : Kept w w1 (fun k => k = ab)) (A B : Obj) (rb vb : Nat)
    (hr : (((w1.setCell ⟨hb, 2, none⟩ (.int .u64 ((h.last + 1 : Nat) : Int))).alloc A).alloc B).heap[rb]? = some (.cells (idsV (List.replicate r (0, 0))).toArray 51 (0, 0)))
    (hv : (((w1.setCell ⟨hb, 2, none⟩ (.int .u64 ((h.last + 1 : Nat) : Int))).alloc A).alloc B).heap[vb]? = some (.cells ((List.replicate v 0).map uV).toArray 39 (0, 0)))
    (g1 : w1.heap.size ≤ rb) (g2 : w1.heap.size ≤ vb) (g3 : rb ≠ vb) :
    ∃ w', (Instr.mapUpdate 117 (.map (some mb)) (.int .u64 ((h.last + 1 : Nat) : Int)) (.agg #[.int .u64 ((h.last + 1 : Nat) : Int), .int .i64 ((allocR h.bs (1 + r + v)).1 : Int), .slice (some ⟨rb, 0, none⟩) r r, .slice (some ⟨vb, 0, none⟩) v v, .int .i64 0])).run Tryd.prog (((w1.setCell ⟨hb, 2, none⟩ (.int .u64 ((h.last + 1 : Nat) : Int))).alloc A).alloc B).drew = .ok () w'
      ∧ Goes w w' hb (fun k => k ∈ hBl hb ab mb L) (h.makeS (r : Int) (v : Int)) ∧ w'.cell? ⟨hb, 2, none⟩ = some (.int .u64 ((h.last + 1 : Nat) : Int)) := by
  obtain ⟨_, _, _, _, q5, q6, q7, q8⟩ := HSt.makeR_ok hE
  obtain ⟨n1, n2, n3, n4, n5⟩ := nd_parts x.nd
  have hst := x.ok.make (r : Int) (v : Int)
  have hlt := x.lt
  have hpos := x.pos
  have hws := k1.size
  generalize hW : (((w1.setCell ⟨hb, 2, none⟩ (.int .u64 ((h.last + 1 : Nat) : Int))).alloc A).alloc B) = W at *
  have kW : Kept w1 W (fun k => k = hb) := by
    rw [← hW]
    exact ((Kept.setCell w1 ⟨hb, 2, none⟩ _).trans (Kept.alloc _ A (fun _ => False)) (fun _ _ e => e.elim)).trans (Kept.alloc _ B (fun _ => False)) (fun _ _ e => e.elim)
  have hm1 : MP W.drew mb (L.map Pl.e) := ((x.mp.kept k1 (by show ¬ (mb = ab); omega)).kept kW (by show ¬ (mb = hb); omega)).kept (Kept.drew W) id
  have hnone : lookE (L.map Pl.e) (h.last + 1) = none := by
    rw [getP_look, Option.map_eq_none_iff]
    unfold getP
    rw [List.find?_eq_none]
    intro p hp
    have := x.ok.le p.o (by rw [← x.cs]; exact List.mem_map.2 ⟨p, hp, rfl⟩)
    simp
    omega
  have hfew : (L.map Pl.e).length < 1000 := by
    rw [List.length_map, x.count]
    have := x.ok.cnt
    have := x.ok.most
    omega
  obtain ⟨w', hrun, hm2, k2⟩ := hm1.put Tryd.underlying117 (h.last + 1) (by omega) hnone hfew (.agg #[.int .u64 ((h.last + 1 : Nat) : Int), .int .i64 ((allocR h.bs (1 + r + v)).1 : Int), .slice (some ⟨rb, 0, none⟩) r r, .slice (some ⟨vb, 0, none⟩) v v, .int .i64 0])
  have kD0 : Kept W W.drew (fun k => k = mb) := (Kept.drew W).mono (fun _ _ e => e.elim)
  have kD : Kept W w' (fun k => k = mb) := kD0.trans k2 (fun _ _ e => e)
  have hbox1 : Row w1 hb 119 [.int .i64 (h.node : Int), .int .i64 (h.most : Int), .int .u64 (h.last : Int), .pointer (some ⟨ab, 0, none⟩), .map (some mb)] := x.box.kept k1 (by show ¬ (hb = ab); omega)
  have hbox2 := (((hbox1.set 2 (.int .u64 ((h.last + 1 : Nat) : Int))).kept (Kept.alloc _ A (fun _ => False)) id).kept (Kept.alloc _ B (fun _ => False)) id)
  rw [hW] at hbox2
  have hbox3 := hbox2.kept kD (by show ¬ (hb = mb); omega)
  have hWs : w1.heap.size ≤ W.heap.size := kW.size
  have hrlt := (Array.getElem?_eq_some_iff.1 hr).1
  have hvlt := (Array.getElem?_eq_some_iff.1 hv).1
  have hmlt := hlt mb (by simp [hBl])
  have kAll : Kept w w' (fun k => k = hb ∨ k = ab ∨ k = mb) := ((k1.mono (fun k _ e => Or.inr (Or.inl e))).trans kW (fun k _ e => Or.inl e)).trans kD (fun k _ e => Or.inr (Or.inr e))
  have hs : h.makeS (r : Int) (v : Int) = { h with last := h.last + 1, bs := allocL h.bs (1 + r + v), cs := h.cs ++ [h.newO r v] } := by
    unfold HSt.makeS
    rw [if_pos hE]
  have x' : HX w' hb ab mb (h.makeS (r : Int) (v : Int)) (L ++ [⟨h.newO r v, 0, rb, vb⟩]) := by
    refine x.more (p := ⟨h.newO r v, 0, rb, vb⟩) (by rw [hs]) hst kAll (by rw [hs]; exact hbox3) ?_ ?_ ?_ ?_ (by show w.heap.size ≤ rb; omega) (by show w.heap.size ≤ vb; omega) g3
    · rw [hs]
      exact (ha.kept kW (by have := hpos hb (by simp [hBl]); show ¬ (0 = hb); omega) (by show ¬ (ab = hb); omega)).kept kD (by have := hpos mb (by simp [hBl]); show ¬ (0 = mb); omega) (by show ¬ (ab = mb); omega)
    · have e : Pl.e ⟨h.newO r v, 0, rb, vb⟩ = (h.last + 1, .agg #[.int .u64 ((h.last + 1 : Nat) : Int), .int .i64 ((allocR h.bs (1 + r + v)).1 : Int), .slice (some ⟨rb, 0, none⟩) r r, .slice (some ⟨vb, 0, none⟩) v v, .int .i64 0]) := by
        simp [Pl.e, Pl.v, HSt.newO]
      rw [e]
      exact hm2
    · show Row w' rb 51 (idsV (List.replicate (r : Int).toNat (0, 0)))
      rw [Int.toNat_natCast]
      exact (kD.block rb hrlt (by show ¬ (rb = mb); omega)).trans hr
    · show Row w' vb 39 ((List.replicate (v : Int).toNat 0).map uV)
      rw [Int.toNat_natCast]
      exact (kD.block vb hvlt (by show ¬ (vb = mb); omega)).trans hv
  refine ⟨w', hrun, x'.goes (kAll.mono (fun k _ e => ?_)) (fun k hk => ?_), ?_⟩
  · rcases e with e | e | e <;> simp [hBl, e]
  · have e : hBl hb ab mb (L ++ [⟨h.newO r v, 0, rb, vb⟩]) = hBl hb ab mb L ++ [rb, vb] := by
      unfold hBl
      rw [List.flatMap_append]
      simp [Pl.bl]
    rw [e, List.mem_append] at hk
    rcases hk with hk | hk
    · exact Or.inl hk
    · simp only [List.mem_cons, List.not_mem_nil, or_false] at hk
      exact Or.inr (by omega)
  · have := hbox3.cell 2 (by simp)
    simpa using this

theorem makeR_no {r v : Int} (hn : ¬ (0 ≤ r ∧ r ≤ 7 ∧ 0 ≤ v ∧ v ≤ 7)) : h.makeR r v = (0, 1) ∧ h.makeS r v = h := by
  have e : h.makeR r v = (0, 1) := by unfold HSt.makeR; exact if_neg hn
  refine ⟨e, ?_⟩
  unfold HSt.makeS
  rw [e]
  exact if_neg (by simp)
theorem makeR_full {r v : Int} (hn : 0 ≤ r ∧ r ≤ 7 ∧ 0 ≤ v ∧ v ≤ 7) (h1 : h.most ≤ h.cs.length) : h.makeR r v = (0, 6) ∧ h.makeS r v = h := by
  have e : h.makeR r v = (0, 6) := by unfold HSt.makeR; rw [if_pos hn, if_pos h1]
  refine ⟨e, ?_⟩
  unfold HSt.makeS
  rw [e]
  exact if_neg (by simp)
theorem makeR_end {r v : Int} (hn : 0 ≤ r ∧ r ≤ 7 ∧ 0 ≤ v ∧ v ≤ 7) (h1 : ¬ h.most ≤ h.cs.length) (h2 : 72057594037927935 ≤ h.last) : h.makeR r v = (0, 7) ∧ h.makeS r v = h := by
  have e : h.makeR r v = (0, 7) := by unfold HSt.makeR; rw [if_pos hn, if_neg h1, if_pos h2]
  refine ⟨e, ?_⟩
  unfold HSt.makeS
  rw [e]
  exact if_neg (by simp)
theorem makeR_oom {r v : Int} (hn : 0 ≤ r ∧ r ≤ 7 ∧ 0 ≤ v ∧ v ≤ 7) (h1 : ¬ h.most ≤ h.cs.length) (h2 : ¬ 72057594037927935 ≤ h.last) (h3 : ¬ (allocR h.bs (1 + r + v)).2 = 0) : h.makeR r v = (0, (allocR h.bs (1 + r + v)).2) ∧ h.makeS r v = h := by
  have e : h.makeR r v = (0, (allocR h.bs (1 + r + v)).2) := by unfold HSt.makeR; rw [if_pos hn, if_neg h1, if_neg h2, if_neg h3]
  refine ⟨e, ?_⟩
  unfold HSt.makeS
  rw [e]
  exact if_neg (by simpa using h3)
theorem makeR_yes {r v : Int} (hn : 0 ≤ r ∧ r ≤ 7 ∧ 0 ≤ v ∧ v ≤ 7) (h1 : ¬ h.most ≤ h.cs.length) (h2 : ¬ 72057594037927935 ≤ h.last) (h3 : (allocR h.bs (1 + r + v)).2 = 0) : h.makeR r v = (h.last + 1, 0) := by
  unfold HSt.makeR
  rw [if_pos hn, if_neg h1, if_neg h2, if_pos h3]
theorem HX.arena {w' : World} (x : HX w hb ab mb h L) (hk : Kept w w' (fun k => k = ab)) (ha : AR w' ab h.bs) : HX w' hb ab mb h L := by
  obtain ⟨n1, n2, n3, n4, n5⟩ := nd_parts x.nd
  exact ⟨x.box.kept hk (by show ¬ (hb = ab); omega), ha, x.mp.kept hk (by show ¬ (mb = ab); omega),
    fun p hp => ⟨(x.rows p hp).1.kept hk (by have := n5 p.rb (mem_bl hp (by simp [Pl.bl])); show ¬ (p.rb = ab); omega), (x.rows p hp).2.kept hk (by have := n5 p.vb (mem_bl hp (by simp [Pl.bl])); show ¬ (p.vb = ab); omega)⟩, x.nd, x.pos, x.cs, x.ok⟩
theorem heap_a0 (w : World) (a b : Obj) : ((w.alloc a).alloc b).heap[w.heap.size]? = some a := by
  rw [Below.heap_alloc _ _ _ (by simp)]
  exact heap_alloc_new _ _
theorem heap_a1 (w : World) (a b : Obj) : ((w.alloc a).alloc b).heap[w.heap.size + 1]? = some b := by
  have e : (w.alloc a).heap.size = w.heap.size + 1 := by simp
  rw [← e]
  exact heap_alloc_new _ _

set_option maxRecDepth 20000 in
set_option maxHeartbeats 2000000 in
theorem hmake_any (x : HX w hb ab mb h L) (r v : Int) :
    Calls Tryd.prog 17 #[.pointer (some ⟨hb, 0, none⟩), .int .i64 r, .int .i64 v] w fun e w' => e = .returned (.tuple #[.int .u64 ((h.makeR r v).1 : Int), .int .i64 ((h.makeR r v).2 : Int)]) ∧ Goes w w' hb (fun k => k ∈ hBl hb ab mb L) (h.makeS r v) := by
  have t1 : True := trivial
  by_cases h1 : 0 ≤ r ∧ r ≤ 7
  · have hW1 := fun w => within_yes r 0 7 h1.1 h1.2 w
    by_cases h2 : 0 ≤ v ∧ v ≤ 7
    · have hW2 := fun w => within_yes v 0 7 h2.1 h2.2 w
      have hn : 0 ≤ r ∧ r ≤ 7 ∧ 0 ≤ v ∧ v ≤ 7 := ⟨h1.1, h1.2, h2.1, h2.2⟩
      have c1 := x.c1
      have c2 := x.c2
      have c3 := x.c3
      have c4 := x.c4
      have hlen := fun ty => (x.below ((Below.refl _ _).drew)).len ty
      have hxp := x.hp
      by_cases h3 : h.most ≤ h.cs.length
      · obtain ⟨e1, e2⟩ := makeR_full hn h3
        rw [e1, e2]
        have h3i : (h.most : Int) ≤ (h.cs.length : Int) := by omega
        clear e1 e2 hn h1 h2 h3
        go_enter Tryd.func17, Tryd.ntmps17
        go_wp2_with (first
          | (go_at_call 51; clear t1; refine (hW1 _).mono ?_; rintro e _ ⟨rfl, rfl⟩)
          | (go_at_call 51; refine (hW2 _).mono ?_; rintro e _ ⟨rfl, rfl⟩))
        go_region
        go_wp2
        go_ret2
        exact ⟨rfl, hxp.stay ((Below.refl _ _).drew)⟩
      have h3i : ¬ (h.most : Int) ≤ (h.cs.length : Int) := by omega
      by_cases h4 : 72057594037927935 ≤ h.last
      · obtain ⟨e1, e2⟩ := makeR_end hn h3 h4
        rw [e1, e2]
        have h4i : (72057594037927935 : Int) ≤ (h.last : Int) := by omega
        clear e1 e2 hn h1 h2 h3 h4
        go_enter Tryd.func17, Tryd.ntmps17
        go_wp2_with (first
          | (go_at_call 51; clear t1; refine (hW1 _).mono ?_; rintro e _ ⟨rfl, rfl⟩)
          | (go_at_call 51; refine (hW2 _).mono ?_; rintro e _ ⟨rfl, rfl⟩))
        go_region
        go_wp2
        go_ret2
        exact ⟨rfl, hxp.stay ((Below.refl _ _).drew)⟩
      have h4i : (h.last : Int) ≤ 72057594037927934 := by omega
      have h4d : decide ((72057594037927935 : Int) ≤ (h.last : Int)) = false := decide_eq_false (by omega)
      have hAl := alloc_any ab h.bs (1 + r + v) x.ok.ao w.drew (x.below ((Below.refl _ _).drew)).ar
      have k0 : Kept w w.drew (fun k => k = ab) := (Kept.drew w).mono (fun _ _ e => e.elim)
      by_cases h5 : (allocR h.bs (1 + r + v)).2 = 0
      · rw [makeR_yes hn h3 h4 h5]
        have hE : (h.makeR r v).2 = 0 := by rw [makeR_yes hn h3 h4 h5]
        obtain ⟨rn, rfl⟩ : ∃ rn : Nat, r = (rn : Int) := ⟨r.toNat, by omega⟩
        obtain ⟨vn, rfl⟩ : ∃ vn : Nat, v = (vn : Int) := ⟨v.toNat, by omega⟩
        rw [h5] at hAl
        have hM1 : ∀ w1, AR w1 ab (allocL h.bs (1 + rn + vn)) → Kept w w1 (fun k => k = ab) → _ := fun w1 ha k1 => x.makes rn vn hE ha k1 (.cells (idsV (List.replicate rn (0, 0))).toArray 51) (.cells ((List.replicate vn 0).map uV).toArray 39) w1.heap.size (w1.heap.size + 1)
          (by have := heap_a0 (w1.setCell ⟨hb, 2, none⟩ (.int .u64 ((h.last + 1 : Nat) : Int))) (.cells (idsV (List.replicate rn (0, 0))).toArray 51) (.cells ((List.replicate vn 0).map uV).toArray 39); simpa using this) (by have := heap_a1 (w1.setCell ⟨hb, 2, none⟩ (.int .u64 ((h.last + 1 : Nat) : Int))) (.cells (idsV (List.replicate rn (0, 0))).toArray 51) (.cells ((List.replicate vn 0).map uV).toArray 39); simpa using this) (Nat.le_refl _) (Nat.le_succ _) (by omega)
        have hM2 : ∀ w1, AR w1 ab (allocL h.bs (1 + rn + vn)) → Kept w w1 (fun k => k = ab) → _ := fun w1 ha k1 => x.makes rn vn hE ha k1 (.cells ((List.replicate vn 0).map uV).toArray 39) (.cells (idsV (List.replicate rn (0, 0))).toArray 51) (w1.heap.size + 1) w1.heap.size
          (by have := heap_a1 (w1.setCell ⟨hb, 2, none⟩ (.int .u64 ((h.last + 1 : Nat) : Int))) (.cells ((List.replicate vn 0).map uV).toArray 39) (.cells (idsV (List.replicate rn (0, 0))).toArray 51); simpa using this) (by have := heap_a0 (w1.setCell ⟨hb, 2, none⟩ (.int .u64 ((h.last + 1 : Nat) : Int))) (.cells ((List.replicate vn 0).map uV).toArray 39) (.cells (idsV (List.replicate rn (0, 0))).toArray 51); simpa using this) (Nat.le_succ _) (Nat.le_refl _) (by omega)
        obtain ⟨i, hi, hz0, hz1, hz2⟩ := info_parts Tryd.infoID
        obtain ⟨i2, hi2, hy0, hy1, hy2⟩ := info_parts Tryd.infoU64
        have hm1 : ∀ W : World, (Instr.makeSlice 64 (.int .i64 (rn : Int)) (.int .i64 (rn : Int))).run Tryd.prog W = .ok (.slice (some ⟨W.heap.size, 0, none⟩) rn rn) (W.alloc (.cells (idsV (List.replicate rn (0, 0))).toArray 51)) := fun W => by
          have := run_make (P := Tryd.prog) W 64 51 i _ Tryd.underlying64 hi hz0 .i64 .i64 (rn : Int) (rn : Int) (by omega) (Int.le_refl _) (by rw [hz2]; omega) (by omega)
          rw [hz1, Int.toNat_natCast, made_ids] at this
          exact this
        have hm2 : ∀ W : World, (Instr.makeSlice 42 (.int .i64 (vn : Int)) (.int .i64 (vn : Int))).run Tryd.prog W = .ok (.slice (some ⟨W.heap.size, 0, none⟩) vn vn) (W.alloc (.cells ((List.replicate vn 0).map uV).toArray 39)) := fun W => by
          have := run_make (P := Tryd.prog) W 42 39 i2 _ Tryd.underlying42 hi2 hy0 .i64 .i64 (vn : Int) (vn : Int) (by omega) (Int.le_refl _) (by rw [hy2]; omega) (by omega)
          rw [hy1, Int.toNat_natCast, made_u64] at this
          exact this
        clear hi hz0 hz1 hz2 hi2 hy0 hy1 hy2
        obtain ⟨n1, n2, n3, n4, n5⟩ := nd_parts x.nd
        have hcs : ∀ w1, Kept w w1 (fun k => k = ab) → w1.cell? ⟨hb, 2, none⟩ = some (.int .u64 (h.last : Int)) ∧ w1.frozen? ⟨hb, 2, none⟩ = false ∧ w1.cell? ⟨hb, 4, none⟩ = some (.map (some mb)) := fun w1 k1 => by
          have hr := x.box.kept k1 (by show ¬ (hb = ab); omega)
          exact ⟨hr.cell 2 (by simp), hr.frozen 2, hr.cell 4 (by simp)⟩
        have hhb := x.lt hb (by simp [hBl])
        have hN : (h.last : Int) + 1 = ((h.last + 1 : Nat) : Int) := by omega
        generalize h.last + 1 = N at *
        generalize (idsV (List.replicate rn (0, 0))).toArray = A at *
        generalize ((List.replicate vn 0).map uV).toArray = B at *
        generalize (allocR h.bs (1 + (rn : Int) + (vn : Int))).1 = c at *
        have hr7 : (rn : Int) ≤ 7 := h1.2
        have hv7 : (vn : Int) ≤ 7 := h2.2
        clear hn h1 h2 h3 h4 h5 hE n1 n2 n3 n4 n5
        go_enter Tryd.func17, Tryd.ntmps17
        go_wp2_with (first
          | (go_at_call 51; clear t1; refine (hW1 _).mono ?_; rintro e _ ⟨rfl, rfl⟩)
          | (go_at_call 51; refine (hW2 _).mono ?_; rintro e _ ⟨rfl, rfl⟩))
        go_region
        go_wp2_with (go_at_call 52; refine hAl.mono ?_; rintro e w1 ⟨rfl, ha1, hk1⟩; obtain ⟨d2, f2, d4⟩ := hcs w1 (k0.trans hk1 (fun _ _ e => e)); obtain ⟨wa, ua, ga, ca⟩ := hM1 w1 ha1 (k0.trans hk1 (fun _ _ e => e)); obtain ⟨wb, ub, gb, cb⟩ := hM2 w1 ha1 (k0.trans hk1 (fun _ _ e => e)); have hz1 : hb < w1.heap.size := Nat.lt_of_lt_of_le hhb (k0.trans hk1 (fun _ _ e => e)).size; clear hM1 hM2 hcs)
        go_region
        all_goals
          go_wp2
          go_ret2
          first | exact ⟨rfl, ga⟩ | exact ⟨rfl, gb⟩
      · obtain ⟨e1, e2⟩ := makeR_oom hn h3 h4 h5
        rw [e1, e2]
        have hL : allocL h.bs (1 + r + v) = h.bs := by
          rcases allocR_err (bs := h.bs) (s := 1 + r + v) (by omega) (by omega) with e | e
          · exact absurd e h5
          · exact e.2
        rw [hL] at hAl
        have h5i : (((allocR h.bs (1 + r + v)).2 : Int) != 0) = true := by rw [bne_iff_ne]; omega
        have HA : Hid (∀ w1, AR w1 ab h.bs → Kept w.drew w1 (fun k => k = ab) → Goes w w1 hb (fun k => k ∈ hBl hb ab mb L) h) := fun w1 ha hk => (x.arena (k0.trans hk (fun _ _ e => e)) ha).goes ((k0.trans hk (fun _ _ e => e)).mono (fun k _ e => by have e' : k = ab := e; rw [e']; simp [hBl])) (fun k hk => Or.inl hk)
        generalize allocR h.bs (1 + r + v) = c at *
        obtain ⟨r0, r7, v0, v7⟩ := hn
        clear e1 e2 h1 h2 h3 h4 h5 hL
        go_enter Tryd.func17, Tryd.ntmps17
        go_wp2_with (first
          | (go_at_call 51; clear t1; refine (hW1 _).mono ?_; rintro e _ ⟨rfl, rfl⟩)
          | (go_at_call 51; refine (hW2 _).mono ?_; rintro e _ ⟨rfl, rfl⟩))
        go_region
        go_wp2_with (go_at_call 52; refine hAl.mono ?_; rintro e w1 ⟨rfl, ha1, hk1⟩)
        go_ret2
        exact ⟨rfl, HA.out w1 ha1 hk1⟩
    · have hW2 := fun w => within_no v 0 7 (by omega) w
      obtain ⟨e1, e2⟩ := makeR_no (h := h) (r := r) (v := v) (fun e => h2 ⟨e.2.2.1, e.2.2.2⟩)
      rw [e1, e2]
      clear e1 e2 h1 h2
      go_enter Tryd.func17, Tryd.ntmps17
      go_wp2_with (first
        | (go_at_call 51; clear t1; refine (hW1 _).mono ?_; rintro e _ ⟨rfl, rfl⟩)
        | (go_at_call 51; refine (hW2 _).mono ?_; rintro e _ ⟨rfl, rfl⟩))
      go_ret2
      exact ⟨rfl, x.goes (Kept.refl _ _) (fun k hk => Or.inl hk)⟩
  · have hW1 := fun w => within_no r 0 7 (by omega) w
    obtain ⟨e1, e2⟩ := makeR_no (h := h) (r := r) (v := v) (fun e => h1 ⟨e.1, e.2.1⟩)
    rw [e1, e2]
    clear e1 e2 h1
    go_enter Tryd.func17, Tryd.ntmps17
    go_wp2_with (go_at_call 51; refine (hW1 _).mono ?_; rintro e _ ⟨rfl, rfl⟩)
    go_ret2
    exact ⟨rfl, x.goes (Kept.refl _ _) (fun k hk => Or.inl hk)⟩
end

end Go.Proofs.YtdafpfdmnccelaaDoor

namespace Go.Proofs.YtdafpfdmnccelaaDoor
open Go.RowKit

section
variable {w : World} {hb ab mb : Nat} {h : HSt} {L : List Pl}
theorem HX.frees (x : HX w hb ab mb h L) {s : Nat} (hs : s < 18446744073709551616) {p : Pl} (hg : getP L s = some p) {w1 w2 : World} (hB : Below w.heap.size w w1) (ha : AR w2 ab (freeL h.bs (p.o.c : Int))) (k1 : Kept w1 w2 (fun k => k = ab)) (ty : TypeId) :
    ∃ w', (Builtin.delete_ #[117, 39] ty #[.map (some mb), .int .u64 (s : Int)]).run Tryd.prog w2 = .ok (.tuple #[]) w' ∧ Goes w w' hb (fun k => k ∈ hBl hb ab mb L) (h.freeS s) := by
  obtain ⟨n1, n2, n3, n4, n5⟩ := nd_parts x.nd
  have x1 := x.below hB
  have hm := x1.mp.kept k1 (by show ¬ (mb = ab); omega)
  obtain ⟨w', hrun, hm2, k2⟩ := hm.del Tryd.underlying117 s hs (u := p.v) (by rw [getP_look, hg]; rfl) ty
  have hgc : getC h.cs s = some p.o := by rw [x.get, hg]; rfl
  have hsS : h.freeS s = { h with bs := freeL h.bs (p.o.c : Int), cs := h.cs.filter (fun o => o.s != s) } := by
    unfold HSt.freeS
    rw [hgc]
  have kAll : Kept w1 w' (fun k => k = ab ∨ k = mb) := (k1.mono (fun k _ e => Or.inl e)).trans k2 (fun k _ e => Or.inr e)
  have x' : HX w' hb ab mb (h.freeS s) (L.filter (fun p => p.o.s != s)) := by
    refine x1.less s (by rw [hsS]) (by rw [hsS]; exact ⟨rfl, rfl, rfl⟩) (x.ok.free s) kAll ?_ hm2
    rw [hsS]
    exact ha.kept k2 (by have := x.pos mb (by simp [hBl]); show ¬ (0 = mb); omega) (by show ¬ (ab = mb); omega)
  refine ⟨w', hrun, x'.goes ((kept_of_below hB _).trans kAll (fun k _ e => ?_)) (fun k hk => Or.inl (less_sub hk))⟩
  rcases e with e | e <;> simp [hBl, e]

set_option maxRecDepth 20000 in
set_option maxHeartbeats 1000000 in
theorem hfree_any (x : HX w hb ab mb h L) (s : Nat) (hs : s < 18446744073709551616) :
    Calls Tryd.prog 19 #[.pointer (some ⟨hb, 0, none⟩), .int .u64 (s : Int)] w fun e w' => e = .returned (.int .i64 (h.freeR s : Int)) ∧ Goes w w' hb (fun k => k ∈ hBl hb ab mb L) (h.freeS s) := by
  have c4 := x.c4
  have hA : ∀ o, Below w.heap.size w (w.alloc o) := fun o => (Below.refl _ _).alloc (Nat.le_refl _) o
  cases hg : getP L s with
  | none =>
    have hgc : getC h.cs s = none := by rw [x.get, hg]; rfl
    unfold HSt.freeR HSt.freeS
    rw [hgc, if_neg (by simp)]
    have hlk := x.look2N s hs hg
    unfold zO at hlk
    go_enter Tryd.func19, Tryd.ntmps19
    go_wp2
    go_ret
    exact ⟨rfl, x.hp.stay (hA _)⟩
  | some p =>
    have hgc : getC h.cs s = some p.o := by rw [x.get, hg]; rfl
    have hR : h.freeR s = 0 := by
      unfold HSt.freeR
      rw [hgc, if_pos (by simp)]
    rw [hR]
    have hlk := x.look2S s hs hg
    unfold Pl.v at hlk
    have hFr := fun W (hW : Below w.heap.size w W) => free_any ab h.bs (p.o.c : Int) x.ok.ao W (x.below hW).ar
    have hDe : ∀ w1 w2 : World, Below w.heap.size w w1 → AR w2 ab (freeL h.bs (p.o.c : Int)) → Kept w1 w2 (fun k => k = ab) → ∃ w', (∀ ty, (Builtin.delete_ #[117, 39] ty #[.map (some mb), .int .u64 (s : Int)]).run Tryd.prog w2 = .ok (.tuple #[]) w') ∧ Goes w w' hb (fun k => k ∈ hBl hb ab mb L) (h.freeS s) := fun w1 w2 hB ha k1 => by
      obtain ⟨w', h1, h2⟩ := x.frees hs hg hB ha k1 0
      exact ⟨w', fun ty => h1, h2⟩
    have c3' := fun o => (x.below (hA o)).c3
    have hc4 : ∀ w1 w2 : World, Below w.heap.size w w1 → Kept w1 w2 (fun k => k = ab) → w2.cell? ⟨hb, 4, none⟩ = some (.map (some mb)) := fun w1 w2 hB k1 => by
      obtain ⟨n1, n2, n3, n4, n5⟩ := nd_parts x.nd
      exact ((x.below hB).box.kept k1 (by show ¬ (hb = ab); omega)).cell 4 (by simp)
    generalize freeR h.bs (p.o.c : Int) = fr at *
    go_enter Tryd.func19, Tryd.ntmps19
    go_wp2
    go_region_with (go_at_call 54; refine (hFr _ (hA _).drew).mono ?_; rintro e w2 ⟨rfl, ha2, hk2⟩; obtain ⟨w3, u3, g3⟩ := hDe _ w2 (hA _).drew ha2 hk2; have d4 := hc4 _ w2 (hA _).drew hk2)
    all_goals
      go_wp2_with (simp only [u3])
      go_ret
      exact ⟨rfl, g3⟩
end

/-- A slice of IDs, of numbers, nil or not. -/
theorem sr_ids {w : World} {g : Nat} {l : List (Int × Nat)} (h : Row w g 51 (idsV l)) : Sr w (.slice (some ⟨g, 0, none⟩) l.length l.length) 2 l.length (idsV l) := by
  refine ⟨idsV_len l, Or.inr ⟨_, _, rfl, fun j u hu => ?_⟩, fun u hu => ?_⟩
  · rw [Addr.add_at, Nat.zero_add]
    have hj : j < (idsV l).length := (List.getElem?_eq_some_iff.1 hu).1
    rw [h.cell j hj]
    rw [List.getElem?_eq_getElem hj] at hu
    exact hu
  · unfold idsV at hu
    obtain ⟨y, _, hy⟩ := List.mem_flatMap.1 hu
    simp only [idV, List.mem_cons, List.not_mem_nil, or_false] at hy
    rcases hy with rfl | rfl <;> rfl
theorem sr_us {w : World} {g : Nat} {l : List Nat} (h : Row w g 39 (l.map uV)) : Sr w (.slice (some ⟨g, 0, none⟩) l.length l.length) 1 l.length (l.map uV) := by
  refine ⟨by simp, Or.inr ⟨_, _, rfl, fun j u hu => ?_⟩, fun u hu => ?_⟩
  · rw [Addr.add_at, Nat.zero_add]
    have hj : j < (l.map uV).length := (List.getElem?_eq_some_iff.1 hu).1
    rw [h.cell j hj]
    rw [List.getElem?_eq_getElem hj] at hu
    exact hu
  · obtain ⟨y, _, rfl⟩ := List.mem_map.1 hu
    rfl

end Go.Proofs.YtdafpfdmnccelaaDoor
