/- The plain heap: Make. -/
import Derived.Test.YtdafpfdmnccelaaDoorHpSP
namespace Go.Proofs.YtdafpfdmnccelaaDoor
open Go.RowKit

theorem Tryd.infoPtr : (Tryd.prog.info? 67).map (fun i => (i.zero, i.size, i.bytes)) = some (some (.pointer none), 1, 8) := by kernel_rfl
theorem heap_b0 (w : World) (a b c d : Obj) : ((((w.alloc a).alloc b).alloc c).alloc d).drew.heap[w.heap.size]? = some a := by
  show ((((w.alloc a).alloc b).alloc c).alloc d).heap[w.heap.size]? = some a
  rw [Below.heap_alloc _ _ _ (by simp; omega), Below.heap_alloc _ _ _ (by simp; omega), Below.heap_alloc _ _ _ (by simp)]
  exact heap_alloc_new _ _
theorem heap_b1 (w : World) (a b c d : Obj) : ((((w.alloc a).alloc b).alloc c).alloc d).drew.heap[w.heap.size + 1]? = some b := by
  show ((((w.alloc a).alloc b).alloc c).alloc d).heap[w.heap.size + 1]? = some b
  rw [Below.heap_alloc _ _ _ (by simp), Below.heap_alloc _ _ _ (by simp)]
  exact heap_a1 w a b
theorem heap_b2 (w : World) (a b c d : Obj) : ((((w.alloc a).alloc b).alloc c).alloc d).drew.heap[w.heap.size + 1 + 1]? = some c := by
  show ((((w.alloc a).alloc b).alloc c).alloc d).heap[w.heap.size + 1 + 1]? = some c
  rw [Below.heap_alloc _ _ _ (by simp)]
  have e : ((w.alloc a).alloc b).heap.size = w.heap.size + 1 + 1 := by simp
  rw [← e]
  exact heap_alloc_new _ _
theorem kept_b (w : World) (b o : Nat) (u : Value) (a1 a2 a3 a4 : Obj) : Kept w (((((w.setCell ⟨b, o, none⟩ u).alloc a1).alloc a2).alloc a3).alloc a4).drew (fun k => k = b) :=
  (((((Kept.setCell w ⟨b, o, none⟩ u).trans (Kept.alloc _ a1 (fun _ => False)) (fun _ _ e => e.elim)).trans (Kept.alloc _ a2 (fun _ => False)) (fun _ _ e => e.elim)).trans (Kept.alloc _ a3 (fun _ => False)) (fun _ _ e => e.elim)).trans (Kept.alloc _ a4 (fun _ => False)) (fun _ _ e => e.elim)).trans (Kept.drew _) (fun _ _ e => e.elim)

theorem sr_four (w : World) (b o : Nat) (u : Value) (a1 a2 a3 : Obj) (v : Value) (hv : v.oneCell' = true) (T : TypeId) : Sr (((((w.setCell ⟨b, o, none⟩ u).alloc a1).alloc a2).alloc a3).alloc (.cells #[v] T)).drew (.slice (some ⟨w.heap.size + 1 + 1 + 1, 0, none⟩) 1 1) 1 1 [v] := by
  have := sr_ptr ((((w.setCell ⟨b, o, none⟩ u).alloc a1).alloc a2).alloc a3) v hv T
  rw [show ((((w.setCell ⟨b, o, none⟩ u).alloc a1).alloc a2).alloc a3).heap.size = w.heap.size + 1 + 1 + 1 by simp] at this
  exact this

section
variable {w : World} {rb ra rc rt : Nat} {lv : Value} {h : HSt} {M : List Pl}
theorem RX.arena {w' : World} (x : RX w rb ra rc rt lv h M) (hk : Kept w w' (fun k => k = rc ∨ k = rt)) (ha : RA w' ra rc rt h.bs) : RX w' rb ra rc rt lv h M := by
  obtain ⟨⟨a1, a2, a3, a4, a5, a6⟩, n2, n3, n4⟩ := rnd_parts x.nd
  refine ⟨x.box.kept hk (by show ¬ (rb = rc ∨ rb = rt); omega), ha, own_kept x.ls hk (fun k e => by have := n2 k e; show ¬ (k = rc ∨ k = rt); omega), fun q hq => ?_, x.nd, x.cs, x.ok⟩
  have m1 := n4 q.pb (mem3 hq (by simp [Pl.bl3]))
  have m2 := n4 q.rb (mem3 hq (by simp [Pl.bl3]))
  have m3 := n4 q.vb (mem3 hq (by simp [Pl.bl3]))
  exact ⟨(x.rows q hq).1.kept hk (by show ¬ (q.pb = rc ∨ q.pb = rt); omega), (x.rows q hq).2.1.kept hk (by show ¬ (q.rb = rc ∨ q.rb = rt); omega), (x.rows q hq).2.2.kept hk (by show ¬ (q.vb = rc ∨ q.vb = rt); omega)⟩
theorem kept_rt {w' : World} (hk : Kept w w' (fun k => k = rc ∨ k = rt)) : Kept w w' (fun k => k ∈ rBl rb ra rc rt lv M) := hk.mono (fun k _ e => by rcases e with e | e <;> simp [rBl, e])

set_option maxRecDepth 20000 in
set_option maxHeartbeats 2000000 in
theorem rmake_no (r v : Int) (hn : ¬ (0 ≤ r ∧ r ≤ 7 ∧ 0 ≤ v ∧ v ≤ 7)) :
    Calls Tryd.prog 18 #[.pointer (some ⟨rb, 0, none⟩), .int .i64 r, .int .i64 v] w fun e w' => e = .returned (.tuple #[.int .u64 0, .int .i64 1]) ∧ w = w' := by
  by_cases h1 : r < 0
  · go_enter Tryd.func18, Tryd.ntmps18
    go_wp2
    go_ret2
    exact ⟨rfl, rfl⟩
  by_cases h2 : 7 < r
  · go_enter Tryd.func18, Tryd.ntmps18
    go_wp2
    go_ret2
    exact ⟨rfl, rfl⟩
  by_cases h3 : v < 0
  · go_enter Tryd.func18, Tryd.ntmps18
    go_wp2
    go_ret2
    exact ⟨rfl, rfl⟩
  have h4 : 7 < v := by omega
  clear hn
  go_enter Tryd.func18, Tryd.ntmps18
  go_wp2
  go_ret2
  exact ⟨rfl, rfl⟩

set_option maxRecDepth 20000 in
set_option maxHeartbeats 8000000 in
theorem rmake_yes (x : RX w rb ra rc rt lv h M) (r v : Int) (hn : 0 ≤ r ∧ r ≤ 7 ∧ 0 ≤ v ∧ v ≤ 7) (h3 : ¬ h.most ≤ h.cs.length) (h4 : ¬ 72057594037927935 ≤ h.last) (h5 : (allocR h.bs (1 + r + v)).2 = 0) :
    Calls Tryd.prog 18 #[.pointer (some ⟨rb, 0, none⟩), .int .i64 r, .int .i64 v] w fun e w' => e = .returned (.tuple #[.int .u64 ((h.makeR r v).1 : Int), .int .i64 ((h.makeR r v).2 : Int)]) ∧ RGoes w w' rb (fun k => k ∈ rBl rb ra rc rt lv M) (h.makeS r v) := by
  obtain ⟨ao, cap, rfl, hcap, _, _⟩ := x.slice
  have c1 := x.c1
  have c2 := x.c2
  have c3 := x.c3
  have c4 := x.c4
  have hfew := x.few
  have hcnt := x.count
  have hxp := x.rp
  obtain ⟨r0, r7, v0, v7⟩ := hn
  have hn : 0 ≤ r ∧ r ≤ 7 ∧ 0 ≤ v ∧ v ≤ 7 := ⟨r0, r7, v0, v7⟩
  have h3i : ¬ (h.most : Int) ≤ (M.length : Int) := by omega
  have h4i : (h.last : Int) ≤ 72057594037927934 := by omega
  have h4d : decide ((72057594037927935 : Int) ≤ (h.last : Int)) = false := decide_eq_false (by omega)
  have hAl := ralloc_any ra rc rt h.bs (1 + r + v) x.ok.ao w.drew (x.below ((Below.refl _ _).drew)).ar
  have k0 : Kept w w.drew (fun k => k = rc ∨ k = rt) := (Kept.drew w).mono (fun _ _ e => e.elim)
  rw [makeR_yes hn h3 h4 h5]
  have hE : (h.makeR r v).2 = 0 := by rw [makeR_yes hn h3 h4 h5]
  obtain ⟨rn, rfl⟩ : ∃ rn : Nat, r = (rn : Int) := ⟨r.toNat, by omega⟩
  obtain ⟨vn, rfl⟩ : ∃ vn : Nat, v = (vn : Int) := ⟨v.toNat, by omega⟩
  rw [h5] at hAl
  obtain ⟨⟨a1, a2, a3, a4, a5, a6⟩, n2, n3, n4⟩ := rnd_parts x.nd
  have hrow : ∀ w1, Kept w w1 (fun k => k = rc ∨ k = rt) → Row w1 rb 58 [.int .i64 (h.node : Int), .int .i64 (h.most : Int), .int .u64 (h.last : Int), .pointer (some ⟨ra, 0, none⟩), .slice ao M.length cap] := fun w1 k1 => x.box.kept k1 (by show ¬ (rb = rc ∨ rb = rt); omega)
  have hM1 := fun w1 (ha : RA w1 ra rc rt (allocL h.bs (1 + rn + vn))) (k1 : Kept w w1 (fun k => k = rc ∨ k = rt)) => x.makes rn vn hE ha k1
    (W4 := (((((w1.setCell ⟨rb, 2, none⟩ (.int .u64 ((h.last + 1 : Nat) : Int))).alloc (.cells (idsV (List.replicate rn (0, 0))).toArray 51)).alloc (.cells ((List.replicate vn 0).map uV).toArray 39)).alloc (.cells #[.int .u64 ((h.last + 1 : Nat) : Int), .int .i64 ((allocR h.bs (1 + rn + vn)).1 : Int), .slice (some ⟨w1.heap.size, 0, none⟩) rn rn, .slice (some ⟨w1.heap.size + 1, 0, none⟩) vn vn, .int .i64 0] 66)).alloc (.cells #[.pointer (some ⟨w1.heap.size + 1 + 1, 0, none⟩)] 67)).drew)
    (kept_b _ _ _ _ _ _ _ _)
    ((((((hrow w1 k1).set 2 (.int .u64 ((h.last + 1 : Nat) : Int))).kept (Kept.alloc _ _ (fun _ => False)) id).kept (Kept.alloc _ _ (fun _ => False)) id).kept (Kept.alloc _ _ (fun _ => False)) id).kept (Kept.alloc _ _ (fun _ => False)) id |>.kept (Kept.drew _) id)
    ⟨h.newO rn vn, w1.heap.size + 1 + 1, w1.heap.size, w1.heap.size + 1⟩ rfl
    (by have := heap_b2 (w1.setCell ⟨rb, 2, none⟩ (.int .u64 ((h.last + 1 : Nat) : Int))) (.cells (idsV (List.replicate rn (0, 0))).toArray 51) (.cells ((List.replicate vn 0).map uV).toArray 39) (.cells #[.int .u64 ((h.last + 1 : Nat) : Int), .int .i64 ((allocR h.bs (1 + rn + vn)).1 : Int), .slice (some ⟨w1.heap.size, 0, none⟩) rn rn, .slice (some ⟨w1.heap.size + 1, 0, none⟩) vn vn, .int .i64 0] 66) (.cells #[.pointer (some ⟨w1.heap.size + 1 + 1, 0, none⟩)] 67); rw [World.size_setCell] at this; unfold Row; rw [this]; simp [Pl.cells, HSt.newO])
    (by have := heap_b0 (w1.setCell ⟨rb, 2, none⟩ (.int .u64 ((h.last + 1 : Nat) : Int))) (.cells (idsV (List.replicate rn (0, 0))).toArray 51) (.cells ((List.replicate vn 0).map uV).toArray 39) (.cells #[.int .u64 ((h.last + 1 : Nat) : Int), .int .i64 ((allocR h.bs (1 + rn + vn)).1 : Int), .slice (some ⟨w1.heap.size, 0, none⟩) rn rn, .slice (some ⟨w1.heap.size + 1, 0, none⟩) vn vn, .int .i64 0] 66) (.cells #[.pointer (some ⟨w1.heap.size + 1 + 1, 0, none⟩)] 67); rw [World.size_setCell] at this; unfold Row; rw [this]; simp [HSt.newO])
    (by have := heap_b1 (w1.setCell ⟨rb, 2, none⟩ (.int .u64 ((h.last + 1 : Nat) : Int))) (.cells (idsV (List.replicate rn (0, 0))).toArray 51) (.cells ((List.replicate vn 0).map uV).toArray 39) (.cells #[.int .u64 ((h.last + 1 : Nat) : Int), .int .i64 ((allocR h.bs (1 + rn + vn)).1 : Int), .slice (some ⟨w1.heap.size, 0, none⟩) rn rn, .slice (some ⟨w1.heap.size + 1, 0, none⟩) vn vn, .int .i64 0] 66) (.cells #[.pointer (some ⟨w1.heap.size + 1 + 1, 0, none⟩)] 67); rw [World.size_setCell] at this; unfold Row; rw [this]; simp [HSt.newO])
    (by show _ ≤ w1.heap.size + 1 + 1; omega) (Nat.le_refl _) (Nat.le_succ _) ⟨by show w1.heap.size + 1 + 1 ≠ w1.heap.size; omega, by show w1.heap.size + 1 + 1 ≠ w1.heap.size + 1; omega, by show w1.heap.size ≠ w1.heap.size + 1; omega⟩
  have hM2 := fun w1 (ha : RA w1 ra rc rt (allocL h.bs (1 + rn + vn))) (k1 : Kept w w1 (fun k => k = rc ∨ k = rt)) => x.makes rn vn hE ha k1
    (W4 := (((((w1.setCell ⟨rb, 2, none⟩ (.int .u64 ((h.last + 1 : Nat) : Int))).alloc (.cells ((List.replicate vn 0).map uV).toArray 39)).alloc (.cells (idsV (List.replicate rn (0, 0))).toArray 51)).alloc (.cells #[.int .u64 ((h.last + 1 : Nat) : Int), .int .i64 ((allocR h.bs (1 + rn + vn)).1 : Int), .slice (some ⟨w1.heap.size + 1, 0, none⟩) rn rn, .slice (some ⟨w1.heap.size, 0, none⟩) vn vn, .int .i64 0] 66)).alloc (.cells #[.pointer (some ⟨w1.heap.size + 1 + 1, 0, none⟩)] 67)).drew)
    (kept_b _ _ _ _ _ _ _ _)
    ((((((hrow w1 k1).set 2 (.int .u64 ((h.last + 1 : Nat) : Int))).kept (Kept.alloc _ _ (fun _ => False)) id).kept (Kept.alloc _ _ (fun _ => False)) id).kept (Kept.alloc _ _ (fun _ => False)) id).kept (Kept.alloc _ _ (fun _ => False)) id |>.kept (Kept.drew _) id)
    ⟨h.newO rn vn, w1.heap.size + 1 + 1, w1.heap.size + 1, w1.heap.size⟩ rfl
    (by have := heap_b2 (w1.setCell ⟨rb, 2, none⟩ (.int .u64 ((h.last + 1 : Nat) : Int))) (.cells ((List.replicate vn 0).map uV).toArray 39) (.cells (idsV (List.replicate rn (0, 0))).toArray 51) (.cells #[.int .u64 ((h.last + 1 : Nat) : Int), .int .i64 ((allocR h.bs (1 + rn + vn)).1 : Int), .slice (some ⟨w1.heap.size + 1, 0, none⟩) rn rn, .slice (some ⟨w1.heap.size, 0, none⟩) vn vn, .int .i64 0] 66) (.cells #[.pointer (some ⟨w1.heap.size + 1 + 1, 0, none⟩)] 67); rw [World.size_setCell] at this; unfold Row; rw [this]; simp [Pl.cells, HSt.newO])
    (by have := heap_b1 (w1.setCell ⟨rb, 2, none⟩ (.int .u64 ((h.last + 1 : Nat) : Int))) (.cells ((List.replicate vn 0).map uV).toArray 39) (.cells (idsV (List.replicate rn (0, 0))).toArray 51) (.cells #[.int .u64 ((h.last + 1 : Nat) : Int), .int .i64 ((allocR h.bs (1 + rn + vn)).1 : Int), .slice (some ⟨w1.heap.size + 1, 0, none⟩) rn rn, .slice (some ⟨w1.heap.size, 0, none⟩) vn vn, .int .i64 0] 66) (.cells #[.pointer (some ⟨w1.heap.size + 1 + 1, 0, none⟩)] 67); rw [World.size_setCell] at this; unfold Row; rw [this]; simp [HSt.newO])
    (by have := heap_b0 (w1.setCell ⟨rb, 2, none⟩ (.int .u64 ((h.last + 1 : Nat) : Int))) (.cells ((List.replicate vn 0).map uV).toArray 39) (.cells (idsV (List.replicate rn (0, 0))).toArray 51) (.cells #[.int .u64 ((h.last + 1 : Nat) : Int), .int .i64 ((allocR h.bs (1 + rn + vn)).1 : Int), .slice (some ⟨w1.heap.size + 1, 0, none⟩) rn rn, .slice (some ⟨w1.heap.size, 0, none⟩) vn vn, .int .i64 0] 66) (.cells #[.pointer (some ⟨w1.heap.size + 1 + 1, 0, none⟩)] 67); rw [World.size_setCell] at this; unfold Row; rw [this]; simp [HSt.newO])
    (by show _ ≤ w1.heap.size + 1 + 1; omega) (Nat.le_succ _) (Nat.le_refl _) ⟨by show w1.heap.size + 1 + 1 ≠ w1.heap.size + 1; omega, by show w1.heap.size + 1 + 1 ≠ w1.heap.size; omega, by show w1.heap.size + 1 ≠ w1.heap.size; omega⟩
  obtain ⟨i, hi, hz0, hz1, hz2⟩ := info_parts Tryd.infoID
  obtain ⟨i2, hi2, hy0, hy1, hy2⟩ := info_parts Tryd.infoU64
  have hm1 : ∀ W : World, (Instr.makeSlice 64 (.int .i64 (rn : Int)) (.int .i64 (rn : Int))).run Tryd.prog W = .ok (.slice (some ⟨W.heap.size, 0, none⟩) rn rn) (W.alloc (.cells (idsV (List.replicate rn (0, 0))).toArray 51)) := fun W => by
    have := run_make (P := Tryd.prog) W 64 51 i _ Tryd.underlying64 hi hz0 .i64 .i64 (rn : Int) (rn : Int) (by omega) (Int.le_refl _) (by rw [hz2]; omega) (by omega)
    rw [hz1, Int.toNat_natCast, made_ids] at this
    exact this
  have hm2 : ∀ W : World, (Instr.makeSlice 42 (.int .i64 (vn : Int)) (.int .i64 (vn : Int))).run Tryd.prog W = .ok (.slice (some ⟨W.heap.size, 0, none⟩) vn vn) (W.alloc (.cells ((List.replicate vn 0).map uV).toArray 39)) := fun W => by
    have := run_make (P := Tryd.prog) W 42 39 i2 _ Tryd.underlying42 hi2 hy0 .i64 .i64 (vn : Int) (vn : Int) (by omega) (Int.le_refl _) (by rw [hy2]; omega) (by omega)
    rw [hy1, Int.toNat_natCast, made_u64] at this
    exact this
  clear hi hz0 hz1 hz2 hi2 hy0 hy1 hy2
  obtain ⟨ip, hip, hp0, hp1, hp2⟩ := info_parts Tryd.infoPtr
  have hrb := x.lt rb (by simp [rBl])
  have hN : (h.last : Int) + 1 = ((h.last + 1 : Nat) : Int) := by omega
  generalize h.last + 1 = N at *
  generalize (idsV (List.replicate rn (0, 0))).toArray = A at *
  generalize ((List.replicate vn 0).map uV).toArray = B at *
  generalize (allocR h.bs (1 + (rn : Int) + (vn : Int))).1 = c at *
  unfold Pl.ptr at hM1 hM2
  simp only at hM1 hM2
  clear hn h3 h4 h5 hE a1 a2 a3 a4 a5 a6 n2 n3 n4 hcnt
  go_enter Tryd.func18, Tryd.ntmps18
  go_wp2
  go_region
  go_wp2_with (go_at_call 53; refine hAl.mono ?_; rintro e w1 ⟨rfl, ha1, hk1⟩; have hk01 := k0.trans hk1 (fun _ _ e => e); have hr1 := hrow w1 hk01; have d2 := hr1.cell 2 (by simp); have d4 := hr1.cell 4 (by simp); have f2 := hr1.frozen 2; simp only [List.getElem_cons_succ, List.getElem_cons_zero] at d2 d4; have HA : Hid _ := hidden (hM1 w1 ha1 hk01); have HB : Hid _ := hidden (hM2 w1 ha1 hk01); have hz1 : rb < w1.heap.size := hr1.lt; have hz2 : rb < w1.heap.size + 1 := by { omega }; have hz3 : rb < w1.heap.size + 1 + 1 := by { omega }; have hz4 : rb < w1.heap.size + 1 + 1 + 1 := by { omega }; clear hM1 hM2 hrow hk01 hr1 ha1 hk1)
  go_region_law (first
    | (refine step_append_sr rfl (.tmp 65) (.tmp 77) 56 rfl 67 ip (.pointer none) 1 8 Tryd.underlying56 hip hp0 hp1 hp2 rfl (by omega) 0 (.slice ao M.length cap) M.length _ rfl HA.out.1 (.slice (some ⟨w1.heap.size + 1 + 1 + 1, 0, none⟩) 1 1) 1 _ rfl (sr_four _ _ _ _ _ _ _ _ rfl _) (by omega) (by omega) (Nat.zero_le _) ?_; intro v5 w5 ho5 hk5 hm5; obtain ⟨ao5, n5, c5, hv5⟩ := own_form ho5; subst hv5; obtain ⟨r5, g5⟩ := HA.out.2 _ w5 ho5 hk5 hm5; have e4 := r5.cell 4 (by simp); have e2 := r5.cell 2 (by simp); have f4 := r5.frozen 4; simp only [List.getElem_cons_succ, List.getElem_cons_zero] at e2 e4)
    | (refine step_append_sr rfl (.tmp 65) (.tmp 77) 56 rfl 67 ip (.pointer none) 1 8 Tryd.underlying56 hip hp0 hp1 hp2 rfl (by omega) 0 (.slice ao M.length cap) M.length _ rfl HB.out.1 (.slice (some ⟨w1.heap.size + 1 + 1 + 1, 0, none⟩) 1 1) 1 _ rfl (sr_four _ _ _ _ _ _ _ _ rfl _) (by omega) (by omega) (Nat.zero_le _) ?_; intro v5 w5 ho5 hk5 hm5; obtain ⟨ao5, n5, c5, hv5⟩ := own_form ho5; subst hv5; obtain ⟨r5, g5⟩ := HB.out.2 _ w5 ho5 hk5 hm5; have e4 := r5.cell 4 (by simp); have e2 := r5.cell 2 (by simp); have f4 := r5.frozen 4; simp only [List.getElem_cons_succ, List.getElem_cons_zero] at e2 e4))
  all_goals
    go_wp2
    go_ret2
    exact ⟨rfl, g5⟩

set_option maxRecDepth 20000 in
set_option maxHeartbeats 2000000 in
theorem rmake_any (x : RX w rb ra rc rt lv h M) (r v : Int) :
    Calls Tryd.prog 18 #[.pointer (some ⟨rb, 0, none⟩), .int .i64 r, .int .i64 v] w fun e w' => e = .returned (.tuple #[.int .u64 ((h.makeR r v).1 : Int), .int .i64 ((h.makeR r v).2 : Int)]) ∧ RGoes w w' rb (fun k => k ∈ rBl rb ra rc rt lv M) (h.makeS r v) := by
  by_cases hn : 0 ≤ r ∧ r ≤ 7 ∧ 0 ≤ v ∧ v ≤ 7
  rotate_left
  · obtain ⟨e1, e2⟩ := makeR_no (h := h) hn
    rw [e1, e2]
    exact (rmake_no r v hn).mono (fun _ _ ⟨h1, h2⟩ => ⟨h1, by rw [← h2]; exact x.goes (Kept.refl _ _) (fun k hk => Or.inl hk)⟩)
  obtain ⟨ao, cap, rfl, hcap, _, _⟩ := x.slice
  have c1 := x.c1
  have c2 := x.c2
  have c3 := x.c3
  have c4 := x.c4
  have hfew := x.few
  have hcnt := x.count
  have hxp := x.rp
  obtain ⟨r0, r7, v0, v7⟩ := hn
  have hn : 0 ≤ r ∧ r ≤ 7 ∧ 0 ≤ v ∧ v ≤ 7 := ⟨r0, r7, v0, v7⟩
  by_cases h3 : h.most ≤ h.cs.length
  · obtain ⟨e1, e2⟩ := makeR_full hn h3
    rw [e1, e2]
    have h3i : (h.most : Int) ≤ (M.length : Int) := by omega
    clear e1 e2 hn h3 hcnt
    go_enter Tryd.func18, Tryd.ntmps18
    go_wp2
    go_region
    go_wp2
    go_ret2
    exact ⟨rfl, hxp.stay ((Below.refl _ _).drew)⟩
  have h3i : ¬ (h.most : Int) ≤ (M.length : Int) := by omega
  by_cases h4 : 72057594037927935 ≤ h.last
  · obtain ⟨e1, e2⟩ := makeR_end hn h3 h4
    rw [e1, e2]
    have h4i : (72057594037927935 : Int) ≤ (h.last : Int) := by omega
    clear e1 e2 hn h3 h4 hcnt
    go_enter Tryd.func18, Tryd.ntmps18
    go_wp2
    go_region
    go_wp2
    go_ret2
    exact ⟨rfl, hxp.stay ((Below.refl _ _).drew)⟩
  have h4i : (h.last : Int) ≤ 72057594037927934 := by omega
  have h4d : decide ((72057594037927935 : Int) ≤ (h.last : Int)) = false := decide_eq_false (by omega)
  have hAl := ralloc_any ra rc rt h.bs (1 + r + v) x.ok.ao w.drew (x.below ((Below.refl _ _).drew)).ar
  have k0 : Kept w w.drew (fun k => k = rc ∨ k = rt) := (Kept.drew w).mono (fun _ _ e => e.elim)
  by_cases h5 : (allocR h.bs (1 + r + v)).2 = 0
  rotate_left
  · obtain ⟨e1, e2⟩ := makeR_oom hn h3 h4 h5
    rw [e1, e2]
    have hL : allocL h.bs (1 + r + v) = h.bs := by
      rcases allocR_err (bs := h.bs) (s := 1 + r + v) (by omega) (by omega) with e | e
      · exact absurd e h5
      · exact e.2
    rw [hL] at hAl
    have h5i : (((allocR h.bs (1 + r + v)).2 : Int) != 0) = true := by rw [bne_iff_ne]; omega
    have HA : Hid (∀ w1, RA w1 ra rc rt h.bs → Kept w.drew w1 (fun k => k = rc ∨ k = rt) → RGoes w w1 rb (fun k => k ∈ rBl rb ra rc rt (.slice ao M.length cap) M) h) := fun w1 ha hk => (x.arena (k0.trans hk (fun _ _ e => e)) ha).goes (kept_rt (k0.trans hk (fun _ _ e => e))) (fun k hk => Or.inl hk)
    generalize allocR h.bs (1 + r + v) = c at *
    clear e1 e2 h3 h4 h5 hL hn hcnt
    go_enter Tryd.func18, Tryd.ntmps18
    go_wp2
    go_region
    go_wp2_with (go_at_call 53; refine hAl.mono ?_; rintro e w1 ⟨rfl, ha1, hk1⟩)
    go_ret2
    exact ⟨rfl, HA.out w1 ha1 hk1⟩
  exact rmake_yes x r v hn h3 h4 h5
end

end Go.Proofs.YtdafpfdmnccelaaDoor
