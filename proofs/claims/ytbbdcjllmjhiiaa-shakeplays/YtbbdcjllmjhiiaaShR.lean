/- The plain shake. -/
import Derived.Test.YtbbdcjllmjhiiaaShK
namespace Go.Proofs.Ytbbdcjllmjhiiaa
open Go.RowKit

/-- The plain shake. -/
abbrev QX (w : World) (sb ga gs n : Nat) (s : St) : Prop := SX w [.int .i64 (n : Int)] sb 37 4 ga gs (n + 1) s
section
variable {w w' : World} {sb ga gs n : Nat} {s : St}
theorem QX.c0 (x : QX w sb ga gs n s) : w.cell? ⟨sb, 0, none⟩ = some (.int .i64 (n : Int)) := x.box.cell 0 (by simp)
theorem QX.c1 (x : QX w sb ga gs n s) : w.cell? ⟨sb, 1, none⟩ = some (.int .i64 (s.ph : Int)) := x.phase
theorem QX.c2 (x : QX w sb ga gs n s) : w.cell? ⟨sb, 2, none⟩ = some (.slice (some ⟨ga, 0, none⟩) (n + 1) (n + 1)) := x.armed
theorem QX.c3 (x : QX w sb ga gs n s) : w.cell? ⟨sb, 3, none⟩ = some (.slice (some ⟨gs, 0, none⟩) (n + 1) (n + 1)) := x.scanned
theorem QX.bA (x : QX w sb ga gs n s) : BL w ga (n + 1) s.A := ⟨x.ra, x.la⟩
theorem QX.bS (x : QX w sb ga gs n s) : BL w gs (n + 1) s.S := ⟨x.rs, x.ls⟩

set_option maxRecDepth 20000 in
set_option maxHeartbeats 400000 in
theorem rnew_any (n : Nat) (hn : 1 ≤ n ∧ n ≤ 4) (w : World) :
    Calls Try.prog 13 #[.int .i64 (n : Int)] w fun e w' => ∃ rb ga gs, e = .returned (.pointer (some ⟨rb, 0, none⟩)) ∧ QX w' rb ga gs n (St.new n) ∧ Below w.heap.size w w' ∧ w.heap.size ≤ rb ∧ w.heap.size ≤ ga ∧ w.heap.size ≤ gs := by
  have hm := make_bools n hn.2
  have HN : Hid (∀ ga gs, (ga = w.heap.size ∧ gs = w.heap.size + 1) ∨ (ga = w.heap.size + 1 ∧ gs = w.heap.size) →
      QX (((w.alloc (.cells ((offs n).map Value.bool).toArray 4)).alloc (.cells ((offs n).map Value.bool).toArray 4)).alloc (.cells #[.int .i64 (n : Int), .int .i64 0, .slice (some ⟨ga, 0, none⟩) (n + 1) (n + 1), .slice (some ⟨gs, 0, none⟩) (n + 1) (n + 1)] 37)).drew (w.heap.size + 1 + 1) ga gs n (St.new n) ∧
      Below w.heap.size w (((w.alloc (.cells ((offs n).map Value.bool).toArray 4)).alloc (.cells ((offs n).map Value.bool).toArray 4)).alloc (.cells #[.int .i64 (n : Int), .int .i64 0, .slice (some ⟨ga, 0, none⟩) (n + 1) (n + 1), .slice (some ⟨gs, 0, none⟩) (n + 1) (n + 1)] 37)).drew ∧ w.heap.size ≤ w.heap.size + 1 + 1 ∧ w.heap.size ≤ ga ∧ w.heap.size ≤ gs) := by
    intro ga gs hg
    have r1 : Row (w.alloc (.cells ((offs n).map Value.bool).toArray 4)) w.heap.size 4 ((offs n).map Value.bool) := heap_alloc_new w _
    have r2 : Row ((w.alloc (.cells ((offs n).map Value.bool).toArray 4)).alloc (.cells ((offs n).map Value.bool).toArray 4)) (w.alloc (.cells ((offs n).map Value.bool).toArray 4)).heap.size 4 ((offs n).map Value.bool) := heap_alloc_new _ _
    have r1' := r1.below (bel_alloc _ (.cells ((offs n).map Value.bool).toArray 4))
    have b2 : Below w.heap.size w ((w.alloc (.cells ((offs n).map Value.bool).toArray 4)).alloc (.cells ((offs n).map Value.bool).toArray 4)) := (bel_alloc _ _).trans ((bel_alloc _ _).mono (bel_alloc _ _).size)
    have z2 : ((w.alloc (.cells ((offs n).map Value.bool).toArray 4)).alloc (.cells ((offs n).map Value.bool).toArray 4)).heap.size = w.heap.size + 1 + 1 := by simp
    rw [World.size_alloc] at r2
    generalize (w.alloc (.cells ((offs n).map Value.bool).toArray 4)).alloc (.cells ((offs n).map Value.bool).toArray 4) = w2 at *
    have hrow : ∀ g, g = w.heap.size ∨ g = w.heap.size + 1 → Row w2 g 4 ((offs n).map Value.bool) := by
      intro g hg
      rcases hg with rfl | rfl
      · exact r1'
      · exact r2
    have hA := bel_alloc w2 (.cells #[.int .i64 (n : Int), .int .i64 0, .slice (some ⟨ga, 0, none⟩) (n + 1) (n + 1), .slice (some ⟨gs, 0, none⟩) (n + 1) (n + 1)] 37)
    have r3 : Row (w2.alloc (.cells #[.int .i64 (n : Int), .int .i64 0, .slice (some ⟨ga, 0, none⟩) (n + 1) (n + 1), .slice (some ⟨gs, 0, none⟩) (n + 1) (n + 1)] 37)) w2.heap.size 37 [.int .i64 (n : Int), .int .i64 0, .slice (some ⟨ga, 0, none⟩) (n + 1) (n + 1), .slice (some ⟨gs, 0, none⟩) (n + 1) (n + 1)] := heap_alloc_new w2 _
    rw [z2] at r3
    have hx : QX (w2.alloc (.cells #[.int .i64 (n : Int), .int .i64 0, .slice (some ⟨ga, 0, none⟩) (n + 1) (n + 1), .slice (some ⟨gs, 0, none⟩) (n + 1) (n + 1)] 37)) (w.heap.size + 1 + 1) ga gs n (St.new n) :=
      ⟨r3, (hrow ga (by omega)).below hA, (hrow gs (by omega)).below hA, by simp [St.new, offs], by simp [St.new, offs], by omega, by omega, by omega, by omega⟩
    exact ⟨hx.below (Below.refl _ _).drew, (b2.trans (hA.mono b2.size)).drew, by omega, by omega, by omega⟩
  generalize ((offs n).map Value.bool) = Z at *
  go_enter Try.func13, Try.ntmps13
  go_wp2
  go_region
  all_goals go_wp2
  all_goals go_ret
  · exact ⟨_, _, _, rfl, HN.out _ _ (Or.inl ⟨rfl, rfl⟩)⟩
  · exact ⟨_, _, _, rfl, HN.out _ _ (Or.inr ⟨rfl, rfl⟩)⟩

set_option maxRecDepth 20000 in
set_option maxHeartbeats 400000 in
theorem rend_any (x : QX w sb ga gs n s) :
    Calls Try.prog 16 #[.pointer (some ⟨sb, 0, none⟩)] w fun e w' => e = .returned (.bool (decide (s.ph = 3))) ∧ SGo w w' [.int .i64 (n : Int)] sb 37 4 ga gs (n + 1) (s.fin n) := by
  have c1 := x.c1
  unfold St.fin
  by_cases h : s.ph = 3
  · rw [if_pos h, decide_eq_true h]
    rw [h] at c1
    have hn : 1 ≤ n ∧ n ≤ 4 := by have := x.few; omega
    have hm := make_bools n hn.2
    have c0 := x.c0
    have c2 := x.c2
    have c3 := x.c3
    have f1 := x.box.frozen 1
    have f2 := x.box.frozen 2
    have f3 := x.box.frozen 3
    have hl := x.box.lt
    have HG : Hid _ := hidden (new_lists 0 (offs n) (offs n) (by simp [offs]) (by simp [offs]) hn x.box)
    clear x h
    generalize ((offs n).map Value.bool).toArray = Z at *
    go_enter Try.func16, Try.ntmps16
    go_wp2
    go_ret
    exact ⟨rfl, _, _, HG.out.1, HG.out.2.mono (fun _ _ e => Or.inl e), Or.inr (Nat.le_refl _), Or.inr (Nat.le_succ _)⟩
  · rw [if_neg h, decide_eq_false h]
    have HX : Hid _ := hidden x
    have h' : ¬ (s.ph : Int) = 3 := by omega
    clear x h
    generalize s.ph = p at *
    go_enter Try.func16, Try.ntmps16
    go_wp2
    go_ret
    exact ⟨rfl, SGo.refl HX.out (Below.refl _ _)⟩
set_option maxRecDepth 20000 in
set_option maxHeartbeats 400000 in
theorem rbegin_any (x : QX w sb ga gs n s) (hi : Inv n s) :
    Calls Try.prog 15 #[.pointer (some ⟨sb, 0, none⟩)] w fun e w' => e = .returned (.bool (decide (s.ph = 0))) ∧ SGo w w' [.int .i64 (n : Int)] sb 37 4 ga gs (n + 1) (s.begin n) := by
  have c1 := x.c1
  unfold St.begin
  by_cases h : s.ph = 0
  · have e0 := hi.idle h
    rw [if_pos h, decide_eq_true h, e0]
    rw [h] at c1
    have hn : 1 ≤ n ∧ n ≤ 4 := by have := x.few; omega
    have hm := make_bools n hn.2
    have c0 := x.c0
    have c2 := x.c2
    have c3 := x.c3
    have f1 := x.box.frozen 1
    have f2 := x.box.frozen 2
    have f3 := x.box.frozen 3
    have hl := x.box.lt
    have HG : Hid _ := hidden (new_lists 1 (offs n) (offs n) (by simp [offs]) (by simp [offs]) hn x.box)
    clear x h e0 hi
    generalize hZ : ((offs n).map Value.bool).toArray = Z at *
    clear hZ
    go_enter Try.func15, Try.ntmps15
    go_wp2
    have HG' : Hid (QX (wNew w sb 1 1 (n + 1) Z Z) sb w.heap.size (w.heap.size + 1) n ⟨1, offs n, offs n⟩ ∧ Kept w (wNew w sb 1 1 (n + 1) Z Z) (fun k => k = sb)) := HG.out
    show Code.wp _ _ _ _ (wNew w sb 1 1 (n + 1) Z Z)
    clear HG c0 c1 c2 c3 f1 f2 f3 hl hm
    generalize wNew w sb 1 1 (n + 1) Z Z = w1 at *
    have x1 := HG'.out.1
    have c0 := x1.c0
    have c2 := x1.c2
    have hnl : n < (offs n).length := by simp [offs]
    obtain ⟨b0, hc⟩ : ∃ b, w1.cell? ⟨w.heap.size, n, none⟩ = some (.bool b) := ⟨_, x1.bA.cell n hnl⟩
    have fa := x1.ra.frozen n
    have hla := x1.ra.lt
    have hlt : (n : Int) < (n : Int) + 1 := by omega
    have hn0 : (0 : Int) ≤ (n : Int) := by omega
    generalize hGG : w.heap.size = G at *
    have HX2 : Hid (QX ((w1.setCell ⟨G, n, none⟩ (.bool true)).drew) sb G (G + 1) n ⟨1, (offs n).set n true, offs n⟩ ∧ Kept w (w1.setCell ⟨G, n, none⟩ (.bool true)).drew (fun k => k = sb)) :=
      ⟨(x1.setA n).below (Below.refl _ _).drew, (HG'.out.2.trans (Kept.setCell w1 ⟨G, n, none⟩ (.bool true)) (fun i hi e => by rw [hGG] at hi; have e' : i = G := e; omega)).trans (kept_of_below (Below.refl _ _).drew (fun _ => False)) (fun _ _ e => e.elim)⟩
    have HGG : Hid _ := hidden hGG
    clear x1 hnl hGG
    go_region
    all_goals go_wp2
    all_goals go_ret
    all_goals exact ⟨rfl, _, _, HX2.out.1, HX2.out.2.mono (fun _ _ e => Or.inl e), Or.inr (by rw [HGG.out]; exact Nat.le_refl _), Or.inr (by rw [HGG.out]; exact Nat.le_succ _)⟩
  · rw [if_neg h, decide_eq_false h]
    have HX : Hid _ := hidden x
    have h' : ¬ (s.ph : Int) = 0 := by omega
    clear x h
    generalize s.ph = p at *
    go_enter Try.func15, Try.ntmps15
    go_wp2
    go_ret
    exact ⟨rfl, SGo.refl HX.out (Below.refl _ _)⟩

set_option maxRecDepth 20000 in
set_option maxHeartbeats 400000 in
theorem ranswer_off (x : QX w sb ga gs n s) (m : Int) (h : m < 0 ∨ (n : Int) < m) :
    Calls Try.prog 17 #[.pointer (some ⟨sb, 0, none⟩), .int .i64 m] w fun e w' => e = .returned (.int .i64 0) ∧ w = w' := by
  have c0 := x.c0
  clear x
  by_cases h1 : m < 0
  · clear h
    go_enter Try.func17, Try.ntmps17
    go_wp2
    go_ret
    exact ⟨rfl, rfl⟩
  · have h2 : (n : Int) < m := by omega
    clear h
    go_enter Try.func17, Try.ntmps17
    go_wp2
    go_ret
    exact ⟨rfl, rfl⟩
set_option maxRecDepth 20000 in
set_option maxHeartbeats 400000 in
theorem ranswer_arm (x : QX w sb ga gs n s) (hp : s.ph = 1) (i : Nat) (hi : i < s.A.length) (hf : s.A[i] = false) :
    Calls Try.prog 17 #[.pointer (some ⟨sb, 0, none⟩), .int .i64 (i : Int)] w fun e w' => e = .returned (.int .i64 1) ∧ QX w' sb ga gs n ⟨if fullB (s.A.set i true) then 2 else 1, s.A.set i true, s.S⟩ ∧ Kept w w' (xBl sb ga gs) := by
  have hf4 := x.few
  have c0 := x.c0
  have c1 := x.c1
  rw [hp] at c1
  have c2 := x.c2
  have hc := x.bA.cell i hi
  rw [hf] at hc
  have fa := x.ra.frozen i
  have hla := x.ra.lt
  have hlt : (i : Int) < (n : Int) + 1 := by have := x.la; omega
  have hle : ¬ (n : Int) < (i : Int) := by omega
  have x1 : QX (w.setCell ⟨ga, i, none⟩ (.bool true)) sb ga gs n ⟨s.ph, s.A.set i true, s.S⟩ := x.setA i
  have k1 : Kept w (w.setCell ⟨ga, i, none⟩ (.bool true)) (xBl sb ga gs) := (Kept.setCell w ⟨ga, i, none⟩ (.bool true)).mono (fun k _ e => Or.inr (Or.inl e))
  have hF := rall_any x1.bA x1.few.2
  rw [hp] at x1
  have d2 := x1.c2
  have d1 := x1.c1
  have f1 := x1.box.frozen 1
  have hl := x1.box.lt
  have HX : Hid _ := hidden x1
  have HK : Hid _ := hidden k1
  have HX2 : Hid (QX ((w.setCell ⟨ga, i, none⟩ (.bool true)).setCell ⟨sb, 1, none⟩ (.int .i64 2)) sb ga gs n ⟨2, s.A.set i true, s.S⟩ ∧ Kept w ((w.setCell ⟨ga, i, none⟩ (.bool true)).setCell ⟨sb, 1, none⟩ (.int .i64 2)) (xBl sb ga gs)) :=
    ⟨x1.turn 2, k1.trans (Kept.setCell _ ⟨sb, 1, none⟩ (.int .i64 2)) (fun i _ e => Or.inl e)⟩
  have hd1 := x.d1
  clear x x1 k1 hp hi hf
  generalize s.A.set i true = A' at *
  cases hb : fullB A' with
  | true =>
    rw [hb] at hF
    clear hb
    go_enter Try.func17, Try.ntmps17
    go_wp2_with (go_at_call 26; refine hF.mono ?_; rintro e _ ⟨rfl, rfl⟩)
    go_ret
    exact ⟨rfl, HX2.out⟩
  | false =>
    rw [hb] at hF
    clear hb
    go_enter Try.func17, Try.ntmps17
    go_wp2_with (go_at_call 26; refine hF.mono ?_; rintro e _ ⟨rfl, rfl⟩)
    go_ret
    exact ⟨rfl, HX.out, HK.out⟩
set_option maxRecDepth 20000 in
set_option maxHeartbeats 400000 in
theorem ranswer_scan (x : QX w sb ga gs n s) (hp : s.ph = 2) (i : Nat) (hi : i < s.S.length) (hf : s.S[i] = false) :
    Calls Try.prog 17 #[.pointer (some ⟨sb, 0, none⟩), .int .i64 (i : Int)] w fun e w' => e = .returned (.int .i64 2) ∧ QX w' sb ga gs n ⟨if fullB (s.S.set i true) then 3 else 2, s.A, s.S.set i true⟩ ∧ Kept w w' (xBl sb ga gs) := by
  have hf4 := x.few
  have c0 := x.c0
  have c1 := x.c1
  rw [hp] at c1
  have c2 := x.c3
  have hc := x.bS.cell i hi
  rw [hf] at hc
  have fa := x.rs.frozen i
  have hla := x.rs.lt
  have hlt : (i : Int) < (n : Int) + 1 := by have := x.ls; omega
  have hle : ¬ (n : Int) < (i : Int) := by omega
  have x1 : QX (w.setCell ⟨gs, i, none⟩ (.bool true)) sb ga gs n ⟨s.ph, s.A, s.S.set i true⟩ := x.setS i
  have k1 : Kept w (w.setCell ⟨gs, i, none⟩ (.bool true)) (xBl sb ga gs) := (Kept.setCell w ⟨gs, i, none⟩ (.bool true)).mono (fun k _ e => Or.inr (Or.inr e))
  have hF := rall_any x1.bS x1.few.2
  rw [hp] at x1
  have d2 := x1.c3
  have d1 := x1.c1
  have f1 := x1.box.frozen 1
  have hl := x1.box.lt
  have HX : Hid _ := hidden x1
  have HK : Hid _ := hidden k1
  have HX2 : Hid (QX ((w.setCell ⟨gs, i, none⟩ (.bool true)).setCell ⟨sb, 1, none⟩ (.int .i64 3)) sb ga gs n ⟨3, s.A, s.S.set i true⟩ ∧ Kept w ((w.setCell ⟨gs, i, none⟩ (.bool true)).setCell ⟨sb, 1, none⟩ (.int .i64 3)) (xBl sb ga gs)) :=
    ⟨x1.turn 3, k1.trans (Kept.setCell _ ⟨sb, 1, none⟩ (.int .i64 3)) (fun i _ e => Or.inl e)⟩
  have hd1 := x.d2
  clear x x1 k1 hp hi hf
  generalize s.S.set i true = A' at *
  cases hb : fullB A' with
  | true =>
    rw [hb] at hF
    clear hb
    go_enter Try.func17, Try.ntmps17
    go_wp2_with (go_at_call 26; refine hF.mono ?_; rintro e _ ⟨rfl, rfl⟩)
    go_ret
    exact ⟨rfl, HX2.out⟩
  | false =>
    rw [hb] at hF
    clear hb
    go_enter Try.func17, Try.ntmps17
    go_wp2_with (go_at_call 26; refine hF.mono ?_; rintro e _ ⟨rfl, rfl⟩)
    go_ret
    exact ⟨rfl, HX.out, HK.out⟩
set_option maxRecDepth 20000 in
set_option maxHeartbeats 400000 in
theorem ranswer_no (x : QX w sb ga gs n s) (i : Nat) (hA : i < s.A.length) (hS : i < s.S.length) (h1 : s.ph = 1 → s.A[i] = true) (h2 : s.ph = 2 → s.S[i] = true) :
    Calls Try.prog 17 #[.pointer (some ⟨sb, 0, none⟩), .int .i64 (i : Int)] w fun e w' => e = .returned (.int .i64 0) ∧ w = w' := by
  have hf4 := x.few
  have c0 := x.c0
  have c1 := x.c1
  have c2 := x.c2
  have c3 := x.c3
  have d2 := x.bA.cell i hA
  have d3 := x.bS.cell i hS
  have hlt : (i : Int) < (n : Int) + 1 := by have := x.la; omega
  have hle : ¬ (n : Int) < (i : Int) := by omega
  clear x
  generalize s.A[i] = a at *
  generalize s.S[i] = c at *
  clear hA hS
  generalize s.ph = p at *
  by_cases hp1 : p = 1
  · subst hp1
    obtain rfl := h1 rfl
    clear h1 h2
    go_enter Try.func17, Try.ntmps17
    go_wp2
    go_ret
    exact ⟨rfl, rfl⟩
  · by_cases hp2 : p = 2
    · subst hp2
      obtain rfl := h2 rfl
      clear h1 h2 hp1
      go_enter Try.func17, Try.ntmps17
      go_wp2
      go_ret
      exact ⟨rfl, rfl⟩
    · have b1 : ((p : Int) == 1) = false := by rw [beq_eq_false_iff_ne]; omega
      have b2 : ((p : Int) == 2) = false := by rw [beq_eq_false_iff_ne]; omega
      have b3 : ¬ (p : Int) = 1 := by omega
      have b4 : ¬ (p : Int) = 2 := by omega
      clear h1 h2 hp1 hp2
      go_enter Try.func17, Try.ntmps17
      go_wp2
      go_ret
      exact ⟨rfl, rfl⟩
theorem ranswer_any (x : QX w sb ga gs n s) (m : Int) :
    Calls Try.prog 17 #[.pointer (some ⟨sb, 0, none⟩), .int .i64 m] w fun e w' => e = .returned (.int .i64 (ansR s m : Int)) ∧ QX w' sb ga gs n (s.ans m) ∧ Kept w w' (xBl sb ga gs) := by
  by_cases hm : m < 0 ∨ (n : Int) < m
  · have e1 : newB s.A m = false := newB_off (by have := x.la; omega)
    have e2 : newB s.S m = false := newB_off (by have := x.ls; omega)
    have e3 : ansR s m = 0 := by unfold ansR; rw [e1, e2]; simp
    have e4 : s.ans m = s := by unfold St.ans; rw [e1, e2]; simp
    rw [e3, e4]
    exact (ranswer_off x m hm).mono (fun e w' ⟨h1, h2⟩ => by subst h2; exact ⟨h1, x, Kept.refl _ _⟩)
  · obtain ⟨i, rfl⟩ := Int.eq_ofNat_of_zero_le (show 0 ≤ m by omega)
    have hA : i < s.A.length := by have := x.la; omega
    have hS : i < s.S.length := by have := x.ls; omega
    unfold ansR St.ans
    rw [newB_at hA, newB_at hS]
    by_cases h1 : s.ph = 1
    · rw [if_pos h1, if_pos h1]
      cases ha : s.A[i] with
      | false => exact ranswer_arm x h1 i hA ha
      | true => exact (ranswer_no x i hA hS (fun _ => ha) (fun h => by omega)).mono (fun e w' ⟨h1, h2⟩ => by subst h2; exact ⟨h1, x, Kept.refl _ _⟩)
    · rw [if_neg h1, if_neg h1]
      by_cases h2 : s.ph = 2
      · rw [if_pos h2, if_pos h2]
        cases ha : s.S[i] with
        | false => exact ranswer_scan x h2 i hS ha
        | true => exact (ranswer_no x i hA hS (fun h => by omega) (fun _ => ha)).mono (fun e w' ⟨h1, h2⟩ => by subst h2; exact ⟨h1, x, Kept.refl _ _⟩)
      · rw [if_neg h2, if_neg h2]
        exact (ranswer_no x i hA hS (fun h => absurd h h1) (fun h => absurd h h2)).mono (fun e w' ⟨h1, h2⟩ => by subst h2; exact ⟨h1, x, Kept.refl _ _⟩)
end
end Go.Proofs.Ytbbdcjllmjhiiaa
