/- The plain IDs, Numbers and Same, of what is the same. -/
import Derived.Test.YthjbbghmmikmmaaDoorHpS
import Derived.Deep.QuietTactic
import Derived.BigQuiet
namespace Go.Proofs.YthjbbghmmikmmaaDoor
open Go.RowKit

theorem bel_drewS (w : World) (n : Nat) : Below w.heap.size w (w.drewN n) := ⟨rfl, rfl, rfl, Nat.le_refl _, fun _ _ => rfl⟩

set_option maxRecDepth 20000 in
set_option maxHeartbeats 2000000 in
theorem idsEq_any (xs : List (Int × Nat)) (g1 g2 : Nat) (w : World) (ha : Row w g1 31 (idsV xs)) (hb : Row w g2 31 (idsV xs)) (hl : xs.length ≤ 1000) :
    Calls Tryd.prog 56 #[.slice (some ⟨g1, 0, none⟩) xs.length xs.length, .slice (some ⟨g2, 0, none⟩) xs.length xs.length] w fun e w' => e = .returned (.bool true) ∧ Below w.heap.size w w' := by
  have hg := guardID
  have he := eqID
  go_enter Tryd.func56, Tryd.ntmps56
  go_wp2
  go_loopw [5] (fun i wr => ∃ k : Nat, k ≤ xs.length ∧ i = .int .i64 (k : Int) ∧ Below w.heap.size w wr) (fun i _ => xs.length - (intOf i).toNat)
  case atStart => exact ⟨0, Nat.zero_le _, rfl, Below.refl _ _⟩
  case round =>
    obtain ⟨k, hk, rfl, hbr⟩ := hrel
    have hzr := hbr.size
    by_cases hlt : k < xs.length
    · obtain ⟨e1, e2⟩ := idsV_at xs k hlt
      have a0 := (ha.below hbr).at _ _ e1
      have a1 := (ha.below hbr).at _ _ e2
      have c0 := (hb.below hbr).at _ _ e1
      have c1 := (hb.below hbr).at _ _ e2
      clear e1 e2 ha hb
      generalize xs[k] = x at *
      have hq1 : (x.1 == x.1) = true := beq_self_eq_true _
      have hq2 : ((x.2 : Int) == (x.2 : Int)) = true := beq_self_eq_true _
      go_wp2
      go_quiet (fail)
      go_wp2
      go_roundw
      case rel => exact ⟨k + 1, by omega, by go_num, hbr.trans ((bel_drewS _ _).mono hzr)⟩
      case measure => simp [intOf]; omega
    · go_wp2
      go_ret
      exact ⟨rfl, hbr⟩

set_option maxRecDepth 20000 in
set_option maxHeartbeats 2000000 in
theorem usEq_any (xs : List Nat) (g1 g2 : Nat) (w : World) (ha : Row w g1 26 (xs.map uV)) (hb : Row w g2 26 (xs.map uV)) (hl : xs.length ≤ 1000) :
    Calls Tryd.prog 57 #[.slice (some ⟨g1, 0, none⟩) xs.length xs.length, .slice (some ⟨g2, 0, none⟩) xs.length xs.length] w fun e w' => e = .returned (.bool true) ∧ Below w.heap.size w w' := by
  go_enter Tryd.func57, Tryd.ntmps57
  go_wp2
  go_loopw [5] (fun i wr => ∃ k : Nat, k ≤ xs.length ∧ i = .int .i64 (k : Int) ∧ Below w.heap.size w wr) (fun i _ => xs.length - (intOf i).toNat)
  case atStart => exact ⟨0, Nat.zero_le _, rfl, Below.refl _ _⟩
  case round =>
    obtain ⟨k, hk, rfl, hbr⟩ := hrel
    have hzr := hbr.size
    by_cases hlt : k < xs.length
    · have e1 : (xs.map uV)[k]? = some (.int .u64 (xs[k] : Int)) := by rw [List.getElem?_map, List.getElem?_eq_getElem hlt]; rfl
      have a0 := (ha.below hbr).at _ _ e1
      have c0 := (hb.below hbr).at _ _ e1
      clear e1 ha hb
      generalize xs[k] = x at *
      go_wp2
      go_quiet (fail)
      go_wp2
      go_roundw
      case rel => exact ⟨k + 1, by omega, by go_num, hbr.trans ((bel_drewS _ _).mono hzr)⟩
      case measure => simp [intOf]; omega
    · go_wp2
      go_ret
      exact ⟨rfl, hbr⟩

set_option maxRecDepth 20000 in
set_option maxHeartbeats 2000000 in
theorem sameO_any (o : Oc) (g1 g2 g3 g4 : Nat) (w : World) (h1 : Row w g1 31 (idsV o.rf)) (h2 : Row w g2 26 (o.vl.map uV)) (h3 : Row w g3 31 (idsV o.rf)) (h4 : Row w g4 26 (o.vl.map uV)) (hl : o.rf.length ≤ 7) (hv : o.vl.length ≤ 7) :
    Calls Tryd.prog 41 #[Pl.v ⟨o, 0, g1, g2⟩, Pl.v ⟨o, 0, g3, g4⟩] w fun e w' => e = .returned (.bool true) ∧ Below w.heap.size w w' := by
  have hI := fun W (hW : Below w.heap.size w W) => idsEq_any o.rf g1 g3 W (h1.below hW) (h3.below hW) (by omega)
  have hU := fun W (hW : Below w.heap.size w W) => usEq_any o.vl g2 g4 W (h2.below hW) (h4.below hW) (by omega)
  have hB : ∀ a b, Below w.heap.size w ((w.alloc a).alloc b) := fun a b => ((Below.refl _ _).alloc (Nat.le_refl _) a).alloc (by simp) b
  unfold Pl.v
  simp only
  have hq1 : ((o.s : Int) == (o.s : Int)) = true := beq_self_eq_true _
  have hq2 : ((o.c : Int) == (o.c : Int)) = true := beq_self_eq_true _
  have hq3 : ((o.d : Int) == (o.d : Int)) = true := beq_self_eq_true _
  clear h1 h2 h3 h4
  go_enter Tryd.func41, Tryd.ntmps41
  go_wp2_with fail
  refine (hI _ (hB _ _)).mono ?_
  rintro e w2 ⟨rfl, hb2⟩
  have q1 : Row ((w.alloc (.cells #[.int .u64 (o.s : Int), .int .i64 (o.c : Int), .slice (some ⟨g1, 0, none⟩) o.rf.length o.rf.length, .slice (some ⟨g2, 0, none⟩) o.vl.length o.vl.length, .int .i64 (o.d : Int)] 50)).alloc (.cells #[.int .u64 (o.s : Int), .int .i64 (o.c : Int), .slice (some ⟨g3, 0, none⟩) o.rf.length o.rf.length, .slice (some ⟨g4, 0, none⟩) o.vl.length o.vl.length, .int .i64 (o.d : Int)] 50)) w.heap.size 50 [.int .u64 (o.s : Int), .int .i64 (o.c : Int), .slice (some ⟨g1, 0, none⟩) o.rf.length o.rf.length, .slice (some ⟨g2, 0, none⟩) o.vl.length o.vl.length, .int .i64 (o.d : Int)] := by
    unfold Row
    rw [Below.heap_alloc _ _ _ (by simp)]
    exact heap_alloc_new _ _
  have q2 : Row ((w.alloc (.cells #[.int .u64 (o.s : Int), .int .i64 (o.c : Int), .slice (some ⟨g1, 0, none⟩) o.rf.length o.rf.length, .slice (some ⟨g2, 0, none⟩) o.vl.length o.vl.length, .int .i64 (o.d : Int)] 50)).alloc (.cells #[.int .u64 (o.s : Int), .int .i64 (o.c : Int), .slice (some ⟨g3, 0, none⟩) o.rf.length o.rf.length, .slice (some ⟨g4, 0, none⟩) o.vl.length o.vl.length, .int .i64 (o.d : Int)] 50)) (w.heap.size + 1) 50 [.int .u64 (o.s : Int), .int .i64 (o.c : Int), .slice (some ⟨g3, 0, none⟩) o.rf.length o.rf.length, .slice (some ⟨g4, 0, none⟩) o.vl.length o.vl.length, .int .i64 (o.d : Int)] := heap_a1 w _ _
  have d1 := (q1.below hb2).cell 3 (by simp)
  have d2 := (q2.below hb2).cell 3 (by simp)
  simp only [List.getElem_cons_succ, List.getElem_cons_zero] at d1 d2
  have hb20 : Below w.heap.size w w2 := (hB _ _).trans (hb2.mono (hB _ _).size)
  clear hb2 q1 q2 hI hB
  go_wp2_with fail
  refine (hU _ hb20).mono ?_
  rintro e w3 ⟨rfl, hb3⟩
  clear hU
  go_wp2
  go_ret
  exact ⟨rfl, hb20.trans (hb3.mono hb20.size)⟩

end Go.Proofs.YthjbbghmmikmmaaDoor
