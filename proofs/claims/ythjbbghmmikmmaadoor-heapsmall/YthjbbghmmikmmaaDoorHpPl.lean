/- HeapPlays, walked. -/
import Derived.Test.YthjbbghmmikmmaaDoorHpFi
import Derived.Test.YthjbbghmmikmmaaDoorHpWh
namespace Go.Proofs.YthjbbghmmikmmaaDoor
open Go.RowKit

theorem H2.rlt {w0 w : World} {B hb rb : Nat} {h1 h2 : HSt} {X : Nat → Prop} (x : H2 w0 B w hb rb h1 h2 X) : rb < w.heap.size := by
  obtain ⟨F, G, hp, rp, _⟩ := x.ex
  obtain ⟨ra, rc, rt, lv, M, hx, _⟩ := rp.ex
  exact hx.lt rb (by simp [rBl])
theorem H2.new {w w1 w2 : World} {hb rb : Nat} {h : HSt} {F G : Nat → Prop} (hT : TB w) (hp : HP w1 hb F h) (hF : ∀ k, F k → w.heap.size ≤ k) (hB : Below w.heap.size w w1) (rp : RP w2 rb G h) (hG : ∀ k, G k → w1.heap.size ≤ k) (hB2 : Below w1.heap.size w1 w2) : H2 w w.heap.size w2 hb rb h h (fun _ => False) := by
  have hlt := hp.lt
  have hs := hB.size
  exact ⟨⟨F, G, hp.below hB2, rp, fun k hk => ⟨hF k hk, id, fun e => by have := hG k e; have := hlt k hk; omega⟩, fun k hk => ⟨by have := hG k hk; omega, id⟩⟩, hB.trans (hB2.mono hs), Nat.le_trans hs hB2.size, fun _ e => e.elim, hT.size⟩

set_option maxRecDepth 20000 in
set_option maxHeartbeats 4000000 in
theorem heapPlays_any (node cells objects : Int) (last : Nat) (xs : List StepH) (v : Value) (w : World) (hT : TB w) (hv : WS w v 8 cStepH xs) (hR : ∀ x ∈ xs, x.Ok) :
    Calls Tryd.prog 4 #[.int .i64 node, .int .i64 cells, .int .i64 objects, .int .u64 (last : Int), v] w fun e w' => e = .returned (.bool true) ∧ Below w.heap.size w w' := by
  obtain ⟨ao, cap, rfl, _, _⟩ := hv.slice
  by_cases hok : (1 ≤ node ∧ node ≤ 64) ∧ (1 ≤ objects ∧ objects ≤ 64) ∧ last ≤ 72057594037927935 ∧ (16 ≤ cells ∧ cells ≤ 4096 ∧ cells % 16 = 0)
  rotate_left
  · have hbad : ¬ (1 ≤ node ∧ node ≤ 64) ∨ ¬ (1 ≤ objects ∧ objects ≤ 64) ∨ 72057594037927935 < last ∨ cells < 16 ∨ 4096 < cells ∨ cells % 16 ≠ 0 := by omega
    have hN := hnew_no node cells objects last hbad w
    have hRn := hrnew_no node cells objects last hbad w
    clear hok hbad hv hR
    go_enter Tryd.func4, Tryd.ntmps4
    go_wp2_with (first
      | (go_at_call 9; refine hN.mono ?_; rintro e _ ⟨rfl, rfl⟩)
      | (go_at_call 17; refine hRn.mono ?_; rintro e _ ⟨rfl, rfl⟩)
      | (go_at_call 10; refine (hknown_any _ hT).mono ?_; rintro e w2 ⟨rfl, hb2⟩))
    go_ret
    exact ⟨rfl, hb2⟩
  obtain ⟨⟨n1, n2⟩, ⟨o1, o2⟩, hl, c1, c2, c3⟩ := hok
  obtain ⟨nd, rfl⟩ : ∃ nd : Nat, node = (nd : Int) := ⟨node.toNat, by omega⟩
  obtain ⟨ob, rfl⟩ : ∃ ob : Nat, objects = (ob : Int) := ⟨objects.toNat, by omega⟩
  obtain ⟨n, rfl⟩ : ∃ n : Nat, cells = ((16 * n : Nat) : Int) := ⟨(cells / 16).toNat, by omega⟩
  have hN := hnew_ok nd n ob last (by omega) (by omega) hl (by omega) w hT
  have hRn := fun w => hrnew_ok nd n ob last (by omega) (by omega) hl (by omega) w
  generalize (⟨nd, ob, last, List.replicate n bk0, []⟩ : HSt) = h0 at *
  generalize 16 * n = N at *
  clear n1 n2 o1 o2 c1 c2 c3 hl
  go_enter Tryd.func4, Tryd.ntmps4
  go_wp2_with fail
  refine hN.mono ?_
  rintro e w1 ⟨hb, F, rfl, hp, hF, hB⟩
  clear hN
  go_wp2_with fail
  refine (hRn w1).mono ?_
  rintro e w2 ⟨rb, G, rfl, rp, hG, hB2⟩
  clear hRn
  have x2 := H2.new hT hp hF hB rp hG hB2
  have hT2 : TB w2 := (hT.below hB).below hB2
  clear hp hF hB rp hG hB2
  go_wp2_with fail
  refine (hknown_any _ hT2).mono ?_
  rintro e w3 ⟨rfl, hb3⟩
  have x3 := x2.read hb3
  clear x2 hT2 hb3
  go_wp2
  generalize hG : w.heap.size = g at *
  go_loopw [14] (fun i wr => ∃ (k : Nat) (h : HSt), k ≤ 400 ∧ i = .int .i64 (k : Int) ∧ H2 w g wr hb rb h h (fun _ => False)) (fun i _ => 400 - (intOf i).toNat)
  case atStart => exact ⟨0, _, by omega, rfl, x3⟩
  case round =>
    clear x3
    obtain ⟨k, h, hk, rfl, x⟩ := hrel
    by_cases hlt : k < xs.length ∧ k < 400
    · obtain ⟨hlt, h400⟩ := hlt
      have hk0 : (k : Int) < (xs.length : Int) := by omega
      have hk5 : (k : Int) < 400 := by omega
      obtain ⟨b, off, hao, hbl, q0, q1, q2, q3, q4, q5, q6, q7⟩ := (hv.below (by rw [hG]; exact x.bel)).stepH k hlt
      subst hao
      have hok := hR _ (List.getElem_mem hlt)
      generalize xs[k] = st at *
      obtain ⟨wh, sa, sb, ser, sv, xn, xs', near⟩ := st
      simp only at q0 q1 q2 q3 q4 q5 q6 q7 hok
      have hFi := fill_any x x.rlt wh sa sb ser sv xn xs' near hok.1
      clear x hok
      go_wp2_with (go_at_call 18; refine hFi.mono ?_; clear hFi; rintro e w4 ⟨h', rfl, x4⟩)
      go_roundw
      case rel => exact ⟨k + 1, h', by omega, by go_num, x4⟩
      case measure => simp [intOf]; omega
    · have hW := whole_any x
      have hbx := x.bel
      have hle := x.le
      clear x hv hR
      by_cases hk1 : (k : Int) < (xs.length : Int)
      · have hk2 : ¬ ((k : Int) < 400) := by omega
        go_wp2_with (go_at_call 19; refine hW.mono ?_; rintro e w4 ⟨rfl, hb4⟩)
        go_ret
        exact ⟨rfl, by rw [hG]; exact hbx.trans (hb4.mono hle)⟩
      · go_wp2_with (go_at_call 19; refine hW.mono ?_; rintro e w4 ⟨rfl, hb4⟩)
        go_ret
        exact ⟨rfl, by rw [hG]; exact hbx.trans (hb4.mono hle)⟩

end Go.Proofs.YthjbbghmmikmmaaDoor
