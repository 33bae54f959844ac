/- HeapOnce, walked. -/
import Derived.Test.YthjbbghmmikmmaaDoorHpR
import Derived.Deep.CutRange
import Derived.Deep.CutBlock
import Derived.Deep.RegionHeld
namespace Go.Proofs.YthjbbghmmikmmaaDoor
open Go.RowKit

theorem makeS_no' {h : HSt} {r v : Int} (hE : ¬ (h.makeR r v).2 = 0) : h.makeS r v = h := if_neg hE
theorem freeR_zero {h : HSt} {s : Nat} (hg : (getC h.cs s).isSome = true) : h.freeR s = 0 := by
  unfold HSt.freeR
  exact if_pos hg
theorem freeS_last (h : HSt) (s : Nat) : (h.freeS s).last = h.last := by
  unfold HSt.freeS
  cases getC h.cs s <;> rfl
theorem makeS_last {h : HSt} {r v : Int} (hE : (h.makeR r v).2 = 0) : (h.makeS r v).last = h.last + 1 := by
  unfold HSt.makeS
  rw [if_pos hE]

set_option maxRecDepth 20000 in
set_option maxHeartbeats 2000000 in
theorem heapOnce_any (last0 : Nat) (xs : List StepH) (v : Value) (w : World) (hT : TB w) (hv : WS w v 8 cStepH xs) (hR : ∀ x ∈ xs, x.Ok) :
    Calls Tryd.prog 7 #[.int .u64 (last0 : Int), v] w fun e w' => e = .returned (.bool true) ∧ Below w.heap.size w w' := by
  obtain ⟨ao, cap, rfl, _, _⟩ := hv.slice
  have hmod : (last0 : Int) % 72057594037927935 = ((last0 % 72057594037927935 : Nat) : Int) := by omega
  have hml : last0 % 72057594037927935 < 72057594037927935 := Nat.mod_lt _ (by omega)
  generalize last0 % 72057594037927935 = last at *
  have hNew : ∀ w, TB w → Calls Tryd.prog 9 #[.int .i64 1, .int .i64 256, .int .i64 8, .int .u64 (last : Int)] w fun e w' => ∃ hb, e = .returned (.tuple #[.pointer (some ⟨hb, 0, none⟩), .int .i64 0]) ∧ HH w w.heap.size w' hb ⟨1, 8, last, List.replicate 16 bk0, []⟩ (fun _ => False) := fun w hT => HH.new 1 16 8 last (by omega) (by omega) (by omega) (by omega) w hT
  have hli : (last : Int) ≤ 72057594037927934 := by omega
  go_enter Tryd.func7, Tryd.ntmps7
  go_wp2_with (first
    | (go_at_call 9; refine (hNew _ hT).mono ?_; rintro e w1 ⟨hb, rfl, x1⟩)
    | (go_at_call 10; refine (hknown_any _ x1.tb).mono ?_; rintro e w2 ⟨rfl, hb2⟩; have x2 := x1.read hb2; clear x1 hb2))
  generalize hG : w.heap.size = g at *
  clear hNew hmod hml
  go_loopw [7, 8] (fun at_ i wr => ∃ (k : Nat) (h : HSt), k ≤ 300 ∧ i = .int .i64 (k : Int) ∧ at_ = .int .u64 (h.last : Int) ∧ HH w g wr hb h (fun _ => False)) (fun _ i _ => 300 - (intOf i).toNat)
  case atStart => exact ⟨0, _, by omega, rfl, rfl, x2⟩
  case round =>
    clear x2
    obtain ⟨k, h, hk, rfl, rfl, x⟩ := hrel
    by_cases hlt : k < xs.length ∧ k < 300
    · obtain ⟨hlt, h300⟩ := hlt
      have hk0 : (k : Int) < (xs.length : Int) := by omega
      have hk5 : (k : Int) < 300 := by omega
      have hvx := fun W (hW : Below g w W) => (hv.below (by rw [hG]; exact hW)).stepH k hlt
      obtain ⟨b, off, hao, hbl, hc0, hc1, hc2, hc3, _⟩ := hvx _ x.bel
      subst hao
      have hok := hR _ (List.getElem_mem hlt)
      generalize xs[k] = st at *
      obtain ⟨wh, sa, sb, ser, sv, xn, xs', near⟩ := st
      simp only at hc0 hc1 hc2 hc3 hok
      have hcc : ∀ W, Below g w W → W.cell? ⟨b, off + k * 8 + 1, none⟩ = some (.int .i64 sa) ∧ W.cell? ⟨b, off + k * 8 + 2, none⟩ = some (.int .i64 sb) := fun W hW => by
        obtain ⟨b', off', hao', _, _, e1, e2, _⟩ := hvx W hW
        cases hao'
        exact ⟨e1, e2⟩
      clear hvx
      cases hW : (Int.tmod wh 2 == 0)
      · clear hcc hc1 hc2
        have hk1 : ((k : Int) + 1) = ((k + 1 : Nat) : Int) := by omega
        have hre : (ser : Int) % ((k + 1 : Nat) : Int) = ((ser % (k + 1) : Nat) : Int) := by omega
        have hrl : ser % (k + 1) < k + 1 := Nat.mod_lt _ (by omega)
        have hne : (((k + 1 : Nat) : Int) == 0) = false := by rw [beq_eq_false_iff_ne]; omega
        have hK300 : ((k + 1 : Nat) : Int) ≤ 300 := by omega
        have hrl' : ((ser % (k + 1) : Nat) : Int) ≤ 300 := by omega
        have hsum : (last : Int) + ((ser % (k + 1) : Nat) : Int) = ((last + ser % (k + 1) : Nat) : Int) := by omega
        have HKK : Hid (k + 1 ≤ 300) := by
          have e : k + 1 ≤ 300 := by omega
          exact e
        generalize k + 1 = K1 at *
        generalize ser % K1 = md at *
        generalize last + md = from_ at *
        have hNx := x.next from_
        have hle := nextR_le x.ok from_
        have hL := fun W (y : HH w g W hb h (fun _ => False)) => y.last
        cases hfd : (nextR h.cs from_).2
        · rw [hfd] at hNx
          generalize (nextR h.cs from_).1 = s' at *
          clear hfd
          go_wp2_with (first
            | (go_at_call 23; refine hNx.mono ?_; rintro e w3 ⟨rfl, x3, _⟩)
            | (go_at_call 14; refine (hL _ x3).mono ?_; rintro e _ ⟨rfl, rfl⟩))
          go_roundw
          case rel => exact ⟨K1, h, HKK.out, rfl, rfl, x3⟩
          case measure => simp [intOf]; omega
        · have hgs := nextR_get hfd
          have hFr := fun W (y : HH w g W hb h (fun _ => False)) => y.free (nextR h.cs from_).1 (by omega)
          rw [freeR_zero hgs] at hFr
          have hL2 := fun W (y : HH w g W hb (h.freeS (nextR h.cs from_).1) (fun _ => False)) => y.last
          rw [freeS_last] at hL2
          have HL2 : Hid ((h.freeS (nextR h.cs from_).1).last = h.last) := freeS_last _ _
          rw [hfd] at hNx
          generalize h.freeS (nextR h.cs from_).1 = h' at *
          generalize (nextR h.cs from_).1 = s' at *
          clear hfd hgs hL
          go_wp2_with (first
            | (go_at_call 23; refine hNx.mono ?_; rintro e w3 ⟨rfl, x3, _⟩)
            | (go_at_call 24; refine (hFr _ x3).mono ?_; rintro e w4 ⟨rfl, x4, _⟩)
            | (go_at_call 14; refine (hL2 _ x4).mono ?_; rintro e _ ⟨rfl, rfl⟩))
          go_roundw
          case rel => exact ⟨K1, h', HKK.out, rfl, by rw [HL2.out], x4⟩
          case measure => simp [intOf]; omega
      · have xd := x.read ((Below.refl _ _).drew)
        have hM := xd.make (pickN sa 3 : Int) (pickN sb 3 : Int)
        by_cases hE : (h.makeR (pickN sa 3 : Int) (pickN sb 3 : Int)).2 = 0
        · obtain ⟨_, _, _, _, _, q6, _, q8⟩ := HSt.makeR_ok hE
          rw [q8] at hM
          have hl' := makeS_last hE
          have hL := fun W (y : HH w g W hb (h.makeS (pickN sa 3 : Int) (pickN sb 3 : Int)) (fun _ => False)) => y.last
          rw [hl'] at hL
          have HL : Hid ((h.makeS (pickN sa 3 : Int) (pickN sb 3 : Int)).last = h.last + 1) := hl'
          have hN : (h.last : Int) + 1 = ((h.last + 1 : Nat) : Int) := by omega
          have hli2 : (h.last : Int) ≤ 72057594037927934 := by omega
          generalize h.last + 1 = N at *
          generalize h.makeS (pickN sa 3 : Int) (pickN sb 3 : Int) = h' at *
          clear q6 q8 hl' hE
          go_wp2
          go_region_held (fun W => W.cell? ⟨b, off + k * 8 + 1, none⟩ = some (.int .i64 sa) ∧ W.cell? ⟨b, off + k * 8 + 2, none⟩ = some (.int .i64 sb)) (go_keep) (first
            | (go_at_call 20; refine (pick_any _ 3 (by omega) (by omega) _).mono ?_; rintro e _ ⟨rfl, rfl⟩)
            | (go_at_call 11; refine hM.mono ?_; rintro e w3 ⟨rfl, x3, _⟩; obtain ⟨e1, e2⟩ := hcc _ x3.bel))
          all_goals
            clear hM hcc xd x
            go_wp2_with (go_at_call 14; refine (hL _ x3).mono ?_; rintro e _ ⟨rfl, rfl⟩)
            go_roundw
            case rel => exact ⟨k + 1, h', by omega, by go_num, by rw [HL.out], x3⟩
            case measure => simp [intOf]; omega
        · have hZ := makeR_bad hE
          rw [makeS_no' hE, hZ] at hM
          have hL := fun W (y : HH w g W hb h (fun _ => False)) => y.last
          generalize (h.makeR (pickN sa 3 : Int) (pickN sb 3 : Int)).2 = er at *
          have hEi : ((er : Int) == 0) = false := by rw [beq_eq_false_iff_ne]; omega
          have hEn : ((er : Int) != 0) = true := by rw [bne_iff_ne]; omega
          clear hE hZ
          go_wp2
          go_region_held (fun W => W.cell? ⟨b, off + k * 8 + 1, none⟩ = some (.int .i64 sa) ∧ W.cell? ⟨b, off + k * 8 + 2, none⟩ = some (.int .i64 sb)) (go_keep) (first
            | (go_at_call 20; refine (pick_any _ 3 (by omega) (by omega) _).mono ?_; rintro e _ ⟨rfl, rfl⟩)
            | (go_at_call 11; refine hM.mono ?_; rintro e w3 ⟨rfl, x3, _⟩; obtain ⟨e1, e2⟩ := hcc _ x3.bel))
          all_goals
            clear hM hcc xd x
            go_wp2_with (go_at_call 14; refine (hL _ x3).mono ?_; rintro e _ ⟨rfl, rfl⟩)
            go_roundw
            case rel => exact ⟨k + 1, h, by omega, by go_num, rfl, x3⟩
            case measure => simp [intOf]; omega
    · by_cases hk1 : (k : Int) < (xs.length : Int)
      · have hk2 : ¬ ((k : Int) < 300) := by omega
        go_wp2
        go_ret
        exact ⟨rfl, x.bel⟩
      · go_wp2
        go_ret
        exact ⟨rfl, x.bel⟩

end Go.Proofs.YthjbbghmmikmmaaDoor
