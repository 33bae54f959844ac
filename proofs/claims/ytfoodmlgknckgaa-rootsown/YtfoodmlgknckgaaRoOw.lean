/- RootsOwn, walked. -/
import Derived.Test.YtfoodmlgknckgaaRoS
import Derived.Deep.CutRange
import Derived.Deep.CutBlock
import Derived.Deep.RegionHeld
namespace Go.Proofs.Ytfoodmlgknckgaa
open Go.RowKit

/-- A list that may be written into: n IDs wide. -/
structure Pad (w : World) (v : Value) (n : Nat) : Prop where
  ex : ∃ ao c, v = .slice ao n c ∧ n ≤ c ∧ c ≤ maxLen ∧ (0 < n → ∃ g cur, ao = some ⟨g, 0, none⟩ ∧ w.heap[g]? = some (.cells cur 30 (0, 0)) ∧ n * 2 ≤ cur.size)
theorem OwI.pad {w : World} {B : Nat} {v : Value} {l : List (Int × Nat)} (h : OwI w B v l) : Pad w v l.length := by
  rcases h.2 with ⟨rfl, h0⟩ | ⟨g, cap, cur, rfl, _, h3, h4, h5, h6, _⟩
  · exact ⟨none, 0, by rw [h0], by omega, Nat.zero_le _, fun h => by omega⟩
  · exact ⟨_, cap, rfl, h4, h5, fun _ => ⟨g, cur, rfl, h3, by omega⟩⟩
theorem Pad.kept {w w' : World} {v : Value} {n : Nat} {P : Nat → Prop} (h : Pad w v n) (hk : Kept w w' P) (hP : ∀ k, v.ownBlock = some k → ¬ P k) : Pad w' v n := by
  obtain ⟨ao, c, rfl, h1, h2, h3⟩ := h.ex
  refine ⟨ao, c, rfl, h1, h2, fun hn => ?_⟩
  obtain ⟨g, cur, rfl, h4, h5⟩ := h3 hn
  exact ⟨g, cur, rfl, (hk.block g (Array.getElem?_eq_some_iff.1 h4).1 (hP g rfl)).trans h4, h5⟩

/-- What was told: was at vw, a at va, b at vb. -/
structure OwS (w0 : World) (B : Nat) (w : World) (rb tb cap : Nat) (gs : List Nat) (K : Nat) (S : List Rw) (vw va vb : Value) (n m Z1 Z2 : Nat) : Prop where
  x : LR w0 B w rb tb cap gs K S
  was : OwI w B vw (allR S)
  pa : Pad w va n
  pb : Pad w vb m
  rw_ : ∀ k, rBl rb tb gs k → k < Z1
  bw : ∀ k, vw.ownBlock = some k → k < Z1
  ba : ∀ k, va.ownBlock = some k → Z1 ≤ k ∧ k < Z2
  bb : ∀ k, vb.ownBlock = some k → Z2 ≤ k
  z : B ≤ Z1 ∧ Z1 ≤ Z2
section
variable {w0 w w' : World} {B rb tb cap K n m Z1 Z2 : Nat} {gs : List Nat} {S : List Rw} {vw va vb : Value}
theorem set2_block {g i j : Nat} {u v : Value} {cur : Array Value} {T : TypeId} (h : w.heap[g]? = some (.cells cur T (0, 0))) :
    ∃ cur', ((w.setCell ⟨g, i, none⟩ u).setCell ⟨g, j, none⟩ v).heap[g]? = some (.cells cur' T (0, 0)) ∧ cur'.size = cur.size :=
  ⟨_, heap_setCell_same _ g j _ _ v (heap_setCell_same w g i _ _ u h), by simp⟩
theorem kept_set2 (w : World) (g i j : Nat) (u v : Value) : Kept w ((w.setCell ⟨g, i, none⟩ u).setCell ⟨g, j, none⟩ v) (fun k => k = g) :=
  (Kept.setCell w ⟨g, i, none⟩ u).trans (Kept.setCell _ ⟨g, j, none⟩ v) (fun _ _ e => e)
theorem OwS.seta {g c : Nat} (x : OwS w0 B w rb tb cap gs K S vw (.slice (some ⟨g, 0, none⟩) n c) vb n m Z1 Z2) (i j : Nat) (u v : Value) : OwS w0 B ((w.setCell ⟨g, i, none⟩ u).setCell ⟨g, j, none⟩ v) rb tb cap gs K S vw (.slice (some ⟨g, 0, none⟩) n c) vb n m Z1 Z2 := by
  have hk := kept_set2 w g i j u v
  obtain ⟨b1, b2⟩ := x.ba g rfl
  obtain ⟨z1, z2⟩ := x.z
  refine ⟨x.x.other hk (fun k e => by have e' : k = g := e; omega) (fun k h e => by have e' : k = g := e; have := x.rw_ k h; omega), x.was.kept hk (fun k h e => by have e' : k = g := e; have := x.bw k h; omega), ?_, x.pb.kept hk (fun k h e => by have e' : k = g := e; have := x.bb k h; omega), x.rw_, x.bw, x.ba, x.bb, x.z⟩
  obtain ⟨ao, c', he, h1, h2, h3⟩ := x.pa.ex
  simp only [Value.slice.injEq] at he
  obtain ⟨rfl, _, rfl⟩ := he
  refine ⟨_, c, rfl, h1, h2, fun hn => ?_⟩
  obtain ⟨g', cur, he, h4, h5⟩ := h3 hn
  cases he
  obtain ⟨cur', h6, h7⟩ := set2_block (i := i) (j := j) (u := u) (v := v) h4
  exact ⟨g, cur', rfl, h6, by omega⟩
theorem OwS.setb {g c : Nat} (x : OwS w0 B w rb tb cap gs K S vw va (.slice (some ⟨g, 0, none⟩) m c) n m Z1 Z2) (i j : Nat) (u v : Value) : OwS w0 B ((w.setCell ⟨g, i, none⟩ u).setCell ⟨g, j, none⟩ v) rb tb cap gs K S vw va (.slice (some ⟨g, 0, none⟩) m c) n m Z1 Z2 := by
  have hk := kept_set2 w g i j u v
  have b1 := x.bb g rfl
  obtain ⟨z1, z2⟩ := x.z
  refine ⟨x.x.other hk (fun k e => by have e' : k = g := e; omega) (fun k h e => by have e' : k = g := e; have := x.rw_ k h; omega), x.was.kept hk (fun k h e => by have e' : k = g := e; have := x.bw k h; omega), x.pa.kept hk (fun k h e => by have e' : k = g := e; have := x.ba k h; omega), ?_, x.rw_, x.bw, x.ba, x.bb, x.z⟩
  obtain ⟨ao, c', he, h1, h2, h3⟩ := x.pb.ex
  simp only [Value.slice.injEq] at he
  obtain ⟨rfl, _, rfl⟩ := he
  refine ⟨_, c, rfl, h1, h2, fun hn => ?_⟩
  obtain ⟨g', cur, he, h4, h5⟩ := h3 hn
  cases he
  obtain ⟨cur', h6, h7⟩ := set2_block (i := i) (j := j) (u := u) (v := v) h4
  exact ⟨g, cur', rfl, h6, by omega⟩
end
/-- A cell of such a list. -/
theorem pad_cells {w : World} {g n k : Nat} {cur : Array Value} {T : TypeId} (h : w.heap[g]? = some (.cells cur T (0, 0))) (hn : n * 2 ≤ cur.size) (hk : k < n) : ∃ u0 u1, w.cell? ⟨g, k * 2, none⟩ = some u0 ∧ w.cell? ⟨g, k * 2 + 1, none⟩ = some u1 ∧ ∀ i, w.frozen? ⟨g, i, none⟩ = false :=
  ⟨cur[k * 2]'(by omega), cur[k * 2 + 1]'(by omega), by rw [cell_of_row w g _ _ _ _ h, Array.getElem?_eq_getElem (by omega)], by rw [cell_of_row w g _ _ _ _ h, Array.getElem?_eq_getElem (by omega)], fun i => frozen_of_row w g i _ _ h⟩

set_option maxRecDepth 20000 in
set_option maxHeartbeats 2000000 in
theorem rootsOwn_any (v : Value) (l : List StepR) (w : World) (hv : WS w v 5 cStepR l) :
    Calls Try.prog 5 #[v] w fun e w' => e = .returned (.bool true) ∧ Below w.heap.size w w' := by
  have hNew : Calls Try.prog 7 #[.int .i64 3, .int .i64 3] w fun e w' => ∃ rb tb gs, e = .returned (.tuple #[.pointer (some ⟨rb, 0, none⟩), .int .i64 0]) ∧ LR w w.heap.size w' rb tb 3 gs 3 (List.replicate 3 (List.replicate 3 (0, 0))) := LR.new 3 3 (by omega) (by omega) w
  obtain ⟨ao, vc, rfl, hlc, _⟩ := hv.slice
  have HV : Hid _ := hidden hv
  clear hv
  generalize hG : w.heap.size = B at *
  go_enter Try.func5, Try.ntmps5
  go_wp2_with fail
  refine hNew.mono ?_
  rintro e w1 ⟨rb, tb, gs, rfl, x1⟩
  go_wp2_with fail
  refine (rknown_any _).mono ?_
  rintro e w2 ⟨rfl, b2⟩
  have x2 := x1.read b2
  clear x1 b2 hNew
  go_upto_block 0 with fail
  go_cut [5] from 25 to 53 (fun _ wc => ∃ S, S.length = 3 ∧ LR w B wc rb tb 3 gs 3 S)
  case first =>
    go_wp2
    go_loopw [5] (fun i wr => ∃ k : Nat, k ≤ l.length ∧ k ≤ 50 ∧ i = .int .i64 (k : Int) ∧ ∃ S, S.length = 3 ∧ LR w B wr rb tb 3 gs 3 S) (fun i _ => 50 - (intOf i).toNat)
    case atStart => exact ⟨0, Nat.zero_le _, Nat.zero_le _, rfl, _, by simp, x2⟩
    case round =>
      obtain ⟨k, hk, hk5, rfl, S, hS3, x⟩ := hrel
      clear x2
      by_cases hlt : k < l.length
      · by_cases hlt5 : k < 50
        · obtain ⟨b, off, rfl, hbl, h0, h1, h2, h3, _⟩ := HV.out.stepR k hlt
          have hS := fun W (y : LR w B W rb tb 3 gs 3 S) => y.set (pickN l[k].m 3 : Int) (pickN l[k].s 3 : Int) l[k].xn l[k].xs
          have hS3' := setS_len S (pickN l[k].m 3 : Int) (pickN l[k].s 3 : Int) (l[k].xn, l[k].xs)
          rw [hS3] at hS3'
          generalize setB S (pickN l[k].m 3 : Int) (pickN l[k].s 3 : Int) (l[k].xn, l[k].xs) = sb at *
          generalize setS S (pickN l[k].m 3 : Int) (pickN l[k].s 3 : Int) (l[k].xn, l[k].xs) = S' at *
          generalize l[k].m = pm at *
          generalize l[k].s = ps at *
          generalize l[k].xn = pn at *
          generalize l[k].xs = px at *
          have hcc : ∀ W, Below B w W → W.cell? ⟨b, off + k * 5, none⟩ = some (.int .i64 pm) ∧ W.cell? ⟨b, off + k * 5 + 1, none⟩ = some (.int .i64 ps) ∧ W.cell? ⟨b, off + k * 5 + 2, none⟩ = some (.int .i64 pn) ∧ W.cell? ⟨b, off + k * 5 + 3, none⟩ = some (.int .u64 (px : Int)) := fun W hW =>
            ⟨(hW.cell (p := ⟨b, off + k * 5, none⟩) (by show b < B; omega)).trans h0, (hW.cell (p := ⟨b, off + k * 5 + 1, none⟩) (by show b < B; omega)).trans h1, (hW.cell (p := ⟨b, off + k * 5 + 2, none⟩) (by show b < B; omega)).trans h2, (hW.cell (p := ⟨b, off + k * 5 + 3, none⟩) (by show b < B; omega)).trans h3⟩
          obtain ⟨d0, d1, d2, d3⟩ := hcc _ x.bel
          have xd := x.read ((Below.refl _ _).drew)
          have hSd := hS _ xd
          have HS3 : Hid _ := hidden hS3'
          clear h0 h1 h2 h3 hS xd hS3 hS3'
          go_wp2
          go_region_held (fun W => W.cell? ⟨b, off + k * 5, none⟩ = some (.int .i64 pm) ∧ W.cell? ⟨b, off + k * 5 + 1, none⟩ = some (.int .i64 ps) ∧ W.cell? ⟨b, off + k * 5 + 2, none⟩ = some (.int .i64 pn) ∧ W.cell? ⟨b, off + k * 5 + 3, none⟩ = some (.int .u64 (px : Int))) (go_keep) (first
            | (go_at_call 14; refine (pick_any _ 3 (by omega) (by omega) _).mono ?_; rintro e _ ⟨rfl, rfl⟩)
            | (go_at_call 9; refine hSd.mono ?_; rintro e w3 ⟨rfl, x3, _⟩; obtain ⟨e0, e1, e2, e3⟩ := hcc _ x3.bel))
          all_goals
            clear hSd hcc x
            go_wp2
            go_roundw
            case rel => exact ⟨k + 1, by omega, by omega, by go_num, S', HS3.out, x3⟩
            case measure => simp [intOf]; omega
        · go_wp2
          go_meet
          exact ⟨S, hS3, x⟩
      · go_wp2
        go_meet
        exact ⟨S, hS3, x⟩
  case rest =>
    obtain ⟨S, hS3, x3⟩ := hcut
    obtain ⟨w3, hw3⟩ : ∃ x, x = wc := ⟨_, rfl⟩
    subst hw3
    clear x2 HV hlc
    have hle3 := x3.le
    have hal : (allR S).length ≤ 32 := by
      have := all_len x3.x S.length
      rwa [List.take_of_length_le (Nat.le_refl _)] at this
    have hlt3 := fun k (h : rBl rb tb gs k) => x3.x.lt k h (by omega)
    have hA1 := (x3.read (bel_alloc w3 (.cells #[] 30))).all
    have hA2 := fun W (y : LR w B W rb tb 3 gs 3 S) => y.all
    have hO2 := fun W (y : LR w B W rb tb 3 gs 3 S) => y.of 1
    have hE3 : (w3.alloc (.cells #[] 30)).heap[w3.heap.size]? = some (.cells #[] 30 (0, 0)) := heap_alloc_new w3 _
    have HE3 : Hid _ := hidden hE3
    clear hE3 hS3
    go_wp2_with fail
    refine hA1.mono ?_
    rintro e w4 ⟨v4, rfl, o4, x4, b4⟩
    have e4 : OwI w4 B (.slice (some ⟨w3.heap.size, 0, none⟩) 0 0) [] := ⟨rfl, Or.inr ⟨w3.heap.size, 0, #[], rfl, hle3, (b4.block _ (by simp)).trans HE3.out, Nat.le_refl _, Nat.zero_le _, rfl, rfl⟩⟩
    have hz4 : w3.heap.size < w4.heap.size := by have := b4.size; simp at this; omega
    clear hA1 HE3
    go_wp2_with (at_builtin; refine wpList_owI rfl (.tmp 54) (.tmp 56) rfl B (.slice (some ⟨w3.heap.size, 0, none⟩) 0 0) [] rfl e4 _ (allR S) rfl o4.sr (by simp; omega) x4.le ?_; intro v5 w5 o5 k5 m5)
    have x5 : LR w B w5 rb tb 3 gs 3 S := x4.other k5 (fun k e => by have e' : w3.heap.size = k := (by simpa [Value.ownBlock] using e); omega) (fun k h e => by have e' : w3.heap.size = k := (by simpa [Value.ownBlock] using e); have := hlt3 k h; omega)
    have hz5 : w4.heap.size ≤ w5.heap.size := k5.size
    have o5' : OwI w5 B v5 (allR S) := o5
    have g5 := fun k h => (o5'.ge k h).2
    clear o5 k5 m5 e4 o4 x4 b4
    refine (hA2 _ x5).mono ?_
    rintro e w6 ⟨v6, rfl, o6, x6, b6⟩
    have o56 := o5'.below b6
    clear hA2 x5 o5'
    go_wp2_with fail
    refine (hO2 _ x6).mono ?_
    rintro e w7 ⟨v7, rfl, o7, x7, b7⟩
    have hz6 := b6.size
    have y7 : OwS w B w7 rb tb 3 gs 3 S v5 v6 v7 (allR S).length (ofR S 1).length w5.heap.size w6.heap.size :=
      ⟨x7, o56.below b7, (o6.below b7).pad, o7.pad, fun k h => by have := hlt3 k h; omega, g5, fun k h => o6.ge k h, fun k h => (o7.ge k h).1, by omega⟩
    have hol : (ofR S 1).length ≤ 1000 := by
      obtain ⟨_, _, _, h1, h2, _⟩ := o7.at
      exact Nat.le_trans (keep_len _) (by
        by_cases hm : (1 : Int) < 0 ∨ (S.length : Int) ≤ 1
        · rw [rowR_no S 1 hm]; simp
        · rw [show (1 : Int) = ((1 : Nat) : Int) from rfl, rowR_nat S 1 (by omega), x7.x.wid _ (List.getElem_mem _)]; omega)
    generalize w5.heap.size = Z1 at *
    generalize w6.heap.size = Z2 at *
    generalize (ofR S 1).length = m at *
    clear hO2 x6 b6 o56 o6 o7 x7 b7 hlt3 g5
    generalize hn : (allR S).length = n at *
    have Hn : Hid _ := hidden hn
    clear hn
    obtain ⟨a6, c6, e6, _⟩ := y7.pa.ex
    obtain ⟨a7, c7, e7, _⟩ := y7.pb.ex
    subst e6 e7
    go_upto_block 2 with fail
    go_cut [9] from 62 to 71 (fun _ wc => OwS w B wc rb tb 3 gs 3 S v5 (.slice a6 n c6) (.slice a7 m c7) n m Z1 Z2)
    case first =>
      go_wp2
      go_loopw [9] (fun i wr => ∃ k : Nat, k ≤ n ∧ i = .int .i64 (k : Int) ∧ OwS w B wr rb tb 3 gs 3 S v5 (.slice a6 n c6) (.slice a7 m c7) n m Z1 Z2) (fun i _ => n - (intOf i).toNat)
      case atStart => exact ⟨0, Nat.zero_le _, rfl, y7⟩
      case round =>
        clear y7
        obtain ⟨k, hk, rfl, y⟩ := hrel
        by_cases hlt : (k : Int) < (n : Int)
        · obtain ⟨_, _, e6, h1, h2, h3⟩ := y.pa.ex
          unfold maxLen at h2
          simp only [Value.slice.injEq] at e6
          obtain ⟨rfl, _, rfl⟩ := e6
          obtain ⟨g, cur, rfl, h4, h5⟩ := h3 (by omega)
          obtain ⟨u0, u1, d0, d1, f0⟩ := pad_cells h4 h5 (k := k) (by omega)
          have HY : Hid _ := hidden (y.seta (k * 2) (k * 2 + 1) (.int .i64 9) (.int .u64 9))
          have HK : Hid (k + 1 ≤ n) := by
            have e : k + 1 ≤ n := by omega
            exact e
          clear h3 h4 h5 y
          go_wp2
          go_roundw
          case rel => exact ⟨k + 1, HK.out, by go_num, HY.out⟩
          case measure => have := HK.out; simp [intOf]; omega
        · go_wp2
          go_meet
          exact y
    case rest =>
      have y8 := hcut
      obtain ⟨w8, hw8⟩ : ∃ x, x = wc := ⟨_, rfl⟩
      subst hw8
      clear hcut y7
      go_upto_block 4 with fail
      go_cut [10] from 72 to 81 (fun _ wc => OwS w B wc rb tb 3 gs 3 S v5 (.slice a6 n c6) (.slice a7 m c7) n m Z1 Z2)
      case first =>
        go_wp2
        go_loopw [10] (fun i wr => ∃ k : Nat, k ≤ m ∧ i = .int .i64 (k : Int) ∧ OwS w B wr rb tb 3 gs 3 S v5 (.slice a6 n c6) (.slice a7 m c7) n m Z1 Z2) (fun i _ => m - (intOf i).toNat)
        case atStart => exact ⟨0, Nat.zero_le _, rfl, y8⟩
        case round =>
          clear y8
          obtain ⟨k, hk, rfl, y⟩ := hrel
          by_cases hlt : (k : Int) < (m : Int)
          · obtain ⟨_, _, e7, h1, h2, h3⟩ := y.pb.ex
            unfold maxLen at h2
            simp only [Value.slice.injEq] at e7
            obtain ⟨rfl, _, rfl⟩ := e7
            obtain ⟨g, cur, rfl, h4, h5⟩ := h3 (by omega)
            obtain ⟨u0, u1, d0, d1, f0⟩ := pad_cells h4 h5 (k := k) (by omega)
            have HY : Hid _ := hidden (y.setb (k * 2) (k * 2 + 1) (.int .i64 8) (.int .u64 8))
            have HK : Hid (k + 1 ≤ m) := by
              have e : k + 1 ≤ m := by omega
              exact e
            clear h3 h4 h5 y
            go_wp2
            go_roundw
            case rel => exact ⟨k + 1, HK.out, by go_num, HY.out⟩
            case measure => have := HK.out; simp [intOf]; omega
          · go_wp2
            go_meet
            exact y
      case rest =>
        have y9 := hcut
        obtain ⟨w9, hw9⟩ : ∃ x, x = wc := ⟨_, rfl⟩
        subst hw9
        clear hcut y8
        go_wp2_with fail
        refine y9.x.all.mono ?_
        rintro e w10 ⟨v10, rfl, o10, x10, b10⟩
        go_wp2_with fail
        refine (idsEq_any (allR S) _ _ _ _ _ o10 (y9.was.below b10)).mono ?_
        rintro e w11 ⟨rfl, b11⟩
        have HB : Hid _ := hidden (x10.read b11).bel
        clear y9 o10 x10 b10 b11
        go_wp2
        go_ret
        exact ⟨rfl, HB.out⟩

end Go.Proofs.Ytfoodmlgknckgaa
