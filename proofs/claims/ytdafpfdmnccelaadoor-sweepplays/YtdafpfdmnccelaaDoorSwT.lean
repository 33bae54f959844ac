/- The sweeper's calls, walked. -/
import Derived.Test.YtdafpfdmnccelaaDoorSwAP
import Derived.Deep.CutRange
import Derived.Deep.CutBlock
import Derived.Deep.RegionHeld
import Derived.BigQuiet
namespace Go.Proofs.YtdafpfdmnccelaaDoor
open Go.RowKit
section
variable {Fr : World → HSt → PSt → Prop} {hb pb sb : Nat} {S : Nat → Prop} {w : World} {h : HSt} {p : PSt} {pl en : Nat}
theorem sbegin_at (hLa : Calls Tryd.prog 25 #[.pointer (some ⟨hb, 0, none⟩)] w fun e w' => e = .returned (.int .u64 (h.last : Int)) ∧ w = w') (r : SwB w sb hb pb pl en) :
    Calls Tryd.prog 15 #[.pointer (some ⟨sb, 0, none⟩)] w fun e w' => e = .returned (.tuple #[]) ∧ SwB w' sb hb pb 0 h.last ∧ Kept w w' (fun k => k = sb) := by
  have d0 : w.cell? ⟨sb, 0, none⟩ = some (.pointer (some ⟨hb, 0, none⟩)) := r.cell 0 (by simp)
  have f2 := r.frozen 2
  have f3 := r.frozen 3
  have d2 : w.cell? ⟨sb, 2, none⟩ = some (.int .u64 (pl : Int)) := r.cell 2 (by simp)
  have d3 : w.cell? ⟨sb, 3, none⟩ = some (.int .u64 (en : Int)) := r.cell 3 (by simp)
  have hl := r.lt
  have hR := r.set 0 h.last
  have hK : Kept w ((w.setCell ⟨sb, 2, none⟩ (.int .u64 0)).setCell ⟨sb, 3, none⟩ (.int .u64 (h.last : Int))) (fun k => k = sb) := ((Kept.refl w (fun k => k = sb)).put ⟨sb, 2, none⟩ (.int .u64 0) rfl).put ⟨sb, 3, none⟩ (.int .u64 (h.last : Int)) rfl
  have HR : Hid _ := hidden hR
  have HK : Hid _ := hidden hK
  clear r hR hK
  generalize h.last = L at *
  go_enter Tryd.func15, Tryd.ntmps15
  go_wp2_with fail
  refine hLa.mono ?_
  rintro e _ ⟨rfl, rfl⟩
  clear hLa
  go_wp2
  go_end0
  exact ⟨rfl, HR.out, HK.out⟩
set_option maxRecDepth 20000 in
set_option maxHeartbeats 1000000 in
theorem sfree_sw (H : HoW Fr hb pb sb S) (f : Fr w h p) (r : SwB w sb hb pb pl en) (s : Nat) (hs : s < 18446744073709551616) :
    Calls Tryd.prog 36 #[.pointer (some ⟨sb, 0, none⟩), .int .u64 (s : Int)] w fun e w' => e = .returned (.int .u64 (s : Int)) ∧ Fr w' (h.freeS s) (p.forget s) ∧ SwB w' sb hb pb pl en ∧ Kept w w' S := by
  have d0 : w.cell? ⟨sb, 0, none⟩ = some (.pointer (some ⟨hb, 0, none⟩)) := r.cell 0 (by simp)
  have hl := r.lt
  have hFr := H.fr w h p s hs f
  have hFo := H.fo
  have HN : Hid (¬ S sb) := hidden H.ns
  have HR : Hid _ := hidden r
  clear H f r
  go_enter Tryd.func36, Tryd.ntmps36
  go_wp2_with fail
  refine hFr.mono ?_
  rintro e w2 ⟨rfl, f2, k2⟩
  have r2 : SwB w2 sb hb pb pl en := Row.kept HR.out k2 HN.out
  have hFo2 := hFo _ _ _ s f2
  have d1 : w2.cell? ⟨sb, 1, none⟩ = some (.pointer (some ⟨pb, 0, none⟩)) := r2.cell 1 (by simp)
  have hl2 := r2.lt
  have HR2 : Hid _ := hidden r2
  have HK2 : Hid _ := hidden k2
  clear d0 hl hFr hFo f2 k2 r2
  go_wp2_with fail
  refine hFo2.mono ?_
  rintro e w3 ⟨rfl, f3, k3⟩
  have HF3 : Hid _ := hidden f3
  have HR3 : Hid (SwB w3 sb hb pb pl en) := Row.kept HR2.out k3 HN.out
  have HK3 : Hid _ := hidden (HK2.out.trans k3 (fun _ _ e => e))
  clear hFo2 d1 hl2 f3 k3
  go_wp2
  go_ret
  exact ⟨rfl, HF3.out, HR3.out, HK3.out⟩
theorem skeep_sw (s : Nat) (w : World) :
    Calls Tryd.prog 38 #[.pointer (some ⟨sb, 0, none⟩), .int .u64 (s : Int)] w fun e w' => e = .returned (.int .u64 0) ∧ w = w' := by
  go_enter Tryd.func38, Tryd.ntmps38
  go_wp2
  go_ret
  exact ⟨rfl, rfl⟩
set_option maxRecDepth 20000 in
set_option maxHeartbeats 1000000 in
theorem snew_sw (hLa : ∀ o, Calls Tryd.prog 25 #[.pointer (some ⟨hb, 0, none⟩)] (w.alloc o) fun e w' => e = .returned (.int .u64 (h.last : Int)) ∧ (w.alloc o) = w') :
    Calls Tryd.prog 9 #[.pointer (some ⟨hb, 0, none⟩), .pointer (some ⟨pb, 0, none⟩)] w fun e w' => e = .returned (.tuple #[.pointer (some ⟨w.heap.size, 0, none⟩), .int .i64 0]) ∧ SwB w' w.heap.size hb pb 0 h.last ∧ Below w.heap.size w w' := by
  obtain ⟨wB, hwB⟩ : ∃ z, z = w.alloc (.cells #[.pointer (some ⟨hb, 0, none⟩), .pointer (some ⟨pb, 0, none⟩), .int .u64 0, .int .u64 0] 89) := ⟨_, rfl⟩
  have hR0 : SwB wB w.heap.size hb pb 0 0 := by rw [hwB]; exact heap_alloc_new w _
  have hB0 : Below w.heap.size w wB := by rw [hwB]; exact bel_alloc w _
  have hB := sbegin_at (hLa (.cells #[.pointer (some ⟨hb, 0, none⟩), .pointer (some ⟨pb, 0, none⟩), .int .u64 0, .int .u64 0] 89)) (by rw [← hwB]; exact hR0)
  rw [← hwB] at hB
  have HB0 : Hid _ := hidden hB0
  clear hLa hR0 hB0
  go_enter Tryd.func9, Tryd.ntmps9
  go_wp2_with fail
  rw [← hwB]
  refine hB.mono ?_
  rintro e w2 ⟨rfl, r2, k2⟩
  have HR2 : Hid _ := hidden r2
  have HB2 : Hid (Below w.heap.size w w2) := HB0.out.trans (k2.below HB0.out.size (fun i hi e => by have e' : i = w.heap.size := e; omega))
  clear hB r2 k2
  go_wp2
  go_ret2
  exact ⟨rfl, HR2.out, HB2.out⟩
set_option maxRecDepth 20000 in
set_option maxHeartbeats 1000000 in
theorem sstep_sw (H : HoW Fr hb pb sb S) (f : Fr w h p) (r : SwB w sb hb pb pl en) :
    Calls Tryd.prog 10 #[.pointer (some ⟨sb, 0, none⟩)] w fun e w' => e = .returned (.tuple #[.int .u64 ((swR h p pl en).1 : Int), .bool (swR h p pl en).2]) ∧ Fr w' (swH h p pl en) (swP h p pl en) ∧ SwB w' sb hb pb (swL h pl en) en ∧ Kept w w' (fun k => S k ∨ k = sb) := by
  have hdr : Below w.heap.size w w.drew := ⟨rfl, rfl, rfl, Nat.le_refl _, fun _ _ => rfl⟩
  have hN := H.nx _ _ _ pl (H.rd _ _ _ _ f hdr)
  have d0 : w.cell? ⟨sb, 0, none⟩ = some (.pointer (some ⟨hb, 0, none⟩)) := Row.cell r 0 (by simp)
  have d2 : w.cell? ⟨sb, 2, none⟩ = some (.int .u64 (pl : Int)) := Row.cell r 2 (by simp)
  have hl := Row.lt r
  have hlt : Hid ((nextR h.cs pl).1 < 18446744073709551616) := next_le (H.ok _ _ _ f) pl
  have hKw : ∀ a b : World, Below a.heap.size a b → Kept a b (fun k => S k ∨ k = sb) := fun _ _ hb => kept_of_below hb _
  have HKW : Hid _ := hidden hKw
  clear hKw
  by_cases h1b : (nextR h.cs pl).2 = true
  · rw [h1b] at hN
    by_cases h2b : (nextR h.cs pl).1 ≤ en
    · have hsb : swB h pl en = true := by
        unfold swB
        rw [h1b, decide_eq_true h2b]
        rfl
      have hng : ¬ (en : Int) < ((nextR h.cs pl).1 : Int) := by omega
      have hkk : swK h p pl = (markR h p (nextR h.cs pl).1).2.2 := rfl
      have hML := fun W (y : Fr W h p) => H.mar _ _ _ (nextR h.cs pl).1 hlt.out y
      cases hk : swK h p pl with
      | true =>
        obtain ⟨e1, e2, e3, e4⟩ := sw_mk hsb hk
        rw [e1, e2, e3, e4]
        rw [hkk] at hk
        generalize markR h p (nextR h.cs pl).1 = mk at *
        obtain ⟨m1, m2, m3⟩ := mk
        simp only at hk hML
        subst hk
        generalize (nextR h.cs pl).1 = n at *
        have HF : Hid _ := hidden f
        have HR : Hid _ := hidden r
        have HH : Hid _ := hidden H
        clear f r H hsb hkk e1 e2 e3 e4 h1b h2b hlt
        go_enter Tryd.func10, Tryd.ntmps10
        go_upto_region 1 with fail
        go_cut [4, 5] from 10 to 22 (fun a b wc => a = .int .u64 (n : Int) ∧ b = .bool true ∧ Below w.heap.size w wc)
        case first =>
          go_region_with (go_at_call 23; refine hN.mono ?_; rintro e w4 ⟨rfl, b4⟩)
          all_goals
            go_wp2
            go_meet
            exact ⟨rfl, rfl, hdr.trans b4⟩
        case rest =>
          obtain ⟨rfl, rfl, b1⟩ := hcut
          obtain ⟨w1, hw1⟩ : ∃ x, x = wc := ⟨_, rfl⟩
          subst hw1
          clear hN d0 d2 hl hdr
          have f1 := HH.out.rd _ _ _ _ HF.out b1
          have r1 : SwB w1 sb hb pb pl en := Row.below HR.out b1
          have fz := Row.frozen r1 2
          have c2 : w1.cell? ⟨sb, 2, none⟩ = some (.int .u64 (pl : Int)) := Row.cell r1 2 (by simp)
          have hl1 := Row.lt r1
          have c1 : (w1.setCell ⟨sb, 2, none⟩ (.int .u64 (n : Int))).cell? ⟨sb, 1, none⟩ = some (.pointer (some ⟨pb, 0, none⟩)) := Row.cell (r1.move n) 1 (by simp)
          have c3 : w1.cell? ⟨sb, 3, none⟩ = some (.int .u64 (en : Int)) := Row.cell r1 3 (by simp)
          have k1 : Kept w1 (w1.setCell ⟨sb, 2, none⟩ (.int .u64 (n : Int))) (fun k => k = sb) := (Kept.refl w1 (fun k => k = sb)).put ⟨sb, 2, none⟩ (.int .u64 (n : Int)) rfl
          have f2 := HH.out.wr _ _ _ 2 (.int .u64 (n : Int)) f1
          have hM2 := hML _ f2
          have HF2 : Hid _ := hidden f2
          have HR2 : Hid _ := hidden (r1.move n)
          have HK2 : Hid _ := hidden ((HKW.out _ _ b1).trans k1 (fun _ _ e => Or.inr e))
          clear f1 r1 k1 f2 hML b1 HF HR
          have hmf : ∀ (fn : Fn) (first cap : Array Value) (w : World), (Instr.makeFunc fn first cap).run Tryd.prog w = .ok (.func fn first cap) w := fun _ _ _ _ => rfl
          go_wp2_with fail
          refine hM2.mono ?_
          rintro e w5 ⟨rfl, b5⟩
          have HF5 : Hid _ := hidden (HH.out.rd _ _ _ _ HF2.out b5)
          have HR5 : Hid (SwB w5 sb hb pb n en) := Row.below HR2.out b5
          have HK5 : Hid _ := hidden (HK2.out.trans (HKW.out _ _ b5) (fun _ _ e => e))
          clear hM2 b5 c1 c2 c3 fz hl1 HF2 HR2 HK2
          go_wp2_with (go_at_call 38; refine (skeep_sw (sb := sb) n _).mono ?_; rintro e _ ⟨rfl, rfl⟩)
          go_ret2
          exact ⟨rfl, HF5.out, HR5.out, HK5.out⟩
      | false =>
        obtain ⟨e1, e2, e3, e4⟩ := sw_fr hsb hk
        rw [e1, e2, e3, e4]
        rw [hkk] at hk
        generalize markR h p (nextR h.cs pl).1 = mk at *
        obtain ⟨m1, m2, m3⟩ := mk
        simp only at hk hML
        subst hk
        generalize (nextR h.cs pl).1 = n at *
        have HF : Hid _ := hidden f
        have HR : Hid _ := hidden r
        have HH : Hid _ := hidden H
        clear f r H hsb hkk e1 e2 e3 e4 h1b h2b
        go_enter Tryd.func10, Tryd.ntmps10
        go_upto_region 1 with fail
        go_cut [4, 5] from 10 to 22 (fun a b wc => a = .int .u64 (n : Int) ∧ b = .bool true ∧ Below w.heap.size w wc)
        case first =>
          go_region_with (go_at_call 23; refine hN.mono ?_; rintro e w4 ⟨rfl, b4⟩)
          all_goals
            go_wp2
            go_meet
            exact ⟨rfl, rfl, hdr.trans b4⟩
        case rest =>
          obtain ⟨rfl, rfl, b1⟩ := hcut
          obtain ⟨w1, hw1⟩ : ∃ x, x = wc := ⟨_, rfl⟩
          subst hw1
          clear hN d0 d2 hl hdr
          have f1 := HH.out.rd _ _ _ _ HF.out b1
          have r1 : SwB w1 sb hb pb pl en := Row.below HR.out b1
          have fz := Row.frozen r1 2
          have c2 : w1.cell? ⟨sb, 2, none⟩ = some (.int .u64 (pl : Int)) := Row.cell r1 2 (by simp)
          have hl1 := Row.lt r1
          have c1 : (w1.setCell ⟨sb, 2, none⟩ (.int .u64 (n : Int))).cell? ⟨sb, 1, none⟩ = some (.pointer (some ⟨pb, 0, none⟩)) := Row.cell (r1.move n) 1 (by simp)
          have c3 : w1.cell? ⟨sb, 3, none⟩ = some (.int .u64 (en : Int)) := Row.cell r1 3 (by simp)
          have k1 : Kept w1 (w1.setCell ⟨sb, 2, none⟩ (.int .u64 (n : Int))) (fun k => k = sb) := (Kept.refl w1 (fun k => k = sb)).put ⟨sb, 2, none⟩ (.int .u64 (n : Int)) rfl
          have f2 := HH.out.wr _ _ _ 2 (.int .u64 (n : Int)) f1
          have hM2 := hML _ f2
          have HF2 : Hid _ := hidden f2
          have HR2 : Hid _ := hidden (r1.move n)
          have HK2 : Hid _ := hidden ((HKW.out _ _ b1).trans k1 (fun _ _ e => Or.inr e))
          clear f1 r1 k1 f2 hML b1 HF HR
          have hmf : ∀ (fn : Fn) (first cap : Array Value) (w : World), (Instr.makeFunc fn first cap).run Tryd.prog w = .ok (.func fn first cap) w := fun _ _ _ _ => rfl
          go_wp2_with fail
          refine hM2.mono ?_
          rintro e w5 ⟨rfl, b5⟩
          have HF5 : Hid _ := hidden (HH.out.rd _ _ _ _ HF2.out b5)
          have HR5 : Hid (SwB w5 sb hb pb n en) := Row.below HR2.out b5
          have HK5 : Hid _ := hidden (HK2.out.trans (HKW.out _ _ b5) (fun _ _ e => e))
          have hFf := sfree_sw HH.out HF5.out HR5.out n hlt.out
          clear hM2 b5 c1 c2 c3 fz hl1 HF2 HR2 HK2
          go_wp2_with (go_at_call 36; refine hFf.mono ?_; rintro e w6 ⟨rfl, f6, r6, k6⟩)
          have HF6 : Hid _ := hidden f6
          have HR6 : Hid _ := hidden r6
          have HK6 : Hid _ := hidden (HK5.out.trans k6 (fun _ _ e => Or.inl e))
          clear f6 r6 k6 hFf
          go_ret2
          exact ⟨rfl, HF6.out, HR6.out, HK6.out⟩
    · have hsb : swB h pl en = false := by
        unfold swB
        rw [decide_eq_false h2b, Bool.and_false]
      obtain ⟨e1, e2, e3, e4⟩ := sw_no p hsb
      rw [e1, e2, e3, e4]
      have hng : (en : Int) < ((nextR h.cs pl).1 : Int) := by omega
      generalize (nextR h.cs pl).1 = n at *
      have HF : Hid _ := hidden f
      have HR : Hid _ := hidden r
      have HH : Hid _ := hidden H
      clear f r H hsb e1 e2 e3 e4 h1b h2b hlt
      go_enter Tryd.func10, Tryd.ntmps10
      go_upto_region 1 with fail
      go_cut [4, 5] from 10 to 22 (fun a b wc => a = .int .u64 (n : Int) ∧ b = .bool true ∧ Below w.heap.size w wc)
      case first =>
        go_region_with (go_at_call 23; refine hN.mono ?_; rintro e w4 ⟨rfl, b4⟩)
        all_goals
          go_wp2
          go_meet
          exact ⟨rfl, rfl, hdr.trans b4⟩
      case rest =>
        obtain ⟨rfl, rfl, b1⟩ := hcut
        obtain ⟨w1, hw1⟩ : ∃ x, x = wc := ⟨_, rfl⟩
        subst hw1
        clear hN d0 d2 hl hdr
        have r1 := Row.below HR.out b1
        have c3 : w1.cell? ⟨sb, 3, none⟩ = some (.int .u64 (en : Int)) := Row.cell r1 3 (by simp)
        have hl1 := Row.lt r1
        have HF1 : Hid _ := hidden (HH.out.rd _ _ _ _ HF.out b1)
        have HR1 : Hid (SwB w1 sb hb pb pl en) := hidden r1
        have HK1 : Hid _ := hidden (HKW.out _ _ b1)
        clear r1 b1 HF HR
        go_wp2
        go_ret2
        exact ⟨rfl, HF1.out, HR1.out, HK1.out⟩
  · have h1f : (nextR h.cs pl).2 = false := by simpa using h1b
    have hsb : swB h pl en = false := by
      unfold swB
      rw [h1f, Bool.false_and]
    obtain ⟨e1, e2, e3, e4⟩ := sw_no p hsb
    rw [e1, e2, e3, e4]
    rw [h1f] at hN
    generalize (nextR h.cs pl).1 = n at *
    have HF : Hid _ := hidden f
    have HR : Hid _ := hidden r
    have HH : Hid _ := hidden H
    clear f r H hsb e1 e2 e3 e4 h1b h1f hlt
    go_enter Tryd.func10, Tryd.ntmps10
    go_upto_region 1 with fail
    go_cut [4, 5] from 10 to 22 (fun a b wc => a = .int .u64 (n : Int) ∧ b = .bool false ∧ Below w.heap.size w wc)
    case first =>
      go_region_with (go_at_call 23; refine hN.mono ?_; rintro e w4 ⟨rfl, b4⟩)
      all_goals
        go_wp2
        go_meet
        exact ⟨rfl, rfl, hdr.trans b4⟩
    case rest =>
      obtain ⟨rfl, rfl, b1⟩ := hcut
      obtain ⟨w1, hw1⟩ : ∃ x, x = wc := ⟨_, rfl⟩
      subst hw1
      clear hN d0 d2 hl hdr
      have r1 := Row.below HR.out b1
      have c3 : w1.cell? ⟨sb, 3, none⟩ = some (.int .u64 (en : Int)) := Row.cell r1 3 (by simp)
      have hl1 := Row.lt r1
      have HF1 : Hid _ := hidden (HH.out.rd _ _ _ _ HF.out b1)
      have HR1 : Hid (SwB w1 sb hb pb pl en) := hidden r1
      have HK1 : Hid _ := hidden (HKW.out _ _ b1)
      clear r1 b1 HF HR
      go_wp2
      go_ret2
      exact ⟨rfl, HF1.out, HR1.out, HK1.out⟩
theorem snew_nil1 (v : Option Addr) (w : World) :
    Calls Tryd.prog 9 #[.pointer none, .pointer v] w fun e w' => e = .returned (.tuple #[.pointer none, .int .i64 1]) ∧ w = w' := by
  go_enter Tryd.func9, Tryd.ntmps9
  go_wp2
  go_ret2
  exact ⟨rfl, rfl⟩
theorem snew_nil2 (b : Nat) (w : World) :
    Calls Tryd.prog 9 #[.pointer (some ⟨b, 0, none⟩), .pointer none] w fun e w' => e = .returned (.tuple #[.pointer none, .int .i64 1]) ∧ w = w' := by
  go_enter Tryd.func9, Tryd.ntmps9
  go_wp2
  go_ret2
  exact ⟨rfl, rfl⟩
end
end Go.Proofs.YtdafpfdmnccelaaDoor
