/- Shade, Scan. -/
import Derived.Test.YtbgaejjoomnklaaDoorPaC
namespace Go.Proofs.YtbgaejjoomnklaaDoor
open Go.RowKit

section
variable {w w' : World} {pb hb base sb mb tb : Nat} {v v' : Value} {p p' : PSt} {F : Nat → Prop} {h : HSt}
theorem pnode_any (y : HP w hb F h) (m : Nat) :
    Calls Tryd.prog 30 #[.pointer (some ⟨hb, 0, none⟩)] (w.drewN m) fun e w' => e = .returned (.int .i64 (h.node : Int)) ∧ w' = w.drewN m := by
  obtain ⟨ab, mb, L, hx, _⟩ := y.ex
  exact (hnode_any (hx.below (below_drewN0 w m))).mono (fun _ _ ⟨h1, h2⟩ => ⟨h1, h2.symm⟩)

set_option maxRecDepth 20000 in
set_option maxHeartbeats 2000000 in
theorem shade_any (x : PX w pb hb base sb mb tb v p) (y : HP w hb F h) (a : Int) (n : Nat) (r : Int) :
    Calls Tryd.prog 12 #[.pointer (some ⟨pb, 0, none⟩), .agg #[.int .i64 a, .int .u64 (n : Int)], .int .i64 r] w fun e w' => e = .returned (.tuple #[]) ∧ PGo w w' pb hb base (pBl pb sb mb tb v) (p.shade h (a, n) r) := by
  have hN := fun W => names_any a n W
  have hS0 := fun (hn : n < 18446744073709551616) W (hB : Below w.heap.size w W) => shadeOwn_any (x.below hB) (y.below hB) n hn (clampR r)
  have hM := fun W (hB : Below w.heap.size w W) => meet_any (x.below hB) a n (clampR r)
  have hc0 := fun W (hB : Below w.heap.size w W) => (x.below hB).c0
  have hNo := fun W m (hB : Below w.heap.size w W) => pnode_any (y.below hB) m
  have HX : Hid _ := hidden x
  have HT : Hid (∀ W W' q, Below w.heap.size w W → PGo W W' pb hb base (pBl pb sb mb tb v) q → PGo w W' pb hb base (pBl pb sb mb tb v) q) := fun W W' q hB hg => PGo.trans (fun k hk => Or.inl hk) (kept_of_below hB _) hg
  have hcl : (clampR r : Int) = min (max r 0) 40 := by unfold clampR; omega
  have hE : p.shade h (a, n) r = if namesB (a, n) then (if a = (h.node : Int) then p.own h n (clampR r) else p.meet (a, n) (clampR r)) else p := rfl
  rw [hE]
  generalize clampR r = c at *
  have HC : Hid ((c : Int) = min (max r 0) 40) := hidden hcl
  clear hE hcl x y
  have hA : ∀ o, Below w.heap.size w (w.alloc o) := fun o => bel_alloc w o
  have HN1 : Hid (∀ o w1, Below (w.alloc o).heap.size (w.alloc o) w1 → (∀ i, w1.cell? ⟨w.heap.size, i, none⟩ = (w.alloc o).cell? ⟨w.heap.size, i, none⟩) ∧ Below w.heap.size w w1 ∧ w.heap.size < w1.heap.size) := fun o w1 hb => ⟨fun i => hb.cell (p := ⟨w.heap.size, i, none⟩) (by simp), (hA o).trans (hb.mono (by simp)), by have := hb.size; simp at this; omega⟩
  cases hb : namesB (a, n) with
  | false =>
    rw [if_neg (by simp)]
    rw [hb] at hN
    clear hS0 hM hc0 hNo hb
    go_enter Tryd.func12, Tryd.ntmps12
    go_upto_region 1 with fail
    go_cut [2] from 6 to 8 (fun t wc => t = .int .i64 (c : Int) ∧ wc = w.alloc (.cells #[.int .i64 a, .int .u64 (n : Int)] 31))
    case first =>
      clear hN HN1 hA HT HX
      by_cases h0 : r < 0
      · have e : min (max r 0) 40 = 0 := by omega
        go_wp2
        go_meet
        exact ⟨by rw [HC.out, e], rfl⟩
      by_cases h1 : r = 0
      · have e : min (max r 0) 40 = 0 := by omega
        have HE : Hid _ := hidden (HC.out.trans e)
        clear HC e
        subst h1
        go_wp2
        go_meet
        exact ⟨by rw [HE.out], rfl⟩
      by_cases h2 : r < 40
      · have e : min (max r 0) 40 = r := by omega
        have h3 : 0 < r := by omega
        have HE : Hid _ := hidden (HC.out.trans e)
        clear HC e h0 h1
        go_wp2
        go_meet
        exact ⟨by rw [HE.out], rfl⟩
      by_cases h3 : r = 40
      · have e : min (max r 0) 40 = 40 := by omega
        have HE : Hid _ := hidden (HC.out.trans e)
        clear HC e
        subst h3
        go_wp2
        go_meet
        exact ⟨by rw [HE.out], rfl⟩
      · have e : min (max r 0) 40 = 40 := by omega
        have h4 : 0 < r := by omega
        have h5 : 40 < r := by omega
        have HE : Hid _ := hidden (HC.out.trans e)
        clear HC e h0 h1 h2 h3
        go_wp2
        go_meet
        exact ⟨by rw [HE.out], rfl⟩
    case rest =>
      obtain ⟨rfl, rfl⟩ := hcut
      clear HC
      go_wp2_with (go_at_call 29; refine (hN _).mono ?_; rintro e w1 ⟨rfl, hb1⟩; obtain ⟨d, bw, bs⟩ := HN1.out _ _ hb1; clear d hb1)
      (try simp only [Exit.inBlock, Exit.then]); refine bodyPost_ret (results_none rfl _ _ _) rfl ?_
      exact ⟨rfl, HX.out.pn.stay bw⟩
  | true =>
    rw [if_pos rfl]
    rw [hb] at hN
    have hS := hS0 (by simp [namesB] at hb; omega)
    clear hb hS0
    have hnd : ∃ nd : Int, nd = (h.node : Int) := ⟨_, rfl⟩
    obtain ⟨nd, hnd⟩ := hnd
    rw [← hnd] at hNo ⊢
    by_cases hq : a = nd
    · rw [if_pos hq]
      clear hM
      clear hnd
      subst hq
      go_enter Tryd.func12, Tryd.ntmps12
      go_upto_region 1 with fail
      go_cut [2] from 6 to 8 (fun t wc => t = .int .i64 (c : Int) ∧ wc = w.alloc (.cells #[.int .i64 a, .int .u64 (n : Int)] 31))
      case first =>
        clear hN HN1 hA HT HX hS hc0 hNo
        by_cases h0 : r < 0
        · have e : min (max r 0) 40 = 0 := by omega
          go_wp2
          go_meet
          exact ⟨by rw [HC.out, e], rfl⟩
        by_cases h1 : r = 0
        · have e : min (max r 0) 40 = 0 := by omega
          have HE : Hid _ := hidden (HC.out.trans e)
          clear HC e
          subst h1
          go_wp2
          go_meet
          exact ⟨by rw [HE.out], rfl⟩
        by_cases h2 : r < 40
        · have e : min (max r 0) 40 = r := by omega
          have h3 : 0 < r := by omega
          have HE : Hid _ := hidden (HC.out.trans e)
          clear HC e h0 h1
          go_wp2
          go_meet
          exact ⟨by rw [HE.out], rfl⟩
        by_cases h3 : r = 40
        · have e : min (max r 0) 40 = 40 := by omega
          have HE : Hid _ := hidden (HC.out.trans e)
          clear HC e
          subst h3
          go_wp2
          go_meet
          exact ⟨by rw [HE.out], rfl⟩
        · have e : min (max r 0) 40 = 40 := by omega
          have h4 : 0 < r := by omega
          have h5 : 40 < r := by omega
          have HE : Hid _ := hidden (HC.out.trans e)
          clear HC e h0 h1 h2 h3
          go_wp2
          go_meet
          exact ⟨by rw [HE.out], rfl⟩
      case rest =>
        obtain ⟨rfl, rfl⟩ := hcut
        clear HC
        go_upto_region 4 with (go_at_call 29; refine (hN _).mono ?_; rintro e w1 ⟨rfl, hb1⟩; obtain ⟨d, bw, bs⟩ := HN1.out _ _ hb1; have d0 := d 0; have d1 := d 1; simp at d0 d1; clear d hb1)
        have c0 := fun m => hc0 _ (bw.trans ((below_drewN0 w1 m).mono bw.size))
        have hNo1 := fun m => hNo _ m bw
        have hS1 := fun m => hS _ (bw.trans ((below_drewN0 w1 m).mono bw.size))
        have HB : Hid _ := hidden bw
        have c00 := hc0 _ bw
        clear hN hS hc0 hNo bw HN1 hA
        go_cut [17] from 18 to 25 (fun t wc => t = .bool true ∧ ∃ m, wc = w1.drewN m)
        case first =>
          go_quiet (first | (go_at_call 30; exact Calls.quiet_of_same (hNo1 _)))
          go_wp2
          go_meet
          exact ⟨by first | rfl | simp, _, rfl⟩
        case rest =>
          obtain ⟨rfl, m, rfl⟩ := hcut
          go_wp2_with fail
          refine (hS1 _).mono ?_
          rintro e w2 ⟨rfl, hg⟩
          have HG : Hid _ := hidden (HT.out _ _ _ (HB.out.trans ((below_drewN0 w1 m).mono HB.out.size)) hg)
          clear hg hS1 hNo1 c0 c00
          go_wp2
          go_end0
          exact ⟨rfl, HG.out⟩
    · rw [if_neg hq]
      clear hS
      clear hnd
      go_enter Tryd.func12, Tryd.ntmps12
      go_upto_region 1 with fail
      go_cut [2] from 6 to 8 (fun t wc => t = .int .i64 (c : Int) ∧ wc = w.alloc (.cells #[.int .i64 a, .int .u64 (n : Int)] 31))
      case first =>
        clear hN HN1 hA HT HX hM hc0 hNo hq
        by_cases h0 : r < 0
        · have e : min (max r 0) 40 = 0 := by omega
          go_wp2
          go_meet
          exact ⟨by rw [HC.out, e], rfl⟩
        by_cases h1 : r = 0
        · have e : min (max r 0) 40 = 0 := by omega
          have HE : Hid _ := hidden (HC.out.trans e)
          clear HC e
          subst h1
          go_wp2
          go_meet
          exact ⟨by rw [HE.out], rfl⟩
        by_cases h2 : r < 40
        · have e : min (max r 0) 40 = r := by omega
          have h3 : 0 < r := by omega
          have HE : Hid _ := hidden (HC.out.trans e)
          clear HC e h0 h1
          go_wp2
          go_meet
          exact ⟨by rw [HE.out], rfl⟩
        by_cases h3 : r = 40
        · have e : min (max r 0) 40 = 40 := by omega
          have HE : Hid _ := hidden (HC.out.trans e)
          clear HC e
          subst h3
          go_wp2
          go_meet
          exact ⟨by rw [HE.out], rfl⟩
        · have e : min (max r 0) 40 = 40 := by omega
          have h4 : 0 < r := by omega
          have h5 : 40 < r := by omega
          have HE : Hid _ := hidden (HC.out.trans e)
          clear HC e h0 h1 h2 h3
          go_wp2
          go_meet
          exact ⟨by rw [HE.out], rfl⟩
      case rest =>
        obtain ⟨rfl, rfl⟩ := hcut
        clear HC
        go_upto_region 4 with (go_at_call 29; refine (hN _).mono ?_; rintro e w1 ⟨rfl, hb1⟩; obtain ⟨d, bw, bs⟩ := HN1.out _ _ hb1; have d0 := d 0; have d1 := d 1; simp at d0 d1; clear d hb1)
        have c0 := fun m => hc0 _ (bw.trans ((below_drewN0 w1 m).mono bw.size))
        have hNo1 := fun m => hNo _ m bw
        have hM1 := fun m => hM _ (bw.trans ((below_drewN0 w1 m).mono bw.size))
        have HB : Hid _ := hidden bw
        have c00 := hc0 _ bw
        clear hN hM hc0 hNo bw HN1 hA
        go_cut [17] from 18 to 25 (fun t wc => t = .bool false ∧ ∃ m, wc = w1.drewN m)
        case first =>
          go_quiet (first | (go_at_call 30; exact Calls.quiet_of_same (hNo1 _)))
          go_wp2
          go_meet
          exact ⟨by first | rfl | simp [hq], _, rfl⟩
        case rest =>
          obtain ⟨rfl, m, rfl⟩ := hcut
          go_wp2_with fail
          refine (hM1 _).mono ?_
          rintro e w2 ⟨rfl, hg⟩
          have HG : Hid _ := hidden (HT.out _ _ _ (HB.out.trans ((below_drewN0 w1 m).mono HB.out.size)) hg)
          clear hg hM1 hNo1 c0 c00
          go_wp2
          go_end0
          exact ⟨rfl, HG.out⟩
end

end Go.Proofs.YtbgaejjoomnklaaDoor
