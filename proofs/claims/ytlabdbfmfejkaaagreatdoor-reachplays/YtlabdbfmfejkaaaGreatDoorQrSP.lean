import Derived.Test.YtlabdbfmfejkaaaGreatDoorQrL
import Derived.Test.YtlabdbfmfejkaaaGreatDoorPbDP
/- The plain reacher: Step. -/
/- The plain reacher: Step, the other ways; Begin. -/
/- The plain reacher: Step whole; Begin. -/
namespace Go.Proofs.YtlabdbfmfejkaaaGreatDoor
open Go.RowKit

def QSt.new (t : Int) : QSt := ⟨t, 0, false, 0, [], [], [], []⟩
/-- A step. -/
def QSt.step (h : HSt) (p : PSt) (s : QSt) : Bool × QSt := match s.waits.getLast? with
  | some a => (true, QSt.all h p { s with waits := s.waits.dropLast } (refsC h.cs a))
  | none => match aboveC h.cs s.place with
    | some o => (true, if 0 < o.d ∧ susO h p s.sus o.s = true then QSt.put { QSt.endS { s with place := o.s } with under := true, inn := o.s } o.s else { s with place := o.s })
    | none => (s.under, if s.under then s.endS else s)
section
variable {w w' : World} {B yb rb qb ra rc rt base : Nat} {L : Nat → Nat} {s s' : QSt} {rv wv tv kv ov : Value} {ts : List ((Nat × List (Int × Nat)) × Value)} {sv mv kv' vv lv : Value} {p : PSt} {Lp : List ((Int × Nat) × Nat)} {h : HSt} {M : List Pl} {n0 : Nat}
/-- One of its numbers is another one. -/
theorem RcQ.num (x : RcQ w B yb rb qb L s rv wv tv kv ov ts) (j : Nat) (v : Value) (hV : (rqV rb qb s rv wv tv kv ov).set j v = rqV rb qb s' rv wv tv kv ov) (h1 : s'.row = s.row) (h2 : s'.waits = s.waits) (h3 : s'.outs = s.outs) (h4 : s'.ended = s.ended) : QcGo w (w.setCell ⟨yb, j, none⟩ v) B yb rb qb L s' := by
  have hk : Kept w (w.setCell ⟨yb, j, none⟩ v) (fun k => L k = 0) := (Kept.setCell w ⟨yb, j, none⟩ v).mono (fun k _ e => by
    have e' : k = yb := e
    rw [e', x.l0])
  refine x.upd (f := fun _ => 1) hk (fun k _ e => by omega) (by rw [← hV]; exact x.box.set j v) (x.rl_k hk (fun k e => by omega)) (by rw [h4]; exact x.ed) (by rw [h1]; exact x.wl_k hk (fun k e => by omega)) (by rw [h2]; exact x.tl_k hk (fun k e => by omega)) (by rw [h3]; exact x.kl_k hk (fun k e => by omega)) (by rw [h3]; exact x.ol_k hk (fun k e => by omega)) (fun k e => Or.inl e) (fun k e => Or.inl e) (fun k e => Or.inl e) (fun k e => Or.inl e) (fun k e => Or.inl e) (fun e he k h => Or.inl ⟨e, he, h⟩)
theorem QcN.c (x : QcN w B yb rb qb L s) : w.cell? ⟨yb, 0, none⟩ = some (.pointer (some ⟨rb, 0, none⟩)) ∧ w.cell? ⟨yb, 3, none⟩ = some (.int .u64 (s.place : Int)) ∧ w.cell? ⟨yb, 5, none⟩ = some (.bool s.under) ∧ w.cell? ⟨yb, 6, none⟩ = some (.int .u64 (s.inn : Int)) ∧ (∀ j, w.frozen? ⟨yb, j, none⟩ = false) ∧ yb < w.heap.size := by
  obtain ⟨_, _, _, _, _, _, x⟩ := x
  obtain ⟨k0, _, _, k3, _, k5, k6, _⟩ := x.c
  exact ⟨k0, k3, k5, k6, fun j => x.box.frozen j, x.bl.2⟩
theorem QcN.place_ (x : QcN w B yb rb qb L s) (a : Nat) : QcGo w (w.setCell ⟨yb, 3, none⟩ (.int .u64 (a : Int))) B yb rb qb L { s with place := a } := by
  obtain ⟨_, _, _, _, _, _, x⟩ := x
  exact x.num 3 _ rfl rfl rfl rfl rfl
theorem QcN.under_ (x : QcN w B yb rb qb L s) : QcGo w (w.setCell ⟨yb, 5, none⟩ (.bool true)) B yb rb qb L { s with under := true } := by
  obtain ⟨_, _, _, _, _, _, x⟩ := x
  exact x.num 5 _ rfl rfl rfl rfl rfl
theorem QcN.inn_ (x : QcN w B yb rb qb L s) (a : Nat) : QcGo w (w.setCell ⟨yb, 6, none⟩ (.int .u64 (a : Int))) B yb rb qb L { s with inn := a } := by
  obtain ⟨_, _, _, _, _, _, x⟩ := x
  exact x.num 6 _ rfl rfl rfl rfl rfl
/-- The last one that waits is taken off. -/
theorem own_cut {E : TypeId} {ao : Option Addr} {n cap : Nat} {xs : List Value} {u : Value} (h : w.ownsRow B E 1 (.slice ao (n + 1) cap) (n + 1) (xs ++ [u])) (hx : xs.length = n) : w.ownsRow B E 1 (.slice ao n cap) n xs := by
  rcases h.2 with ⟨_, h0⟩ | ⟨g, c, cur, e, h1, h2, h3, h4, h5, h6⟩
  · omega
  · simp only [Value.slice.injEq] at e
    obtain ⟨rfl, _, rfl⟩ := e
    refine ⟨by rw [hx, Nat.mul_one], Or.inr ⟨g, cap, cur, rfl, h1, h2, by omega, h4, h5, ?_⟩⟩
    rw [Nat.mul_one] at h6 ⊢
    have h7 := congrArg (List.take n) h6
    have h8 : xs.take n = xs := List.take_of_length_le (by omega)
    rw [List.take_take, Nat.min_eq_left (Nat.le_succ n), List.take_append_of_le_length (by omega), h8] at h7
    exact h7
set_option maxRecDepth 20000 in
set_option maxHeartbeats 4000000 in
theorem qstep_wait (x : QcN w B yb rb qb L s) (q : RQ w qb rb base sv mv kv' vv p Lp) (z : RX w rb ra rc rt lv h M) (hq : ∀ k, qBl qb sv mv kv' vv k → ¬ L k < 9) (hz : ∀ k ∈ rBl rb ra rc rt lv M, ¬ L k < 9) (nm : ∀ e ∈ p.me, namesB e.1 = true) (hR : ∀ a, ∀ x ∈ refsC h.cs a, rightI x = true) (hb : QB s n0) (hn : n0 ≤ 90000) {a : Nat} {l : List Nat} (hw : s.waits = l ++ [a]) :
    Calls Tryz.prog 12 #[.pointer (some ⟨yb, 0, none⟩)] w fun e w' => e = .returned (.bool true) ∧ QcGo w w' B yb rb qb L (QSt.all h p { s with waits := l } (refsC h.cs a)) := by
  have HQ : Hid (∀ W, Kept w W (fun k => L k < 9) → RQ W qb rb base sv mv kv' vv p Lp) := fun W hk => q.kept hk hq
  have HZ : Hid (∀ W, Kept w W (fun k => L k < 9) → RX W rb ra rc rt lv h M) := fun W hk => z.kept hk hz
  have hqw : ∀ k, qBl qb sv mv kv' vv k → k < w.heap.size := fun k e => q.lt k e
  have hzw : ∀ k ∈ rBl rb ra rc rt lv M, k < w.heap.size := fun k e => z.lt k e
  obtain ⟨rv, wv, tv, kv, ov, ts, x⟩ := x
  obtain ⟨_, _, _, _, _, _, _, _, c8, _⟩ := x.c
  obtain ⟨k, hk⟩ : ∃ k, k = l.length := ⟨_, rfl⟩
  have hwl : s.waits.length = k + 1 := by rw [hw, List.length_append, hk]; rfl
  obtain ⟨tq, tc, htv, htc1, htc2, _⟩ := own_slice x.tl
  rw [hwl] at htv htc1
  unfold maxLen at htc2
  subst htv
  have hyl := x.bl.2
  have hk9 : k < 90000 := by have := hb.w; omega
  have hcell : ∃ g, tq = some ⟨g, 0, none⟩ ∧ g < w.heap.size ∧ w.cell? ⟨g, k, none⟩ = some (.int .u64 (a : Int)) := by
    obtain ⟨g, cap', e, _, h2, _, h3, _⟩ := ownc_cell x.tl (by omega)
    simp only [Value.slice.injEq] at e
    refine ⟨g, e.1, h2, h3 k _ ?_⟩
    rw [hw, List.map_append, List.getElem?_append_right (by rw [List.length_map, hk]; exact Nat.le_refl _)]
    simp [hk, uV]
  obtain ⟨g, rfl, hgl, d0⟩ := hcell
  have HGO : Hid (∀ W, Below w.heap.size w W → QcGo w (W.setCell ⟨yb, 8, none⟩ (.slice (some ⟨g, 0, none⟩) k tc)) B yb rb qb L { s with waits := l }) := fun W hB => by
    have ho : W.ownsRow B 44 1 (.slice (some ⟨g, 0, none⟩) k tc) l.length (l.map uV) := by
      have h1 := own_kept x.tl (kept_of_below hB (fun _ => False)) (fun _ _ e => e)
      rw [hwl, hw, List.map_append] at h1
      rw [← hk]
      exact own_cut h1 (by rw [List.length_map, hk])
    exact (x.waitl hB (Kept.refl W _) ho (fun j e => Or.inl e)).1
  have HQB : Hid (QB { s with waits := l } n0) := ⟨hb.r, by have := hb.w; show l.length ≤ n0; omega, hb.o, hb.ou⟩
  have f8 := x.box.frozen 8
  have HNM : Hid _ := hidden nm
  have HR : Hid _ := hidden (hR a)
  have HLQ : Hid ((∀ k, qBl qb sv mv kv' vv k → ¬ L k < 9) ∧ (∀ k ∈ rBl rb ra rc rt lv M, ¬ L k < 9) ∧ (∀ k, qBl qb sv mv kv' vv k → k < w.heap.size) ∧ ∀ k ∈ rBl rb ra rc rt lv M, k < w.heap.size) := ⟨hq, hz, hqw, hzw⟩
  have hki : (k : Int) < (k : Int) + 1 := by omega
  have hk1 : k + 1 ≤ 100000 := by omega
  have hcs : ((k + 1 : Nat) : Int) = (k : Int) + 1 := by omega
  have hpos : 0 < (k : Int) + 1 := by omega
  clear x q z hq hz nm hR hb hw hwl hqw hzw hk
  go_enter Tryz.func12, Tryz.ntmps12
  go_upto_region 2 with fail
  go_cut [3] from 13 to 24 (fun t wc => t = .int .u64 (a : Int) ∧ Below w.heap.size w wc)
  case first =>
    have P8 : ∀ m, (w.drewN m).cell? ⟨yb, 8, none⟩ = some (.slice (some ⟨g, 0, none⟩) (k + 1) tc) := fun _ => c8
    have P0 : ∀ m, (w.drewN m).cell? ⟨g, k, none⟩ = some (.int .u64 (a : Int)) := fun _ => d0
    go_quiet (fail)
    go_wp2
    go_meet
    exact ⟨rfl, below_drewN0 _ _⟩
  case rest =>
    obtain ⟨rfl, hbc⟩ := hcut
    obtain ⟨w2, hw2⟩ : ∃ x, x = wc := ⟨_, rfl⟩
    subst hw2
    have e8 := (hbc.cell (p := ⟨yb, 8, none⟩) hyl).trans c8
    have ef8 := (hbc.frozen (p := ⟨yb, 8, none⟩) hyl).trans f8
    have hyl2 : yb < w2.heap.size := Nat.lt_of_lt_of_le hyl hbc.size
    have HBC : Hid _ := hidden hbc
    clear c8 f8 hyl d0 hgl hbc
    go_upto_region 3 with fail
    go_cut [] from 25 to 38 (fun wd => QcGo w wd B yb rb qb L { s with waits := l })
    case first =>
      have HG8 : Hid (∀ W, Below w2.heap.size w2 W → QcGo w (W.setCell ⟨yb, 8, none⟩ (.slice (some ⟨g, 0, none⟩) k tc)) B yb rb qb L { s with waits := l }) := fun W hB => HGO.out W (HBC.out.trans (hB.mono HBC.out.size))
      go_region
      all_goals
        go_wp2
        go_meet
        exact HG8.out _ (Below.refl _ _).drew
    case rest =>
      obtain ⟨L1, x1, a1⟩ := hcut.ex
      obtain ⟨l1, l2, l3, l4⟩ := HLQ.out
      have hLo := qlook_any x1 (HQ.out wc hcut.kept) (HZ.out wc hcut.kept) (fun k e f => by
        rcases a1 k f with b | b
        · exact l1 k e b
        · have := l3 k e; omega) (fun k e f => by
        rcases a1 k f with b | b
        · exact l2 k e b
        · have := l4 k e; omega) HNM.out a HR.out HQB.out hn
      have HK1 : Hid _ := hidden hcut.kept
      have HA1 : Hid _ := hidden a1
      clear x1 a1 hcut l1 l2 l3 l4 e8 ef8 hyl2
      go_wp2_with fail
      refine hLo.mono ?_
      rintro e w5 ⟨rfl, g5⟩
      have HG5 : Hid _ := hidden (g5.after HK1.out HA1.out)
      clear hLo g5
      go_wp2
      go_ret
      exact ⟨rfl, HG5.out⟩
end
end Go.Proofs.YtlabdbfmfejkaaaGreatDoor

namespace Go.Proofs.YtlabdbfmfejkaaaGreatDoor
open Go.RowKit

section
variable {w w1 w' : World} {B yb rb qb ra rc rt base : Nat} {L : Nat → Nat} {s s' : QSt} {rv wv tv kv ov : Value} {ts : List ((Nat × List (Int × Nat)) × Value)} {sv mv kv' vv lv : Value} {p : PSt} {Lp : List ((Int × Nat) × Nat)} {h : HSt} {M : List Pl} {n0 : Nat}
theorem QcGo.next (h1 : QcGo w w1 B yb rb qb L s) : ∃ L1, QcN w1 B yb rb qb L1 s ∧ ∀ w' s2, QcGo w1 w' B yb rb qb L1 s2 → QcGo w w' B yb rb qb L s2 := by
  obtain ⟨L1, x1, a1⟩ := h1.ex
  exact ⟨L1, x1, fun w' s2 h2 => h2.after h1.kept a1⟩
theorem QcN.below_go (_ : QcN w B yb rb qb L s) (hB : Below w.heap.size w w1) (h2 : QcGo w1 w' B yb rb qb L s') : QcGo w w' B yb rb qb L s' := h2.after (kept_of_below hB _) (fun _ e => Or.inl e)
theorem QcN.tv0 (x : QcN w B yb rb qb L s) (hw : s.waits = []) : ∃ tq tc, w.cell? ⟨yb, 8, none⟩ = some (.slice tq 0 tc) := by
  obtain ⟨_, _, _, _, _, _, x⟩ := x
  obtain ⟨_, _, _, _, _, _, _, _, c8, _⟩ := x.c
  obtain ⟨tq, tc, htv, _⟩ := own_slice x.tl
  rw [hw] at htv
  rw [htv] at c8
  exact ⟨tq, tc, c8⟩
set_option maxRecDepth 20000 in
set_option maxHeartbeats 4000000 in
theorem qstep_move (x : QcN w B yb rb qb L s) (q : RQ w qb rb base sv mv kv' vv p Lp) (z : RX w rb ra rc rt lv h M) (hq : ∀ k, qBl qb sv mv kv' vv k → ¬ L k < 9) (hz : ∀ k ∈ rBl rb ra rc rt lv M, ¬ L k < 9) (hb : QB s n0) (hn : n0 ≤ 90000) (he : s.ended.length ≤ 100000) (hw : s.waits = []) {o : Oc} (ho : aboveC h.cs s.place = some o) :
    Calls Tryz.prog 12 #[.pointer (some ⟨yb, 0, none⟩)] w fun e w' => e = .returned (.bool true) ∧ QcGo w w' B yb rb qb L (if 0 < o.d ∧ susO h p s.sus o.s = true then QSt.put { QSt.endS { s with place := o.s } with under := true, inn := o.s } o.s else { s with place := o.s }) := by
  have HQ : Hid (∀ W, Kept w W (fun k => L k < 9) → RQ W qb rb base sv mv kv' vv p Lp) := fun W hk => q.kept hk hq
  have HZ : Hid (∀ W, Kept w W (fun k => L k < 9) → RX W rb ra rc rt lv h M) := fun W hk => z.kept hk hz
  obtain ⟨hm, _⟩ := above_mem ho
  have hgc := getC_of_mem z.ok hm
  have hgp := z.get_of o.s
  rw [hgc] at hgp
  obtain ⟨pl, hpl, hplo⟩ : ∃ pl, getP M o.s = some pl ∧ pl.o = o := by
    cases hg : getP M o.s with
    | none => rw [hg] at hgp; cases hgp
    | some pl =>
      rw [hg] at hgp
      simp only [Option.map_some, Option.some.injEq] at hgp
      exact ⟨pl, rfl, hgp.symm⟩
  have hpm := (getP_mem hpl).1
  have HOC : Hid (∀ W, Kept w W (fun k => L k < 9) → W.cell? ⟨pl.pb, 4, none⟩ = some (.int .i64 (o.d : Int)) ∧ pl.pb < W.heap.size ∧ Calls Tryz.prog 37 #[.pointer (some ⟨rb, 0, none⟩), .int .u64 (o.s : Int)] W fun e w' => e = .returned (.pointer (some ⟨pl.pb, 0, none⟩)) ∧ W = w') := fun W hk => by
    have zW := HZ.out W hk
    have h1 := zW.pc hpm 4 _ rfl
    rw [hplo] at h1
    refine ⟨h1, (zW.rows pl hpm).1.lt, ?_⟩
    have h2 := rget_any zW o.s
    rw [hpl] at h2
    exact h2
  have HNX : Hid (∀ W, Kept w W (fun k => L k < 9) → Calls Tryz.prog 36 #[.pointer (some ⟨rb, 0, none⟩), .int .u64 (s.place : Int)] W fun e w' => e = .returned (.tuple #[.int .u64 (o.s : Int), .bool true]) ∧ Below W.heap.size W w') := fun W hk => by
    have h1 := rnext_any (HZ.out W hk) s.place
    rw [next_above, ho] at h1
    exact h1.mono (fun e w' ⟨a, b⟩ => ⟨a, b ▸ Below.refl _ _⟩)
  obtain ⟨c0, c3, _, _, _, hyl⟩ := x.c
  obtain ⟨tq, tc, c8⟩ := x.tv0 hw
  have HXN : Hid _ := hidden x
  have HQB : Hid _ := hidden hb
  have HE : Hid _ := hidden he
  have hod : o.d ≤ 40 := (z.ok.fl o hm).2.2.2
  have hbk : ∀ p : BelW w, Kept w p.W (fun k => L k < 9) := fun p => kept_of_below p.h _
  have hNx := fun p : BelW w => HNX.out p.W (hbk p)
  have D0 := fun p : BelW w => p.cell c0
  have D3 := fun p : BelW w => p.cell c3
  have hmix : Tryz.prog.follows .mixedOrders = true := by kernel_rfl
  obtain ⟨os, hos⟩ : ∃ os, os = o.s := ⟨_, rfl⟩
  obtain ⟨od, hode⟩ : ∃ od, od = o.d := ⟨_, rfl⟩
  rw [← hos] at hNx HOC HNX ⊢
  rw [← hode] at HOC hod ⊢
  obtain ⟨sb, hsb⟩ : ∃ sb, sb = susO h p s.sus os := ⟨_, rfl⟩
  rw [← hsb]
  have HSB : Hid (sb = susO h p s.sus os) := hsb
  obtain ⟨F, hF⟩ : ∃ F, F = (if 0 < od ∧ sb = true then QSt.put { QSt.endS { s with place := os } with under := true, inn := os } os else { s with place := os }) := ⟨_, rfl⟩
  rw [← hF]
  have HF1 : Hid (¬ (0 < od ∧ sb = true) → F = { s with place := os }) := fun e => by rw [hF, if_neg e]
  have HF2 : Hid ((0 < od ∧ sb = true) → F = QSt.put { QSt.endS { s with place := os } with under := true, inn := os } os) := fun e => by rw [hF, if_pos e]
  clear x q z hq hz hb he hw ho hm hgc hgp hpl hplo hpm hbk hos hode hsb hF
  go_enter Tryz.func12, Tryz.ntmps12
  go_upto_region 6 with fail
  refine wp_region_below hmix (by kernel_rfl) ?_
  iterate 8 (quiet_step (done))
  quiet_step ((go_at_call 36; exact calls_below_of (hNx _)))
  iterate 5 (quiet_step (done))
  refine wpQuiet_nil ?_
  rintro w3 ⟨⟨_, hq3⟩, rfl⟩
  have x3 := HXN.out.below hq3
  have HB3 : Hid (Below w.heap.size w w3) := hq3
  obtain ⟨_, c3, _, _, fz, hyl⟩ := x3.c
  have f3 := fz 3
  obtain ⟨L4, x4, t4⟩ := (HXN.out.below_go hq3 (x3.place_ os)).next
  have hk4 : Kept w (w3.setCell ⟨yb, 3, none⟩ (.int .u64 (os : Int))) (fun k => L k < 9) := (HXN.out.below_go hq3 (x3.place_ os)).kept
  obtain ⟨w4, hw4⟩ : ∃ v, v = w3.setCell ⟨yb, 3, none⟩ (.int .u64 (os : Int)) := ⟨_, rfl⟩
  rw [← hw4] at x4 t4 hk4
  obtain ⟨o4, opl, hGe⟩ := HOC.out w4 hk4
  have HX4 : Hid _ := hidden x4
  have HT4 : Hid _ := hidden t4
  have HK4 : Hid _ := hidden hk4
  clear hNx D0 D3 c0 c8 hq3 x3 fz x4 t4 hk4
  go_upto_region 9 with fail
  rw [← hw4]
  clear hw4 c3 f3 hyl
  obtain ⟨c0, _, _, _, _, hyl⟩ := HX4.out.c
  go_wp2_with fail
  refine hGe.mono ?_
  rintro e _ ⟨rfl, rfl⟩
  clear hGe
  have HNO : Hid (¬ (0 < od ∧ sb = true) → ∀ W, Below w4.heap.size w4 W → QcGo w W B yb rb qb L F) := fun e W hB => by
    rw [HF1.out e]
    exact HT4.out _ _ (HX4.out.stay hB)
  by_cases hd : 0 < (od : Int)
  · have hSu := qsus_any HX4.out (HQ.out w4 HK4.out) (HZ.out w4 HK4.out) os
    have hsus : ({ s with place := os } : QSt).sus = s.sus := rfl
    rw [hsus, ← HSB.out] at hSu
    clear hsus HSB
    go_wp2_with fail
    refine hSu.mono ?_
    rintro e w5 ⟨rfl, b5⟩
    have HB5 : Hid _ := hidden b5
    clear hSu c0 b5 o4 opl
    cases sb with
    | false =>
      have HG : Hid _ := hidden (HNO.out (by simp) w5 HB5.out)
      go_wp2
      go_ret
      exact ⟨rfl, HG.out⟩
    | true =>
      have x5 := HX4.out.below HB5.out
      have hEn := qend_any x5 (by have := HQB.out.o; show s.outs.length ≤ 1000000; omega) (by have := HE.out; show s.ended.length ≤ 1000000; omega)
      have HF := HF2.out ⟨by omega, rfl⟩
      have HFF : Hid _ := hidden HF
      clear HF x5 HNO hyl
      go_wp2_with fail
      refine hEn.mono ?_
      rintro e w6 ⟨rfl, g6⟩
      obtain ⟨L6, x6, t6⟩ := g6.next
      have HT6 : Hid _ := hidden (fun (w' : World) (s2 : QSt) (g : QcGo w6 w' B yb rb qb L6 s2) => HT4.out w' s2 (HX4.out.below_go HB5.out (t6 w' s2 g)))
      obtain ⟨_, _, c5, _, fz, hyl⟩ := x6.c
      have f5 := fz 5
      obtain ⟨L7, x7, t7⟩ := x6.under_.next
      obtain ⟨w7, hw7⟩ : ∃ v, v = w6.setCell ⟨yb, 5, none⟩ (.bool true) := ⟨_, rfl⟩
      rw [← hw7] at x7 t7
      obtain ⟨_, _, _, c6, fz7, hyl7⟩ := x7.c
      have f6 := fz7 6
      obtain ⟨L8, x8, t8⟩ := (x7.inn_ os).next
      obtain ⟨w8, hw8⟩ : ∃ v, v = w7.setCell ⟨yb, 6, none⟩ (.int .u64 (os : Int)) := ⟨_, rfl⟩
      rw [← hw8] at x8 t8
      have hPu := qput_any x8 os (by show ([] : List Nat).length ≤ 100000; simp) (by show ([] : List Nat).length ≤ 100000; simp)
      have HT8 : Hid _ := hidden (fun (w' : World) (s2 : QSt) (g : QcGo w8 w' B yb rb qb L8 s2) => HT6.out w' s2 (t7 w' s2 (t8 w' s2 g)))
      clear hEn g6 x6 t6 fz x7 t7 fz7 x8 t8
      go_upto_region 13 with fail
      rw [← hw7]
      clear hw7 c5 f5 hyl
      go_upto_region 14 with fail
      rw [← hw8]
      clear hw8 c6 f6 hyl7
      go_wp2_with fail
      refine hPu.mono ?_
      rintro e w9 ⟨rfl, g9⟩
      have HG9 : Hid _ := hidden (HT8.out _ _ g9)
      clear hPu g9
      go_wp2
      go_ret
      rw [HFF.out]
      exact ⟨rfl, HG9.out⟩
  · have HG : Hid _ := hidden (HNO.out (fun e => hd (by omega)) w4 (Below.refl _ _))
    clear HNO
    go_wp2
    go_ret
    exact ⟨rfl, HG.out⟩
end
end Go.Proofs.YtlabdbfmfejkaaaGreatDoor

namespace Go.Proofs.YtlabdbfmfejkaaaGreatDoor
open Go.RowKit

section
variable {w w1 w' : World} {B yb rb qb ra rc rt base : Nat} {L : Nat → Nat} {s s' : QSt} {rv wv tv kv ov : Value} {ts : List ((Nat × List (Int × Nat)) × Value)} {sv mv kv' vv lv : Value} {p : PSt} {Lp : List ((Int × Nat) × Nat)} {h : HSt} {M : List Pl} {n0 : Nat}
set_option maxRecDepth 20000 in
set_option maxHeartbeats 4000000 in
theorem qstep_end (x : QcN w B yb rb qb L s) (z : RX w rb ra rc rt lv h M) (hz : ∀ k ∈ rBl rb ra rc rt lv M, ¬ L k < 9) (hb : QB s n0) (hn : n0 ≤ 90000) (he : s.ended.length ≤ 100000) (hw : s.waits = []) (ho : aboveC h.cs s.place = none) :
    Calls Tryz.prog 12 #[.pointer (some ⟨yb, 0, none⟩)] w fun e w' => e = .returned (.bool s.under) ∧ QcGo w w' B yb rb qb L (if s.under then s.endS else s) := by
  have HNX : Hid (∀ W, Kept w W (fun k => L k < 9) → Calls Tryz.prog 36 #[.pointer (some ⟨rb, 0, none⟩), .int .u64 (s.place : Int)] W fun e w' => e = .returned (.tuple #[.int .u64 0, .bool false]) ∧ Below W.heap.size W w') := fun W hk => by
    have h1 := rnext_any (z.kept hk hz) s.place
    rw [next_above, ho] at h1
    exact h1.mono (fun e w' ⟨a, b⟩ => ⟨a, b ▸ Below.refl _ _⟩)
  obtain ⟨c0, c3, _, _, _, hyl⟩ := x.c
  obtain ⟨tq, tc, c8⟩ := x.tv0 hw
  have HXN : Hid _ := hidden x
  have HQB : Hid _ := hidden hb
  have HE : Hid _ := hidden he
  have hbk : ∀ p : BelW w, Kept w p.W (fun k => L k < 9) := fun p => kept_of_below p.h _
  have hNx := fun p : BelW w => HNX.out p.W (hbk p)
  have D0 := fun p : BelW w => p.cell c0
  have D3 := fun p : BelW w => p.cell c3
  have hmix : Tryz.prog.follows .mixedOrders = true := by kernel_rfl
  obtain ⟨un, hun⟩ : ∃ un, un = s.under := ⟨_, rfl⟩
  rw [← hun]
  have HUN : Hid (s.under = un) := hun.symm
  obtain ⟨F, hF⟩ : ∃ F, F = (if un then s.endS else s) := ⟨_, rfl⟩
  rw [← hF]
  have HF : Hid (F = (if un then s.endS else s)) := hF
  clear x z hz hb he hw ho hbk hun hF
  go_enter Tryz.func12, Tryz.ntmps12
  go_upto_region 6 with fail
  refine wp_region_below hmix (by kernel_rfl) ?_
  iterate 8 (quiet_step (done))
  quiet_step ((go_at_call 36; exact calls_below_of (hNx _)))
  iterate 5 (quiet_step (done))
  refine wpQuiet_nil ?_
  rintro w3 ⟨⟨_, hq3⟩, rfl⟩
  have x3 := HXN.out.below hq3
  have HB3 : Hid (Below w.heap.size w w3) := hq3
  obtain ⟨_, _, c5, _, _, hyl⟩ := x3.c
  rw [HUN.out] at c5
  have hEn := qend_any x3 (by have := HQB.out.o; omega) (by have := HE.out; omega)
  clear hNx D0 D3 c0 c3 c8 hq3 x3
  cases un with
  | false =>
    have HG : Hid (QcGo w w3 B yb rb qb L F) := by
      have e : QcGo w w3 B yb rb qb L F := by rw [HF.out]; exact HXN.out.stay HB3.out
      exact e
    clear hEn
    go_wp2
    go_ret
    exact ⟨rfl, HG.out⟩
  | true =>
    go_wp2_with fail
    refine hEn.mono ?_
    rintro e w6 ⟨rfl, g6⟩
    have HG : Hid (QcGo w w6 B yb rb qb L F) := by
      have e : QcGo w w6 B yb rb qb L F := by rw [HF.out]; exact HXN.out.below_go HB3.out g6
      exact e
    clear hEn g6 c5
    go_wp2
    go_ret
    exact ⟨rfl, HG.out⟩
theorem qstep_any (x : QcN w B yb rb qb L s) (q : RQ w qb rb base sv mv kv' vv p Lp) (z : RX w rb ra rc rt lv h M) (hq : ∀ k, qBl qb sv mv kv' vv k → ¬ L k < 9) (hz : ∀ k ∈ rBl rb ra rc rt lv M, ¬ L k < 9) (nm : ∀ e ∈ p.me, namesB e.1 = true) (hR : ∀ a, ∀ x ∈ refsC h.cs a, rightI x = true) (hb : QB s n0) (hn : n0 ≤ 90000) (he : s.ended.length ≤ 100000) :
    Calls Tryz.prog 12 #[.pointer (some ⟨yb, 0, none⟩)] w fun e w' => e = .returned (.bool (s.step h p).1) ∧ QcGo w w' B yb rb qb L (s.step h p).2 := by
  unfold QSt.step
  cases hg : s.waits.getLast? with
  | some a =>
    obtain ⟨l, hl⟩ := List.getLast?_eq_some_iff.1 hg
    have hd : s.waits.dropLast = l := by rw [hl]; simp
    simp only [hd]
    exact qstep_wait x q z hq hz nm hR hb hn hl
  | none =>
    have hw : s.waits = [] := List.getLast?_eq_none_iff.1 hg
    simp only
    cases ho : aboveC h.cs s.place with
    | some o => exact qstep_move x q z hq hz hb hn he hw ho
    | none => exact qstep_end x z hz hb hn he hw ho
/-- Begun anew. -/
theorem QcN.newly {yb : Nat} (hB : B ≤ yb) (r : Row w yb 50 (rqV rb qb s (.slice none 0 0) (.slice none 0 0) (.slice none 0 0) (.slice none 0 0) (.slice none 0 0))) (h1 : s.row = []) (h2 : s.waits = []) (h3 : s.outs = []) (h4 : s.ended = []) : QcN w B yb rb qb (fun k => if k = yb then 0 else 9) s := by
  refine ⟨_, _, _, _, _, [], r, ⟨⟨rfl, Or.inl ⟨rfl, rfl⟩⟩, (fun _ he => by cases he), (fun _ he => by cases he)⟩, by rw [h4]; rfl, by rw [h1]; exact ⟨rfl, Or.inl ⟨rfl, rfl⟩⟩, by rw [h2]; exact ⟨rfl, Or.inl ⟨rfl, rfl⟩⟩, by rw [h3]; exact ⟨rfl, Or.inl ⟨rfl, rfl⟩⟩, by rw [h3]; exact OwI.nil _ _, if_pos rfl, (fun k e => by cases e), (fun k e => by cases e), (fun k e => by cases e), (fun k e => by cases e), (fun k e => by cases e), (fun e he => by cases he), fun k e => ?_⟩
  by_cases hk : k = yb
  · subst hk
    exact ⟨hB, r.lt⟩
  · have e2 : (if k = yb then 0 else 9) < 9 := e
    rw [if_neg hk] at e2
    omega
def begQ (w : World) (yb rb qb : Nat) (t : Int) : World := (((((((((((((w.setCell ⟨yb, 0, none⟩ (.pointer (some ⟨rb, 0, none⟩))).setCell ⟨yb, 1, none⟩ (.pointer (some ⟨qb, 0, none⟩))).setCell ⟨yb, 2, none⟩ (.slice none 0 0)).setCell ⟨yb, 3, none⟩ (.int .u64 0)).setCell ⟨yb, 4, none⟩ (.int .i64 t)).setCell ⟨yb, 5, none⟩ (.bool false)).setCell ⟨yb, 6, none⟩ (.int .u64 0)).setCell ⟨yb, 7, none⟩ (.slice none 0 0)).setCell ⟨yb, 8, none⟩ (.slice none 0 0)).setCell ⟨yb, 9, none⟩ (.int .i64 0)).setCell ⟨yb, 10, none⟩ (.slice none 0 0)).setCell ⟨yb, 11, none⟩ (.slice none 0 0)).setCell ⟨yb, 9, none⟩ (.int .i64 1048576)).drew
theorem begQ_new {yb : Nat} {v2 v3 v4 v5 v6 v7 v8 v9 v10 v11 : Value} (hB : B ≤ yb) (r : Row w yb 50 [.pointer (some ⟨rb, 0, none⟩), .pointer (some ⟨qb, 0, none⟩), v2, v3, v4, v5, v6, v7, v8, v9, v10, v11]) (t : Int) : QcN (begQ w yb rb qb t) B yb rb qb (fun k => if k = yb then 0 else 9) (QSt.new t) ∧ Kept w (begQ w yb rb qb t) (fun k => k = yb) := by
  have r1 := ((((((((((((r.set 0 (.pointer (some ⟨rb, 0, none⟩))).set 1 (.pointer (some ⟨qb, 0, none⟩))).set 2 (.slice none 0 0)).set 3 (.int .u64 0)).set 4 (.int .i64 t)).set 5 (.bool false)).set 6 (.int .u64 0)).set 7 (.slice none 0 0)).set 8 (.slice none 0 0)).set 9 (.int .i64 0)).set 10 (.slice none 0 0)).set 11 (.slice none 0 0)).set 9 (.int .i64 1048576)
  have k1 := ((((((((((((((Kept.refl w (fun k => k = yb)).put ⟨yb, 0, none⟩ (.pointer (some ⟨rb, 0, none⟩)) rfl).put ⟨yb, 1, none⟩ (.pointer (some ⟨qb, 0, none⟩)) rfl).put ⟨yb, 2, none⟩ (.slice none 0 0) rfl).put ⟨yb, 3, none⟩ (.int .u64 0) rfl).put ⟨yb, 4, none⟩ (.int .i64 t) rfl).put ⟨yb, 5, none⟩ (.bool false) rfl).put ⟨yb, 6, none⟩ (.int .u64 0) rfl).put ⟨yb, 7, none⟩ (.slice none 0 0) rfl).put ⟨yb, 8, none⟩ (.slice none 0 0) rfl).put ⟨yb, 9, none⟩ (.int .i64 0) rfl).put ⟨yb, 10, none⟩ (.slice none 0 0) rfl).put ⟨yb, 11, none⟩ (.slice none 0 0) rfl).put ⟨yb, 9, none⟩ (.int .i64 1048576) rfl)
  refine ⟨QcN.newly hB ?_ rfl rfl rfl rfl, k1.trans (kept_of_below (Below.refl _ _).drew _) (fun _ _ e => e)⟩
  exact Row.below r1 (Below.refl _ _).drew
set_option maxRecDepth 20000 in
set_option maxHeartbeats 4000000 in
theorem qbegin_any {yb : Nat} {v2 v3 v4 v5 v6 v7 v8 v9 v10 v11 : Value} (r : Row w yb 50 [.pointer (some ⟨rb, 0, none⟩), .pointer (some ⟨qb, 0, none⟩), v2, v3, v4, v5, v6, v7, v8, v9, v10, v11]) (hB : B ≤ yb) (t : Int) :
    Calls Tryz.prog 10 #[.pointer (some ⟨yb, 0, none⟩), .int .i64 t] w fun e w' => e = .returned (.tuple #[]) ∧ QcN w' B yb rb qb (fun k => if k = yb then 0 else 9) (QSt.new t) ∧ Kept w w' (fun k => k = yb) := by
  have c0 := r.cell 0 (by simp)
  have c1 := r.cell 1 (by simp)
  have c2 := r.cell 2 (by simp)
  have c3 := r.cell 3 (by simp)
  have c4 := r.cell 4 (by simp)
  have c5 := r.cell 5 (by simp)
  have c6 := r.cell 6 (by simp)
  have c7 := r.cell 7 (by simp)
  have c8 := r.cell 8 (by simp)
  have c9 := r.cell 9 (by simp)
  have c10 := r.cell 10 (by simp)
  have c11 := r.cell 11 (by simp)
  simp only [List.getElem_cons_succ, List.getElem_cons_zero] at c0 c1 c2 c3 c4 c5 c6 c7 c8 c9 c10 c11
  have hf := r.frozen
  have f0 := hf 0
  have f1 := hf 1
  have f2 := hf 2
  have f3 := hf 3
  have f4 := hf 4
  have f5 := hf 5
  have f6 := hf 6
  have f7 := hf 7
  have f8 := hf 8
  have f9 := hf 9
  have f10 := hf 10
  have f11 := hf 11
  have hl := r.lt
  have HR : Hid _ := hidden r
  clear r hf
  go_enter Tryz.func10, Tryz.ntmps10
  go_wp2
  go_region
  all_goals
    go_wp2
    go_end0
    exact ⟨rfl, begQ_new hB HR.out t⟩
end
end Go.Proofs.YtlabdbfmfejkaaaGreatDoor
