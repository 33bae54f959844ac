import Derived.Test.YtebcigjnjapcgaaGreatDoorMkDP
import Derived.Test.YtebcigjnjapcgaaGreatDoorPbY0P
import Derived.Deep.CutRange
import Derived.Deep.CutBlock
import Derived.Deep.RegionHeld
import Derived.Test.YtebcigjnjapcgaaGreatDoorPick
/- The plain marker, beside both heaps and both paints. -/
/- The plain marker's step, walked. -/
/- MarkPlays' steps; each call of its round, over both heaps, both paints and both markers. -/
/- The last test of MarkPlays, row by row (made by tools/mkmp.py). -/
/- The law's own example; MarkKnown. -/
namespace Go.Proofs.YtebcigjnjapcgaaGreatDoor
open Go.RowKit

/-- The cells of the plain marker. -/
def nkV (rb qb : Nat) (m : MSt) : List Value := [.pointer (some ⟨rb, 0, none⟩), .pointer (some ⟨qb, 0, none⟩), .int .u64 (m.place : Int), .int .u64 (m.pass : Int), .bool m.on]
abbrev NRow (w : World) (yb rb qb : Nat) (m : MSt) : Prop := Row w yb 46 (nkV rb qb m)
section
variable {w0 w w' : World} {B hb rb pb qb xb yb : Nat} {h1 h2 h' : HSt} {p1 p2 p' : PSt} {m m' : MSt} {X : Nat → Prop} {k : Nat}
theorem nrow_c (r : NRow w yb rb qb m) : w.cell? ⟨yb, 0, none⟩ = some (.pointer (some ⟨rb, 0, none⟩)) ∧ w.cell? ⟨yb, 1, none⟩ = some (.pointer (some ⟨qb, 0, none⟩)) ∧ w.cell? ⟨yb, 2, none⟩ = some (.int .u64 (m.place : Int)) ∧ w.cell? ⟨yb, 3, none⟩ = some (.int .u64 (m.pass : Int)) ∧ w.cell? ⟨yb, 4, none⟩ = some (.bool m.on) :=
  ⟨r.cell 0 (by simp [nkV]), r.cell 1 (by simp [nkV]), r.cell 2 (by simp [nkV]), r.cell 3 (by simp [nkV]), r.cell 4 (by simp [nkV])⟩
theorem nrow_pl (r : NRow w yb rb qb m) (q : Nat) : NRow (w.setCell ⟨yb, 2, none⟩ (.int .u64 (q : Int))) yb rb qb ⟨q, m.pass, m.on⟩ := r.set 2 (.int .u64 (q : Int))
theorem nrow_ps (r : NRow w yb rb qb m) (q : Nat) : NRow (w.setCell ⟨yb, 3, none⟩ (.int .u64 (q : Int))) yb rb qb ⟨m.place, q, m.on⟩ := r.set 3 (.int .u64 (q : Int))
theorem nrow_on (r : NRow w yb rb qb m) (q : Bool) : NRow (w.setCell ⟨yb, 4, none⟩ (.bool q)) yb rb qb ⟨m.place, m.pass, q⟩ := r.set 4 (.bool q)
theorem kept_yb (w : World) (yb i : Nat) (v : Value) : Kept w (w.setCell ⟨yb, i, none⟩ v) (fun k => k = yb) := (Kept.refl w (fun k => k = yb)).put ⟨yb, i, none⟩ v rfl
/-- The marker's own cells are written. -/
theorem P4.own (x : P4 w0 B w hb rb pb qb h1 h2 p1 p2 X) (hk : Kept w w' (fun k => k = yb)) (hX : X yb) (hge : B ≤ yb) : P4 w0 B w' hb rb pb qb h1 h2 p1 p2 X :=
  x.other hk (fun k e => by have e' : k = yb := e; subst e'; exact ⟨hX, hge⟩)
theorem P4.rnx (x : P4 w0 B w hb rb pb qb h1 h2 p1 p2 X) (s : Nat) :
    Calls Tryz.prog 59 #[.pointer (some ⟨rb, 0, none⟩), .int .u64 (s : Int)] w fun e w' => e = .returned (.tuple #[.int .u64 ((nextR h2.cs s).1 : Int), .bool (nextR h2.cs s).2]) ∧ w = w' := by
  obtain ⟨F, G, P, Q, hp, ⟨ra, rc, rt, lv, M, hr, hGi⟩, pn, qn, ap⟩ := x.ex
  exact rnext_any hr s
theorem P4.over (x : P4 w0 B w hb rb pb qb h1 h2 p1 p2 X) : w.cell? ⟨qb, 3, none⟩ = some (.bool p2.ov) ∧ qb < w.heap.size := ⟨x.rrest.2.2.1, x.rrest.2.2.2.2⟩
/-- An object of the plain heap, and a shading beside it. -/
theorem P4.rplace (x : P4 w0 B w hb rb pb qb h1 h2 p1 p2 X) (H : PI p2 k) (hk : k < 1000000) (s : Nat) (o : Oc) (hg : getC h2.cs s = some o) :
    ∃ ob, ob < w.heap.size ∧ rb < w.heap.size ∧ w.cell? ⟨ob, 4, none⟩ = some (.int .i64 (o.d : Int)) ∧ w.cell? ⟨rb, 0, none⟩ = some (.int .i64 (h2.node : Int)) ∧
      (Calls Tryz.prog 44 #[.pointer (some ⟨rb, 0, none⟩), .int .u64 (s : Int)] w fun e w' => e = .returned (.pointer (some ⟨ob, 0, none⟩)) ∧ w = w') ∧
      ∀ (W : World) (a : Int) (n : Nat) (r : Int), Below w.heap.size w W → Calls Tryz.prog 11 #[.pointer (some ⟨qb, 0, none⟩), .agg #[.int .i64 a, .int .u64 (n : Int)], .int .i64 r] W fun e w' => e = .returned (.tuple #[]) ∧ P4 w0 B w' hb rb pb qb h1 h2 p1 (p2.shade h2 (a, n) r) X ∧ Kept W w' (Its B X) ∧ w'.cell? ⟨ob, 4, none⟩ = some (.int .i64 (o.d : Int)) ∧ w'.cell? ⟨rb, 0, none⟩ = some (.int .i64 (h2.node : Int)) := by
  obtain ⟨F, G, P, Q, hp, ⟨ra, rc, rt, lv, M, hr, hGi⟩, pn, ⟨sv, mv, kv, vv, L, hq, hQi⟩, ap⟩ := x.ex
  rw [hr.get, Option.map_eq_some_iff] at hg
  obtain ⟨pl, hpl, ho⟩ := hg
  have hm := (getP_mem hpl).1
  have c4 : w.cell? ⟨pl.pb, 4, none⟩ = some (.int .i64 (o.d : Int)) := by
    rw [← ho]
    exact (hr.rows pl hm).1.cell 4 (by simp [Pl.cells])
  have c0 : w.cell? ⟨rb, 0, none⟩ = some (.int .i64 (h2.node : Int)) := hr.box.cell 0 (by simp)
  have hob : pl.pb ∈ rBl rb ra rc rt lv M := memR hm (by simp [Pl.bl3])
  have hrb : rb ∈ rBl rb ra rc rt lv M := by simp [rBl]
  refine ⟨pl.pb, cell_lt c4, cell_lt c0, c4, c0, ?_, fun W a n r hB => ?_⟩
  · refine (rget_any hr s).mono ?_
    rintro e w' ⟨he, hw⟩
    rw [hpl] at he
    exact ⟨he, hw⟩
  · have x' := x.read hB
    have hpos := x.pos
    refine (rshade_any (hq.below hB) (hr.below hB) H hk a n r).mono ?_
    rintro e w' ⟨he, hgo⟩
    have ap' : Ap B W.heap.size F G P Q X := ap.grow hB.size
    have eQ : Q = qBl qb sv mv kv vv := funext fun k => propext (hQi k)
    rw [← eQ] at hgo
    obtain ⟨Q', qn', hQ'⟩ := hgo.ex
    have rp : RP W rb G h2 := ⟨ra, rc, rt, lv, M, hr.below hB, hGi⟩
    refine ⟨he, ⟨⟨F, G, P, Q', (hp.below hB).kept hgo.kept (fun e => by have := (ap.aQ 0 e).1; omega) (fun k a b => ap.fq k a b), rp.kept hgo.kept (fun k a b => ap.gq k a b), (pn.below hB).kept hgo.kept (fun k a b => ap.pq k a b), qn', ap'.goQ hgo.kept.size x'.le x'.xs hQ' qn'.lt⟩, x'.bel.trans (hgo.kept.below x'.le (fun i hi e => by have := (ap.aQ i e).1; omega)), Nat.le_trans x'.le hgo.kept.size, fun k e => Nat.lt_of_lt_of_le (x'.xs k e) hgo.kept.size, x.pos⟩, hgo.kept.mono (fun k _ e => ⟨(ap.aQ k e).1, (ap.aQ k e).2.2⟩), ?_, ?_⟩
    · exact cell_kept ((hB.cell (p := ⟨pl.pb, 4, none⟩) (cell_lt c4)).trans c4) hgo.kept (fun e => ap.gq _ ((hGi _).2 hob) e)
    · exact cell_kept ((hB.cell (p := ⟨rb, 0, none⟩) (cell_lt c0)).trans c0) hgo.kept (fun e => ap.gq _ ((hGi _).2 hrb) e)
/-- The program's paint and marker, the plain ones beside them. -/
theorem P4.left (x : P4 w0 B w hb rb pb qb h1 h2 p1 p2 X) (hX : X xb) : ∃ Y, PH w0 B w pb hb h1 p1 Y ∧ (∀ k, X k → Y k) ∧ ∀ w' p', PH w0 B w' pb hb h1 p' Y → Kept w w' (MIts B Y xb) → P4 w0 B w' hb rb pb qb h1 h2 p' p2 X := by
  obtain ⟨F, G, P, Q, hp, rp, pn, qn, ap⟩ := x.ex
  refine ⟨fun k => G k ∨ Q k ∨ X k, ⟨⟨F, P, hp, pn, fun k hk => ⟨(ap.aF k hk).1, fun e => ?_, ap.fp k hk⟩, fun k hk e => ?_⟩, x.bel, x.le, fun k e => ?_, x.pos⟩, fun k e => Or.inr (Or.inr e), fun w' p' y hk => ?_⟩
  · rcases e with e | e | e
    · exact ap.fg k hk e
    · exact ap.fq k hk e
    · exact (ap.aF k hk).2.2 e
  · rcases e with e | e | e
    · exact ap.gp k e hk
    · exact ap.pq k hk e
    · exact (ap.aP k hk).2.2 e
  · rcases e with e | e | e
    · exact (ap.aG k e).2.1
    · exact (ap.aQ k e).2.1
    · exact x.xs k e
  · obtain ⟨F', P', g1, g2, g3, g4⟩ := y.ex
    have l1 := g1.lt
    have l2 := g2.lt
    have l3 := g2.ge
    have hsz := hk.size
    refine ⟨⟨F', G, P', Q, g1, rp.kept hk (fun k a b => ?_), g2, qn.kept hk (fun k a b => ?_), ⟨fun k a => ⟨(g3 k a).1, l1 k a, fun e => (g3 k a).2.1 (Or.inr (Or.inr e))⟩, fun k a => ⟨(ap.aG k a).1, by have := (ap.aG k a).2.1; omega, (ap.aG k a).2.2⟩, fun k a => ⟨l3 k a, l2 k a, fun e => g4 k a (Or.inr (Or.inr e))⟩, fun k a => ⟨(ap.aQ k a).1, by have := (ap.aQ k a).2.1; omega, (ap.aQ k a).2.2⟩, fun k a e => (g3 k a).2.1 (Or.inl e), fun k a => (g3 k a).2.2, fun k a e => (g3 k a).2.1 (Or.inr (Or.inl e)), fun k a e => g4 k e (Or.inl a), ap.gq, fun k a e => g4 k a (Or.inr (Or.inl e))⟩⟩, y.bel, y.le, fun k e => y.xs k (Or.inr (Or.inr e)), y.pos⟩
    · rcases b with b | b
      · rw [b] at a
        exact (ap.aG xb a).2.2 hX
      · exact b.2 (Or.inl a)
    · rcases b with b | b
      · rw [b] at a
        exact (ap.aQ xb a).2.2 hX
      · exact b.2 (Or.inr (Or.inl a))
theorem P4.mstep (x : P4 w0 B w hb rb pb qb h1 h2 p1 p2 X) (r : MRow w xb hb pb m) (hX : X xb) (hge : B ≤ xb) (hs : SB p1) :
    Calls Tryz.prog 20 #[.pointer (some ⟨xb, 0, none⟩)] w fun e w' => e = .returned (.bool (stepR h1 p1 m).1) ∧ P4 w0 B w' hb rb pb qb h1 h2 (stepR h1 p1 m).2.1 p2 X ∧ MRow w' xb hb pb (stepR h1 p1 m).2.2 ∧ Kept w w' (MIts B X xb) := by
  obtain ⟨Y, y, hY, hgo⟩ := x.left hX
  refine (mstep_any ⟨y, r, hY xb hX, hge⟩ hs).mono ?_
  rintro e w' ⟨he, z, hk⟩
  exact ⟨he, hgo _ _ z.ph hk, z.row, hk.mono (fun k _ e => by
    rcases e with e | e
    · exact Or.inl e
    · exact Or.inr ⟨e.1, fun f => e.2 (hY k f)⟩)⟩
end
end Go.Proofs.YtebcigjnjapcgaaGreatDoor

namespace Go.Proofs.YtebcigjnjapcgaaGreatDoor
open Go.RowKit

theorem step_top {h : HSt} {p : PSt} {m : MSt} {a : Nat} (hg : p.stk.getLast? = some a) : stepR h p m = (true, p.pop.scan h a, m) := by
  unfold stepR
  rw [hg]
theorem step_on {h : HSt} {p : PSt} {m : MSt} {o : Oc} (hg : p.stk.getLast? = none) (hon : m.on = true) (ha : aboveC h.cs m.pass = some o) : stepR h p m = (true, p.scan h o.s, ⟨m.place, o.s, true⟩) := by
  unfold stepR
  rw [hg, hon, ha]
  rfl
theorem step_end {h : HSt} {p : PSt} {m : MSt} (hg : p.stk.getLast? = none) (hon : m.on = true) (ha : aboveC h.cs m.pass = none) : stepR h p m = tailR h p ⟨m.place, m.pass, false⟩ := by
  unfold stepR
  rw [hg, hon, ha]
  rfl
theorem step_off {h : HSt} {p : PSt} {m : MSt} (hg : p.stk.getLast? = none) (hon : m.on = false) : stepR h p m = tailR h p m := by
  unfold stepR
  rw [hg, hon]
  rfl
section
variable {w0 w w' : World} {B hb rb pb qb xb yb : Nat} {h1 h2 h' : HSt} {p1 p2 p' : PSt} {m m' : MSt} {X : Nat → Prop} {k : Nat}
theorem yb_of (hk : Kept w w' (Its B X)) : Kept w w' (MIts B X yb) := mits_of hk
theorem P4.okr (x : P4 w0 B w hb rb pb qb h1 h2 p1 p2 X) : h2.Ok := by
  obtain ⟨F, G, P, Q, hp, ⟨ra, rc, rt, lv, M, hr, hGi⟩, _⟩ := x.ex
  exact hr.ok
set_option maxRecDepth 20000 in
set_option maxHeartbeats 4000000 in
theorem rmstep_any (x : P4 w0 B w hb rb pb qb h1 h2 p1 p2 X) (r : NRow w yb rb qb m) (hX : X yb) (hge : B ≤ yb) (H : PI p2 k) (hk : k + 8 < 1000000) :
    Calls Tryz.prog 21 #[.pointer (some ⟨yb, 0, none⟩)] w fun e w' => e = .returned (.bool (stepR h2 p2 m).1) ∧ P4 w0 B w' hb rb pb qb h1 h2 p1 (stepR h2 p2 m).2.1 X ∧ NRow w' yb rb qb (stepR h2 p2 m).2.2 ∧ Kept w w' (MIts B X yb) := by
  obtain ⟨d0, d1, d2, d3, d4⟩ := nrow_c r
  have hl := r.lt
  have hql := x.over.2
  have hP := x.rpop
  have HX : Hid (X yb) := hX
  have HGE : Hid (B ≤ yb) := hge
  have HR : Hid _ := hidden r
  cases hg : p2.stk.getLast? with
  | some a =>
    have e1 : popR p2 = (a, true) := by unfold popR; rw [hg]
    rw [e1] at hP
    rw [step_top hg]
    have H' : PI p2.pop k := ⟨H.nd, H.nm, H.ml, H.el⟩
    have hS := fun W (y : P4 w0 B W hb rb pb qb h1 h2 p1 p2.pop X) => y.rscan H' hk a
    generalize scanR h2 p2.pop a = sr at *
    generalize p2.pop.scan h2 a = q2 at *
    generalize p2.pop = q1 at *
    clear x r e1 hg H H' d0 d2 d3 d4 hX hge
    go_enter Tryz.func21, Tryz.ntmps21
    go_wp2_with fail
    refine hP.mono ?_
    rintro e w1 ⟨rfl, y1, k1⟩
    have r1 := its_row k1 HX.out HR.out
    obtain ⟨_, c1, _, _, _⟩ := nrow_c r1
    have hl1 := r1.lt
    have HR1 : Hid _ := hidden r1
    have HK1 : Hid _ := hidden k1
    clear hP d1 hl r1 k1 hql
    go_wp2_with fail
    refine (hS _ y1).mono ?_
    rintro e w2 ⟨rfl, y2, k2⟩
    have HY : Hid _ := hidden y2
    have HR2 : Hid _ := hidden (its_row k2 HX.out HR1.out)
    have HK : Hid _ := hidden (HK1.out.trans k2 (fun _ _ e => e))
    clear hS y1 y2 k2 HK1
    go_wp2
    go_ret
    exact ⟨rfl, HY.out, HR2.out, mits_of HK.out⟩
  | none =>
    have e1 : popR p2 = (0, false) := by unfold popR; rw [hg]
    have e3 : p2.pop = p2 := by
      have hn : p2.stk = [] := by simpa using hg
      unfold PSt.pop
      rw [hn]
      cases p2
      cases hn
      rfl
    rw [e1, e3] at hP
    have hok := x.okr
    have HOK : Hid _ := hidden hok
    have hNx := fun W s (y : P4 w0 B W hb rb pb qb h1 h2 p1 p2 X) => y.rnx s
    have hSc := fun W s (y : P4 w0 B W hb rb pb qb h1 h2 p1 p2 X) => y.rscan H hk s
    have hPl := fun W s o (hg : getC h2.cs s = some o) (y : P4 w0 B W hb rb pb qb h1 h2 p1 p2 X) => y.rplace H (by omega) s o hg
    have HG : Hid _ := hidden hg
    have HNx : Hid _ := hidden hNx
    have HSc : Hid _ := hidden hSc
    have HPl : Hid _ := hidden hPl
    clear x r e1 e3 hX hge hok hNx hSc hPl H hk hg d0 d2 d3 d4
    generalize hE : stepR h2 p2 m = E at *
    have HE : Hid _ := hidden hE
    clear hE
    go_enter Tryz.func21, Tryz.ntmps21
    go_wp2_with fail
    refine hP.mono ?_
    rintro e w1 ⟨rfl, y1, k1⟩
    have r1 := its_row k1 HX.out HR.out
    obtain ⟨c0, c1, c2, c3, c4⟩ := nrow_c r1
    have hl1 := r1.lt
    have HR1 : Hid _ := hidden r1
    have HK1 : Hid _ := hidden k1
    have HY1 : Hid _ := hidden y1
    clear hP d1 hl r1 k1 y1 HR hql
    go_upto_if 29 with fail
    go_cut [0, 5, 6] from 29 to 55 (fun a _ _ wc => a = .pointer (some ⟨yb, 0, none⟩) ∧ ∃ m' : MSt, E = tailR h2 p2 m' ∧ P4 w0 B wc hb rb pb qb h1 h2 p1 p2 X ∧ NRow wc yb rb qb m' ∧ Kept w wc (MIts B X yb))
    case first =>
      cases hon : m.on with
      | false =>
        rw [hon] at c4
        have HF : Hid _ := hidden (HE.out.symm.trans (step_off HG.out hon))
        go_wp2
        go_meet
        exact ⟨rfl, m, HF.out, HY1.out, HR1.out, mits_of HK1.out⟩
      | true =>
        rw [hon] at c4
        have hdr : Below w1.heap.size w1 w1.drew := ⟨rfl, rfl, rfl, Nat.le_refl _, fun _ _ => rfl⟩
        have hN := HNx.out _ m.pass (HY1.out.read hdr)
        rw [next_above] at hN
        cases ha : aboveC h2.cs m.pass with
        | none =>
          rw [ha] at hN
          have HF : Hid _ := hidden (HE.out.symm.trans (step_end HG.out hon ha))
          simp only at hN
          clear ha hon
          go_upto_region 6 with fail
          go_cut [0, 5, 6] from 30 to 41 (fun a b c wc => a = .pointer (some ⟨yb, 0, none⟩) ∧ c = .bool false ∧ Below w1.heap.size w1 wc)
          case first =>
            go_region_with (go_at_call 59; refine hN.mono ?_; rintro e _ ⟨rfl, rfl⟩)
            all_goals
              go_wp2
              go_meet
              exact ⟨rfl, rfl, hdr⟩
          case rest =>
            obtain ⟨rfl, rfl, b1⟩ := hcut
            obtain ⟨w2, hw2⟩ : ∃ x, x = wc := ⟨_, rfl⟩
            subst hw2
            have r2 := HR1.out.below b1
            obtain ⟨z0, z1, z2, z3, z4⟩ := nrow_c r2
            have f4 := r2.frozen 4
            have hl2 := r2.lt
            have HR3 : Hid _ := hidden (nrow_on r2 false)
            have HK3 : Hid _ := hidden (kept_yb w2 yb 4 (.bool false))
            have HY3 : Hid _ := hidden ((HY1.out.read b1).own HK3.out HX.out HGE.out)
            have HKK : Hid _ := hidden (mits_t (mits_of HK1.out) (mits_t (mits_b (B := B) (X := X) (xb := yb) b1) (mits_x HK3.out)))
            clear b1 r2 hN hdr c0 c1 c2 c3 c4 hl1
            go_wp2
            go_meet
            exact ⟨rfl, _, HF.out, HY3.out, HR3.out, HKK.out⟩
        | some o =>
          rw [ha] at hN
          have HF : Hid _ := hidden (HE.out.symm.trans (step_on HG.out hon ha))
          have hSo := fun W y => HSc.out W o.s y
          have HON : Hid (m.on = true) := hidden hon
          simp only at hN
          clear ha hon
          generalize scanR h2 p2 o.s = sr at *
          generalize p2.scan h2 o.s = q2 at *
          generalize o.s = os at *
          go_upto_region 6 with fail
          go_cut [0, 5, 6] from 30 to 41 (fun a b c wc => a = .pointer (some ⟨yb, 0, none⟩) ∧ b = .int .u64 (os : Int) ∧ c = .bool true ∧ Below w1.heap.size w1 wc)
          case first =>
            go_region_with (go_at_call 59; refine hN.mono ?_; rintro e _ ⟨rfl, rfl⟩)
            all_goals
              go_wp2
              go_meet
              exact ⟨rfl, rfl, rfl, hdr⟩
          case rest =>
            obtain ⟨rfl, rfl, rfl, b1⟩ := hcut
            obtain ⟨w2, hw2⟩ : ∃ x, x = wc := ⟨_, rfl⟩
            subst hw2
            have r2 := HR1.out.below b1
            obtain ⟨z0, z1, z2, z3, z4⟩ := nrow_c r2
            have f3 := r2.frozen 3
            have hl2 := r2.lt
            have HR3 : Hid _ := hidden (nrow_ps r2 os)
            have HK3 : Hid _ := hidden (kept_yb w2 yb 3 (.int .u64 (os : Int)))
            have y3 := (HY1.out.read b1).own HK3.out HX.out HGE.out
            have HKK : Hid _ := hidden (mits_t (mits_of HK1.out) (mits_t (mits_b (B := B) (X := X) (xb := yb) b1) (mits_x HK3.out)))
            have hS3 := hSo _ y3
            clear b1 r2 hN hdr c0 c1 c2 c3 c4 hl1 hSo y3
            go_wp2_with fail
            refine hS3.mono ?_
            rintro e w4 ⟨rfl, y4, k4⟩
            have HY4 : Hid _ := hidden y4
            have r4 := its_row k4 HX.out HR3.out
            rw [HON.out] at r4
            have HR4 : Hid _ := hidden r4
            clear r4
            have HK4 : Hid _ := hidden (mits_t HKK.out (mits_of k4))
            clear hS3 y4 k4
            go_wp2
            go_ret
            have hF := HF.out
            rw [hF]
            exact ⟨rfl, HY4.out, HR4.out, HK4.out⟩
    case rest =>
      obtain ⟨rfl, m', hE', y2, r2, k2⟩ := hcut
      obtain ⟨w2, hw2⟩ : ∃ x, x = wc := ⟨_, rfl⟩
      subst hw2
      clear c0 c1 c2 c3 c4 hl1 HR1 HK1 HY1 HE HG HSc
      obtain ⟨z0, z1, z2, z3, z4⟩ := nrow_c r2
      have hl2 := r2.lt
      obtain ⟨hov, hql⟩ := y2.over
      have HK2 : Hid _ := hidden k2
      have HY2 : Hid _ := hidden y2
      have HR2 : Hid _ := hidden r2
      unfold tailR at hE'
      cases ho : p2.ov with
      | true =>
        rw [ho] at hov hE'
        simp only [if_true] at hE'
        obtain ⟨y3, k3, _, f3, _⟩ := y2.rrest
        have r3 := its_row k3 HX.out r2
        have hl3 := r3.lt
        have g3 := r3.frozen 3
        have g4 := r3.frozen 4
        obtain ⟨t0, t1, t2, t3, t4⟩ := nrow_c r3
        have r5 := nrow_ps (nrow_on r3 true) 0
        have hk5 := ((kept_yb (w2.setCell ⟨qb, 3, none⟩ (.bool false)) yb 4 (.bool true)).put ⟨yb, 3, none⟩ (.int .u64 0) rfl)
        have HY5 : Hid _ := hidden (y3.own hk5 HX.out HGE.out)
        have HR5 : Hid _ := hidden r5
        have HK5 : Hid _ := hidden (mits_t HK2.out (mits_t (mits_of (xb := yb) k3) (mits_x hk5)))
        have HF : Hid _ := hidden hE'
        clear y3 k3 r3 r5 hk5 y2 r2 k2 hE' HY2 HR2 HNx HPl
        go_wp2
        go_ret
        rw [HF.out]
        exact ⟨rfl, HY5.out, HR5.out, HK5.out⟩
      | false =>
        rw [ho] at hov hE'
        simp only [Bool.false_eq_true, if_false] at hE'
        have hdr : Below w2.heap.size w2 w2.drew := ⟨rfl, rfl, rfl, Nat.le_refl _, fun _ _ => rfl⟩
        have hN := HNx.out _ m'.place (HY2.out.read hdr)
        rw [next_above] at hN
        cases ha : aboveC h2.cs m'.place with
        | none =>
          rw [ha] at hN hE'
          have HF : Hid _ := hidden hE'
          simp only at hN
          clear ha y2 r2 k2 hE' HPl HNx
          generalize m'.place = pl at *
          go_upto_region 17 with fail
          go_cut [0, 4, 7] from 77 to 88 (fun a b c wc => a = .pointer (some ⟨yb, 0, none⟩) ∧ b = .bool false ∧ Below w2.heap.size w2 wc)
          case first =>
            go_region_with (go_at_call 59; refine hN.mono ?_; rintro e _ ⟨rfl, rfl⟩)
            all_goals
              go_wp2
              go_meet
              exact ⟨rfl, rfl, hdr⟩
          case rest =>
            obtain ⟨rfl, rfl, b1⟩ := hcut
            have HB : Hid _ := hidden b1
            clear b1 hN hdr z0 z1 z2 z3 z4 hl2 hov hql
            go_wp2
            go_ret
            rw [HF.out]
            exact ⟨rfl, HY2.out.read HB.out, HR2.out.below HB.out, mits_t HK2.out (mits_b HB.out)⟩
        | some o =>
          rw [ha] at hN hE'
          obtain ⟨hm, hlt⟩ := above_mem ha
          have hgc : getC h2.cs o.s = some o := getC_of_mem HOK.out hm
          have hPo := fun W y => HPl.out W o.s o hgc y
          have HF : Hid _ := hidden hE'
          simp only at hN
          clear ha y2 r2 k2 hE' HPl HNx hm hlt hgc
          obtain ⟨pl, mps, mon⟩ := m'
          simp only at hN z2 z3 z4 HR2 HF
          go_upto_region 17 with fail
          go_cut [0, 4, 7] from 77 to 88 (fun a b c wc => a = .pointer (some ⟨yb, 0, none⟩) ∧ b = .bool true ∧ c = .int .u64 (o.s : Int) ∧ Below w2.heap.size w2 wc)
          case first =>
            go_region_with (go_at_call 59; refine hN.mono ?_; rintro e _ ⟨rfl, rfl⟩)
            all_goals
              go_wp2
              go_meet
              exact ⟨rfl, rfl, rfl, hdr⟩
          case rest =>
            obtain ⟨rfl, rfl, rfl, b1⟩ := hcut
            obtain ⟨w3, hw3⟩ : ∃ x, x = wc := ⟨_, rfl⟩
            subst hw3
            have r3 := HR2.out.below b1
            obtain ⟨t0, t1, t2, t3, t4⟩ := nrow_c r3
            simp only at t2 t3 t4
            have f2 := r3.frozen 2
            have hl3 := r3.lt
            have HK3 : Hid _ := hidden (kept_yb w3 yb 2 (.int .u64 (o.s : Int)))
            have r4 := nrow_pl r3 o.s
            have y4 := (HY2.out.read b1).own HK3.out HX.out HGE.out
            have HKK : Hid _ := hidden (mits_t HK2.out (mits_t (mits_b (B := B) (X := X) (xb := yb) b1) (mits_x HK3.out)))
            obtain ⟨ob, hob, hrb, co, cr, hGet, hShd⟩ := hPo _ y4
            have hdr4 : Below (w3.setCell ⟨yb, 2, none⟩ (.int .u64 (o.s : Int))).heap.size (w3.setCell ⟨yb, 2, none⟩ (.int .u64 (o.s : Int))) (w3.setCell ⟨yb, 2, none⟩ (.int .u64 (o.s : Int))).drew := ⟨rfl, rfl, rfl, Nat.le_refl _, fun _ _ => rfl⟩
            have hS4 := hShd _ (h2.node : Int) o.s (o.d : Int) hdr4
            have HR4 : Hid _ := hidden r4
            have HY4 : Hid _ := hidden y4
            have HD4 : Hid _ := hidden hdr4
            obtain ⟨v0, v1, v2, v3, v4⟩ := nrow_c r4
            have hl4 := r4.lt
            clear b1 r3 hN hdr z0 z1 z2 z3 z4 hl2 hov hql r4 y4 hPo hShd HK3 HR2 HY2 HK2
            by_cases hd : 0 < o.d
            · rw [if_pos hd] at HF
              have hgt : (0 : Int) < (o.d : Int) := by omega
              generalize p2.shade h2 ((h2.node : Int), o.s) (o.d : Int) = q2 at *
              generalize o.d = od at *
              generalize o.s = os at *
              generalize h2.node = nd at *
              clear hd
              go_wp2_with fail
              refine hGet.mono ?_
              rintro e _ ⟨rfl, rfl⟩
              generalize (w3.setCell ⟨yb, 2, none⟩ (.int .u64 (os : Int))) = w4 at *
              clear hGet t0 t1 t2 t3 t4 hl3 f2
              go_upto_region 23 with fail
              have r5 := HR4.out.below HD4.out
              have HR5 : Hid _ := hidden r5
              clear r5
              go_region_held (fun W => W.cell? ⟨yb, 0, none⟩ = some (.pointer (some ⟨rb, 0, none⟩)) ∧ W.cell? ⟨yb, 1, none⟩ = some (.pointer (some ⟨qb, 0, none⟩)) ∧ W.cell? ⟨ob, 4, none⟩ = some (.int .i64 (od : Int)) ∧ W.cell? ⟨rb, 0, none⟩ = some (.int .i64 (nd : Int))) (exact ⟨by assumption, by assumption, by assumption, by assumption⟩) (first
                | (go_at_call 11; refine hS4.mono ?_; rintro e w6 ⟨rfl, y6, k6, gc, gd⟩; obtain ⟨ge, gf, _, _, _⟩ := nrow_c (its_row k6 HX.out HR5.out)))
              all_goals
                have HY6 : Hid _ := hidden y6
                have HR6 : Hid _ := hidden (its_row k6 HX.out HR5.out)
                have HK6 : Hid _ := hidden (mits_t HKK.out (mits_t (mits_b HD4.out) (mits_of k6)))
                clear y6 k6
                go_wp2
                go_ret
                rw [HF.out]
                exact ⟨rfl, HY6.out, HR6.out, HK6.out⟩
            · rw [if_neg hd] at HF
              have hgt : ¬ (0 : Int) < (o.d : Int) := by omega
              generalize o.d = od at *
              generalize o.s = os at *
              clear hd hS4
              go_wp2_with fail
              refine hGet.mono ?_
              rintro e _ ⟨rfl, rfl⟩
              generalize (w3.setCell ⟨yb, 2, none⟩ (.int .u64 (os : Int))) = w4 at *
              clear hGet t0 t1 t2 t3 t4 hl3 f2
              go_wp2
              go_ret
              rw [HF.out]
              exact ⟨rfl, HY4.out, HR4.out, HKK.out⟩
end
end Go.Proofs.YtebcigjnjapcgaaGreatDoor

namespace Go.Proofs.YtebcigjnjapcgaaGreatDoor
open Go.ChangeShapes Go.WideShapes Go.ChangeAt Go.RowKit Go.Deep

/-- A step. -/
structure StepM where
  what : Int
  a : Int
  ser : Nat
  xn : Int
  xs : Nat
def cStepM (s : StepM) : List Value := [.int .i64 s.what, .int .i64 s.a, .int .u64 (s.ser : Int), .int .i64 s.xn, .int .u64 (s.xs : Int)]
def StepM.Ok (s : StepM) : Prop := s.ser < 18446744073709551616 ∧ s.xs < 18446744073709551616
theorem list5 {α : Type} {l : List α} (h : l.length = 5) : ∃ a b c d e, l = [a, b, c, d, e] := by
  match l, h with
  | [a, b, c, d, e], _ => exact ⟨a, b, c, d, e, rfl⟩
theorem ews_stepM {H : Type} {enc : TypeId × Value → H} {W : World} : ∀ n cs (y : DataW H × List MemPlace), DataW.trod enc Tryz.prog W 0 (fun _ => true) true n 50 cs = some y → ∃ x : StepM, cs = cStepM x ∧ x.Ok := by
  intro n cs y h
  obtain ⟨hlen, k, hf⟩ := trod_fields 5 Tryz.underlying50 (by kernel_rfl) h
  obtain ⟨v0, v1, v2, v3, v4, rfl⟩ := list5 hlen
  obtain ⟨y0, g0⟩ := hf 0 3 0 1 rfl (by kernel_rfl)
  obtain ⟨y1, g1⟩ := hf 1 3 1 1 rfl (by kernel_rfl)
  obtain ⟨y2, g2⟩ := hf 2 44 2 1 rfl (by kernel_rfl)
  obtain ⟨y3, g3⟩ := hf 3 48 3 2 rfl (by kernel_rfl)
  obtain ⟨_, k3, hf3⟩ := trod_fields 2 Tryz.underlying48 (by kernel_rfl) g3
  obtain ⟨y30, g30⟩ := hf3 0 3 0 1 rfl (by kernel_rfl)
  obtain ⟨y31, g31⟩ := hf3 1 44 1 1 rfl (by kernel_rfl)
  obtain ⟨z0, e0, _, _⟩ := DataW.trod_int Tryz.underlying3 g0
  obtain ⟨z1, e1, _, _⟩ := DataW.trod_int Tryz.underlying3 g1
  obtain ⟨z2, e2, b2⟩ := trod_u64 g2
  obtain ⟨z3, e3, _, _⟩ := DataW.trod_int Tryz.underlying3 g30
  obtain ⟨z4, e4, b4⟩ := trod_u64 g31
  simp only [List.drop_succ_cons, List.drop_zero, List.take_succ_cons, List.take_zero, List.cons.injEq, and_true] at e0 e1 e2 e3 e4
  subst e0 e1 e2 e3 e4
  exact ⟨⟨z0, z1, z2, z3, z4⟩, rfl, b2, b4⟩
theorem WS.stepM {w : World} {ao : Option Addr} {n cap : Nat} {xs : List StepM} (h : WS w (.slice ao n cap) 5 cStepM xs) (i : Nat) (hi : i < xs.length) : ∃ b off, ao = some ⟨b, off, none⟩ ∧ b < w.heap.size ∧
    w.cell? ⟨b, off + i * 5, none⟩ = some (.int .i64 xs[i].what) ∧ w.cell? ⟨b, off + i * 5 + 1, none⟩ = some (.int .i64 xs[i].a) ∧ w.cell? ⟨b, off + i * 5 + 2, none⟩ = some (.int .u64 (xs[i].ser : Int)) ∧ w.cell? ⟨b, off + i * 5 + 3, none⟩ = some (.int .i64 xs[i].xn) ∧
    w.cell? ⟨b, off + i * 5 + 4, none⟩ = some (.int .u64 (xs[i].xs : Int)) := by
  obtain ⟨b, off, h1, h2, h3⟩ := h.at i hi
  exact ⟨b, off, h1, h2, h3 0 _ rfl, h3 1 _ rfl, h3 2 _ rfl, h3 3 _ rfl, h3 4 _ rfl⟩

section
variable {h : HSt} {p : PSt} {i : Nat} {m : MSt}
theorem PI.more {k k' : Nat} (H : PI p k) (hk : k ≤ k') : PI p k' := H.mono hk
theorem PK.next (H : PK h p i) (ok : h.Ok) (m : MSt) : PK h (stepR h p m).2.1 (i + 1) := by
  have hT : ∀ m, PK h (tailR h p m).2.1 (i + 1) := fun m => by
    unfold tailR
    split
    · exact H.rest
    · split
      · exact H.stay
      · show PK h (if _ then _ else _) (i + 1)
        split
        · exact H.shade ok _ _
        · exact H.stay
  unfold stepR
  split
  · exact H.pops ok _
  · split
    · split
      · exact H.scan ok _
      · exact hT _
    · exact hT _
theorem setRef_last (h : HSt) (s : Nat) (f : Int) (x : Int × Nat) : (h.setRefS s f x).last = h.last := by
  unfold HSt.setRefS
  split <;> rfl
theorem setIn_last (h : HSt) (s : Nat) (d : Int) : (h.setInS s d).last = h.last := by
  unfold HSt.setInS
  split <;> rfl
theorem PK.setRef (H : PK h p i) (s : Nat) (f : Int) (x : Int × Nat) : PK (h.setRefS s f x) p (i + 1) := ⟨H.pi.mono (by omega), by have := H.tu; omega, by rw [setRef_last]; have := H.la; omega, H.st⟩
theorem PK.setIn (H : PK h p i) (s : Nat) (d : Int) : PK (h.setInS s d) p (i + 1) := ⟨H.pi.mono (by omega), by have := H.tu; omega, by rw [setIn_last]; have := H.la; omega, H.st⟩
end
section
variable {w0 w w' : World} {B hb rb pb qb xb yb : Nat} {h1 h2 h' : HSt} {p1 p2 p' : PSt} {m m' : MSt} {X : Nat → Prop} {k : Nat}
theorem P4.hsetRef (x : P4 w0 B w hb rb pb qb h1 h2 p1 p2 X) (s : Nat) (hs : s < 18446744073709551616) (f : Int) (a : Int) (n : Nat) :
    Calls Tryz.prog 12 #[.pointer (some ⟨hb, 0, none⟩), .int .u64 (s : Int), .int .i64 f, .agg #[.int .i64 a, .int .u64 (n : Int)]] w fun e w' => e = .returned (.tuple #[.agg #[.int .i64 (h1.setRefR s f (a, n)).1.1, .int .u64 ((h1.setRefR s f (a, n)).1.2 : Int)], .int .i64 ((h1.setRefR s f (a, n)).2 : Int)]) ∧ P4 w0 B w' hb rb pb qb (h1.setRefS s f (a, n)) h2 p1 p2 X ∧ Kept w w' (Its B X) := x.hgo (fun _ hp => hp.setRef s hs f a n)
theorem P4.rsetRef (x : P4 w0 B w hb rb pb qb h1 h2 p1 p2 X) (s : Nat) (f : Int) (a : Int) (n : Nat) :
    Calls Tryz.prog 13 #[.pointer (some ⟨rb, 0, none⟩), .int .u64 (s : Int), .int .i64 f, .agg #[.int .i64 a, .int .u64 (n : Int)]] w fun e w' => e = .returned (.tuple #[.agg #[.int .i64 (h2.setRefR s f (a, n)).1.1, .int .u64 ((h2.setRefR s f (a, n)).1.2 : Int)], .int .i64 ((h2.setRefR s f (a, n)).2 : Int)]) ∧ P4 w0 B w' hb rb pb qb h1 (h2.setRefS s f (a, n)) p1 p2 X ∧ Kept w w' (Its B X) := x.rgo (fun _ rp => rp.setRef s f a n)
theorem P4.hsetIn (x : P4 w0 B w hb rb pb qb h1 h2 p1 p2 X) (s : Nat) (hs : s < 18446744073709551616) (d : Int) :
    Calls Tryz.prog 16 #[.pointer (some ⟨hb, 0, none⟩), .int .u64 (s : Int), .int .i64 d] w fun e w' => e = .returned (.int .i64 (h1.setInR s d : Int)) ∧ P4 w0 B w' hb rb pb qb (h1.setInS s d) h2 p1 p2 X ∧ Kept w w' (Its B X) := x.hgo (fun _ hp => hp.setIn s hs d)
theorem P4.rsetIn (x : P4 w0 B w hb rb pb qb h1 h2 p1 p2 X) (s : Nat) (d : Int) :
    Calls Tryz.prog 17 #[.pointer (some ⟨rb, 0, none⟩), .int .u64 (s : Int), .int .i64 d] w fun e w' => e = .returned (.int .i64 (h2.setInR s d : Int)) ∧ P4 w0 B w' hb rb pb qb h1 (h2.setInS s d) p1 p2 X ∧ Kept w w' (Its B X) := x.rgo (fun _ rp => rp.setIn s d)
theorem P4.mark (x : P4 w0 B w hb rb pb qb h1 h2 p1 p2 X) (s : Nat) (hs : s < 18446744073709551616) :
    Calls Tryz.prog 22 #[.pointer (some ⟨pb, 0, none⟩), .int .u64 (s : Int)] w fun e w' => e = .returned (.tuple #[.int .i64 ((markR h1 p1 s).1 : Int), .bool (markR h1 p1 s).2.1, .bool (markR h1 p1 s).2.2]) ∧ Below w.heap.size w w' := by
  obtain ⟨F, G, P, Q, hp, rp, ⟨sb, mb, tb, v, hx, hPi⟩, qn, ap⟩ := x.ex
  exact mark_any hx hp s hs
theorem P4.rmark (x : P4 w0 B w hb rb pb qb h1 h2 p1 p2 X) (s : Nat) :
    Calls Tryz.prog 23 #[.pointer (some ⟨qb, 0, none⟩), .int .u64 (s : Int)] w fun e w' => e = .returned (.tuple #[.int .i64 ((markR h2 p2 s).1 : Int), .bool (markR h2 p2 s).2.1, .bool (markR h2 p2 s).2.2]) ∧ Below w.heap.size w w' := by
  obtain ⟨F, G, P, Q, hp, ⟨ra, rc, rt, lv, M, hr, hGi⟩, pn, ⟨sv, mv, kv, vv, L, hq, hQi⟩, ap⟩ := x.ex
  exact rmark_any hq hr s
/-- What the last test asks. -/
theorem P4.last4 (x : P4 w0 B w hb rb pb qb h1 h2 p1 p1 X) (H : PI p1 k) (hk : k ≤ 1000000) : ∃ L ao cap, L.length ≤ 1000000 ∧ qb < w.heap.size ∧ w.cell? ⟨qb, 2, none⟩ = some (.slice ao p1.stk.length cap) ∧ w.cell? ⟨qb, 3, none⟩ = some (.bool p1.ov) ∧ p1.stk.length ≤ 64 ∧
    (∀ W, Below w.heap.size w W → Calls Tryz.prog 27 #[.pointer (some ⟨pb, 0, none⟩)] W fun e w' => e = .returned (.int .i64 (p1.stk.length : Int)) ∧ W = w') ∧
    (∀ W, Below w.heap.size w W → Calls Tryz.prog 28 #[.pointer (some ⟨pb, 0, none⟩)] W fun e w' => e = .returned (.bool p1.ov) ∧ W = w') ∧
    (∀ W, Below w.heap.size w W → Calls Tryz.prog 25 #[.pointer (some ⟨pb, 0, none⟩)] W fun e w' => ∃ v, e = .returned v ∧ (∀ W', Below w'.heap.size w' W' → OL W' 0 v L) ∧ Below W.heap.size W w') ∧
    (∀ W, Below w.heap.size w W → Calls Tryz.prog 26 #[.pointer (some ⟨qb, 0, none⟩)] W fun e w' => ∃ v, e = .returned v ∧ (∀ W', Below w'.heap.size w' W' → OL W' 0 v L) ∧ Below W.heap.size W w') := by
  obtain ⟨F, G, P, Q, hp, rp, ⟨sb, mb, tb, v, hx, hPi⟩, ⟨sv, mv, kv, vv, L, hq, hQi⟩, ap⟩ := x.ex
  obtain ⟨ao, cap, hsv⟩ := ownc_form hq.sl
  have c2 : w.cell? ⟨qb, 2, none⟩ = some sv := hq.box.cell 2 (by simp)
  rw [hsv] at c2
  refine ⟨L, ao, cap, hq.few.2.2.2.2, hq.box.lt, c2, hq.box.cell 3 (by simp), by have := hq.few; omega, fun W hB => waiting_any (hx.below hB), fun W hB => pover_any (hx.below hB), fun W hB => ?_, fun W hB => ?_⟩
  · refine (outs_any (hx.below hB) H.nm (by have := H.el; omega)).mono ?_
    rintro e w' ⟨r, L', h1, h2, h3, h4⟩
    have e2 : L' = L := outsOf_uniq h2 hq.srt
    subst e2
    exact ⟨r, h1, fun W' hb => (h3.below hb).zero, h4⟩
  · refine (routs_any (hq.below hB)).mono ?_
    rintro e w' ⟨r, h1, h3, h4⟩
    exact ⟨r, h1, fun W' hb => (h3.below hb).zero, h4⟩
theorem P4.fresh (x : P4 w0 B w hb rb pb qb h1 h2 p1 p2 X) (hB : Below w.heap.size w w') : P4 w0 B w' hb rb pb qb h1 h2 p1 p2 (fun k => X k ∨ (w.heap.size ≤ k ∧ k < w'.heap.size)) := by
  obtain ⟨F, G, P, Q, hp, rp, pn, qn, ap⟩ := x.ex
  refine ⟨⟨F, G, P, Q, hp.below hB, rp.below hB, pn.below hB, qn.below hB, ((ap.turn (Y := fun k => X k ∨ (w.heap.size ≤ k ∧ k < w'.heap.size)) (fun k _ hk e => by
    rcases e with e | e
    · exact e
    · omega))).grow hB.size⟩, x.bel.trans (hB.mono x.le), Nat.le_trans x.le hB.size, fun k e => ?_, x.pos⟩
  rcases e with e | e
  · exact Nat.lt_of_lt_of_le (x.xs k e) hB.size
  · exact e.2
set_option maxRecDepth 20000 in
theorem nbegin_any (r : NRow w yb rb qb m) :
    Calls Tryz.prog 19 #[.pointer (some ⟨yb, 0, none⟩)] w fun e w' => e = .returned (.tuple #[]) ∧ NRow w' yb rb qb ⟨0, m.pass, false⟩ ∧ Kept w w' (fun k => k = yb) := by
  have f2 := r.frozen 2
  have f4 := r.frozen 4
  obtain ⟨_, _, d2, d3, d4⟩ := nrow_c r
  have hl := r.lt
  have H : Hid (NRow ((w.setCell ⟨yb, 2, none⟩ (.int .u64 0)).setCell ⟨yb, 4, none⟩ (.bool false)) yb rb qb ⟨0, m.pass, false⟩ ∧ Kept w ((w.setCell ⟨yb, 2, none⟩ (.int .u64 0)).setCell ⟨yb, 4, none⟩ (.bool false)) (fun k => k = yb)) := ⟨nrow_on (nrow_pl r 0) false, (kept_yb w yb 2 (.int .u64 0)).put ⟨yb, 4, none⟩ (.bool false) rfl⟩
  clear r
  go_enter Tryz.func19, Tryz.ntmps19
  go_wp2
  go_end0
  exact ⟨rfl, H.out.1, H.out.2⟩
end
/-- Both heaps, both paints, both markers; X: blocks that stay besides. -/
structure P6 (w0 : World) (B : Nat) (w : World) (hb rb pb qb xb yb : Nat) (h1 h2 : HSt) (p1 p2 : PSt) (m1 m2 : MSt) (X : Nat → Prop) : Prop where
  p4 : P4 w0 B w hb rb pb qb h1 h2 p1 p2 (fun k => k = xb ∨ k = yb ∨ X k)
  rx : MRow w xb hb pb m1
  ry : NRow w yb rb qb m2
  gx : B ≤ xb
  gy : B ≤ yb
  ne : xb ≠ yb ∧ ¬ X xb ∧ ¬ X yb
section
variable {w0 w w' : World} {B hb rb pb qb xb yb : Nat} {h1 h2 h' : HSt} {p1 p2 p' : PSt} {m1 m2 m m' : MSt} {X : Nat → Prop} {k : Nat}
theorem P6.go (x : P6 w0 B w hb rb pb qb xb yb h1 h2 p1 p2 m1 m2 X) {h1' h2' : HSt} {p1' p2' : PSt} (y : P4 w0 B w' hb rb pb qb h1' h2' p1' p2' (fun k => k = xb ∨ k = yb ∨ X k)) (hk : Kept w w' (Its B (fun k => k = xb ∨ k = yb ∨ X k))) : P6 w0 B w' hb rb pb qb xb yb h1' h2' p1' p2' m1 m2 X ∧ Kept w w' (Its B X) :=
  ⟨⟨y, x.rx.its hk (Or.inl rfl), its_row hk (Or.inr (Or.inl rfl)) x.ry, x.gx, x.gy, x.ne⟩, hk.mono (fun _ _ e => ⟨e.1, fun f => e.2 (Or.inr (Or.inr f))⟩)⟩
theorem P6.read (x : P6 w0 B w hb rb pb qb xb yb h1 h2 p1 p2 m1 m2 X) (hB : Below w.heap.size w w') : P6 w0 B w' hb rb pb qb xb yb h1 h2 p1 p2 m1 m2 X := ⟨x.p4.read hB, x.rx.below hB, x.ry.below hB, x.gx, x.gy, x.ne⟩
theorem P6.box (x : P6 w0 B w hb rb pb qb xb yb h1 h2 p1 p2 m1 m2 (fun _ => False)) (o : Obj) : P6 w0 B (w.alloc o) hb rb pb qb xb yb h1 h2 p1 p2 m1 m2 (fun k => k = w.heap.size) := by
  have hx : xb < w.heap.size := x.p4.xs xb (Or.inl rfl)
  have hy : yb < w.heap.size := x.p4.xs yb (Or.inr (Or.inl rfl))
  refine ⟨(x.p4.box o).off _ (fun k e => ?_), x.rx.below (bel_alloc w o), x.ry.below (bel_alloc w o), x.gx, x.gy, x.ne.1, by omega, by omega⟩
  rcases e with e | e | e
  · exact Or.inl (Or.inl e)
  · exact Or.inl (Or.inr (Or.inl e))
  · exact Or.inr e
theorem P6.off (x : P6 w0 B w hb rb pb qb xb yb h1 h2 p1 p2 m1 m2 X) : P6 w0 B w hb rb pb qb xb yb h1 h2 p1 p2 m1 m2 (fun _ => False) :=
  ⟨x.p4.off _ (fun k e => by
    rcases e with e | e | e
    · exact Or.inl e
    · exact Or.inr (Or.inl e)
    · exact e.elim), x.rx, x.ry, x.gx, x.gy, x.ne.1, id, id⟩
theorem P6.set {g : Nat} (x : P6 w0 B w hb rb pb qb xb yb h1 h2 p1 p2 m1 m2 (fun k => k = g)) (hk : Kept w w' (fun k => k = g)) (hg : B ≤ g) : P6 w0 B w' hb rb pb qb xb yb h1 h2 p1 p2 m1 m2 (fun k => k = g) :=
  ⟨x.p4.other hk (fun k e => by have e' : k = g := e; subst e'; exact ⟨Or.inr (Or.inr rfl), hg⟩), x.rx.kept hk (fun e => x.ne.2.1 e), x.ry.kept hk (fun e => x.ne.2.2 e), x.gx, x.gy, x.ne⟩
theorem P6.step (x : P6 w0 B w hb rb pb qb xb yb h1 h2 p1 p2 m1 m2 X) (hs : SB p1) :
    Calls Tryz.prog 20 #[.pointer (some ⟨xb, 0, none⟩)] w fun e w' => e = .returned (.bool (stepR h1 p1 m1).1) ∧ P6 w0 B w' hb rb pb qb xb yb h1 h2 (stepR h1 p1 m1).2.1 p2 (stepR h1 p1 m1).2.2 m2 X := by
  refine (x.p4.mstep x.rx (Or.inl rfl) x.gx hs).mono ?_
  rintro e w' ⟨he, y, r, hk⟩
  exact ⟨he, y, r, x.ry.kept hk (fun e => by
    rcases e with e | e
    · exact x.ne.1 e.symm
    · exact e.2 (Or.inr (Or.inl rfl))), x.gx, x.gy, x.ne⟩
theorem P6.rstep (x : P6 w0 B w hb rb pb qb xb yb h1 h2 p1 p2 m1 m2 X) (H : PI p2 k) (hk : k + 8 < 1000000) :
    Calls Tryz.prog 21 #[.pointer (some ⟨yb, 0, none⟩)] w fun e w' => e = .returned (.bool (stepR h2 p2 m2).1) ∧ P6 w0 B w' hb rb pb qb xb yb h1 h2 p1 (stepR h2 p2 m2).2.1 m1 (stepR h2 p2 m2).2.2 X := by
  refine (rmstep_any x.p4 x.ry (Or.inr (Or.inl rfl)) x.gy H hk).mono ?_
  rintro e w' ⟨he, y, r, hk⟩
  exact ⟨he, y, x.rx.kept hk (fun e => by
    rcases e with e | e
    · exact x.ne.1 e
    · exact e.2 (Or.inl rfl)), r, x.gx, x.gy, x.ne⟩
theorem P6.begin (x : P6 w0 B w hb rb pb qb xb yb h1 h2 p1 p2 m1 m2 X) :
    Calls Tryz.prog 18 #[.pointer (some ⟨xb, 0, none⟩)] w fun e w' => e = .returned (.tuple #[]) ∧ P6 w0 B w' hb rb pb qb xb yb h1 h2 p1 p2 ⟨0, m1.pass, false⟩ m2 X := by
  obtain ⟨ps, r, _⟩ := x.rx
  refine (mbegin_any r).mono ?_
  rintro e w' ⟨he, r', hk⟩
  exact ⟨he, x.p4.other hk (fun k e => by have e' : k = xb := e; subst e'; exact ⟨Or.inl rfl, x.gx⟩), ⟨0, r', fun e => by cases e⟩, x.ry.kept hk (fun e => x.ne.1 e.symm), x.gx, x.gy, x.ne⟩
theorem P6.rbegin (x : P6 w0 B w hb rb pb qb xb yb h1 h2 p1 p2 m1 m2 X) :
    Calls Tryz.prog 19 #[.pointer (some ⟨yb, 0, none⟩)] w fun e w' => e = .returned (.tuple #[]) ∧ P6 w0 B w' hb rb pb qb xb yb h1 h2 p1 p2 m1 ⟨0, m2.pass, false⟩ X := by
  refine (nbegin_any x.ry).mono ?_
  rintro e w' ⟨he, r', hk⟩
  exact ⟨he, x.p4.other hk (fun k e => by have e' : k = yb := e; subst e'; exact ⟨Or.inr (Or.inl rfl), x.gy⟩), x.rx.kept hk (fun e => x.ne.1 e), r', x.gx, x.gy, x.ne⟩
theorem P6.start {w3 w4 w5 : World} {h : HSt} {G : Nat → Prop} {M : Nat} (x : H2 w0 B w hb rb h h (fun _ => False)) (pn : PN w3 pb hb B G (PSt.new M)) (hG : ∀ k, G k → w.heap.size ≤ k) (b3 : Below w.heap.size w w3) (r4 : Row w4 w3.heap.size 89 (mkV hb pb 0 false 0)) (l4 : w3.heap.size < w4.heap.size) (b4 : Below w3.heap.size w3 w4)
    (q : RQ w5 w4.heap.size rb B (.slice none 0 0) (.slice none 0 0) (.slice none 0 0) (.slice none 0 0) (PSt.new M) []) (b5 : Below w4.heap.size w4 w5) :
    P6 w0 B (w5.alloc (.cells #[.pointer (some ⟨rb, 0, none⟩), .pointer (some ⟨w4.heap.size, 0, none⟩), .int .u64 0, .int .u64 0, .bool false] 46)) hb rb pb w4.heap.size w3.heap.size w5.heap.size h h (PSt.new M) (PSt.new M) ⟨0, 0, false⟩ ⟨0, 0, false⟩ (fun _ => False) := by
  obtain ⟨F, R, hp, rp, hF, hR⟩ := x.ex
  have s3 := b3.size
  have s4 := b4.size
  have s5 := b5.size
  have hle := x.le
  have fl := hp.lt
  have rl := rp.lt
  have pl := pn.lt
  have ql := q.qn.lt
  have hq : ∀ k, qBl w4.heap.size (.slice none 0 0) (.slice none 0 0) (.slice none 0 0) (.slice none 0 0) k → k = w4.heap.size := by
    rintro k (e | e | e | e | e)
    · exact e
    all_goals cases e
  have y : P4 w0 B w5 hb rb pb w4.heap.size h h (PSt.new M) (PSt.new M) (fun k => k = w3.heap.size) := by
    refine ⟨⟨F, R, G, _, ((hp.below b3).below b4).below b5, ((rp.below b3).below b4).below b5, (pn.below b4).below b5, q.qn, ?_⟩, ((x.bel.trans (b3.mono hle)).trans (b4.mono (by omega))).trans (b5.mono (by omega)), by omega, fun k e => by omega, x.pos⟩
    refine ⟨fun k hk => ⟨(hF k hk).1, ?_, ?_⟩, fun k hk => ⟨(hR k hk).1, ?_, ?_⟩, fun k hk => ⟨?_, ?_, ?_⟩, fun k hk => ⟨?_, ql k hk, ?_⟩, fun k hk => (hF k hk).2.2, fun k hk e => ?_, fun k hk e => ?_, fun k hk e => ?_, fun k hk e => ?_, fun k hk e => ?_⟩
    · have := fl k hk; omega
    · have := fl k hk; omega
    · have := rl k hk; omega
    · have := rl k hk; omega
    · have := hG k hk; omega
    · have := pl k hk; omega
    · have := pl k hk; omega
    · have := hq k hk; omega
    · have := hq k hk; omega
    · have := fl k hk; have := hG k e; omega
    · have := fl k hk; have := hq k e; omega
    · have := rl k hk; have := hG k e; omega
    · have := rl k hk; have := hq k e; omega
    · have := pl k hk; have := hq k e; omega
  refine ⟨(y.box _).off _ (fun k e => ?_), ⟨0, (r4.below b5).below (bel_alloc w5 _), fun e => by cases e⟩, heap_alloc_new w5 _, by omega, by omega, by omega, id, id⟩
  rcases e with e | e | e
  · exact Or.inl e
  · exact Or.inr e
  · exact e.elim
end
end Go.Proofs.YtebcigjnjapcgaaGreatDoor

namespace Go.Proofs.YtebcigjnjapcgaaGreatDoor
open Go.RowKit

set_option maxRecDepth 100000 in
set_option maxHeartbeats 8000000 in
theorem plays_region (wr : World) (pb qb ns cap : Nat) (ao : Option Addr) (po : Bool) (L : List ((Int × Nat) × Nat)) (hll : L.length ≤ 1000000) (C2 : ∀ W, Below wr.heap.size wr W → W.cell? ⟨qb, 2, none⟩ = some (.slice ao ns cap)) (C3 : ∀ W, Below wr.heap.size wr W → W.cell? ⟨qb, 3, none⟩ = some (.bool po)) (HW : Hid (∀ W, Below wr.heap.size wr W → Calls Tryz.prog 27 #[.pointer (some ⟨pb, 0, none⟩)] W fun e w' => e = .returned (.int .i64 (ns : Int)) ∧ W = w')) (HO : Hid (∀ W, Below wr.heap.size wr W → Calls Tryz.prog 28 #[.pointer (some ⟨pb, 0, none⟩)] W fun e w' => e = .returned (.bool po) ∧ W = w')) (HP : Hid (∀ W, Below wr.heap.size wr W → Calls Tryz.prog 25 #[.pointer (some ⟨pb, 0, none⟩)] W fun e w' => ∃ v, e = .returned v ∧ (∀ W', Below w'.heap.size w' W' → OL W' 0 v L) ∧ Below W.heap.size W w')) (HR : Hid (∀ W, Below wr.heap.size wr W → Calls Tryz.prog 26 #[.pointer (some ⟨qb, 0, none⟩)] W fun e w' => ∃ v, e = .returned v ∧ (∀ W', Below w'.heap.size w' W' → OL W' 0 v L) ∧ Below W.heap.size W w')) (Q : Exit → Act → World → Prop) (hQ : ∀ x (a : Act) (d : Nat) (u : Value) (w : World), Q (.panic x) (a.put (some d) u) w → Q (.panic x) a w) (x0 x1 x2 x3 x4 x5 x6 x7 x8 x10 x11 x12 x14 x15 x16 x17 x18 x19 x20 x21 x22 x23 x24 x25 x26 x27 x28 x29 x30 x31 x32 x33 x34 x35 x36 x37 x38 x39 x40 x41 x42 x43 x44 x45 x46 x47 x48 x49 x50 x51 x52 x53 x54 x55 x56 x57 x58 x59 x60 x61 x62 x63 x64 x65 x66 x67 x68 x69 x70 x71 x72 x73 x74 x75 x76 x77 x78 x79 x80 x81 x82 x83 x84 x85 x86 x87 x88 x89 x90 x91 x92 x93 x94 x95 x96 x97 x98 x99 x100 x101 x102 x103 x104 x105 x106 x107 x108 x109 x110 x111 x112 x113 x114 x115 x116 x117 x118 x119 x120 x121 x122 x123 x124 x125 x126 x127 x128 x129 x130 x131 x132 x133 x134 x135 x136 x137 x138 x139 x140 x141 x142 x143 x144 x145 x146 x147 x148 x149 x150 x151 x152 x153 x154 x155 x156 x157 x158 x159 x160 x161 x162 x163 x164 x165 x166 x167 x168 x169 x170 x171 x172 x173 x174 x175 x176 x177 x178 x179 x180 x181 x182 x183 x184 x185 x186 x187 x188 x189 x190 x191 x192 x193 x194 x195 x196 x197 x198 x199 x200 x201 x202 x203 x204 x205 x206 x207 x208 x209 x210 x211 x212 x213 x214 x215 x216 x217 x218 x219 x220 x221 x222 x223 x224 x225 x226 x227 x228 x229 x230 x231 x232 x233 x234 x235 x236 x237 x238 x239 x240 x241 x242 x243 x244 x245 x246 x247 x248 x249 x250 x251 x252 x253 x254 x255 x256 x257 x258 x259 : Value)
    (h : ∀ (z234 z235 z236 z237 z238 z239 z240 z241 z242 z243 z244 z245 z246 z247 z248 z249 z250 z251 z252 z253 z254 z255 z256 z257 z258 z259 : Value) (w' : World), Below wr.heap.size wr w' → Q .normal ({ tmps := #[x0, x1, x2, x3, x4, x5, .bool true, x7, x8, .pointer (some ⟨pb, 0, none⟩), x10, x11, x12, .pointer (some ⟨qb, 0, none⟩), x14, x15, x16, x17, x18, x19, x20, x21, x22, x23, x24, x25, x26, x27, x28, x29, x30, x31, x32, x33, x34, x35, x36, x37, x38, x39, x40, x41, x42, x43, x44, x45, x46, x47, x48, x49, x50, x51, x52, x53, x54, x55, x56, x57, x58, x59, x60, x61, x62, x63, x64, x65, x66, x67, x68, x69, x70, x71, x72, x73, x74, x75, x76, x77, x78, x79, x80, x81, x82, x83, x84, x85, x86, x87, x88, x89, x90, x91, x92, x93, x94, x95, x96, x97, x98, x99, x100, x101, x102, x103, x104, x105, x106, x107, x108, x109, x110, x111, x112, x113, x114, x115, x116, x117, x118, x119, x120, x121, x122, x123, x124, x125, x126, x127, x128, x129, x130, x131, x132, x133, x134, x135, x136, x137, x138, x139, x140, x141, x142, x143, x144, x145, x146, x147, x148, x149, x150, x151, x152, x153, x154, x155, x156, x157, x158, x159, x160, x161, x162, x163, x164, x165, x166, x167, x168, x169, x170, x171, x172, x173, x174, x175, x176, x177, x178, x179, x180, x181, x182, x183, x184, x185, x186, x187, x188, x189, x190, x191, x192, x193, x194, x195, x196, x197, x198, x199, x200, x201, x202, x203, x204, x205, x206, x207, x208, x209, x210, x211, x212, x213, x214, x215, x216, x217, x218, x219, x220, x221, x222, x223, x224, x225, x226, x227, x228, x229, x230, x231, x232, x233, z234, z235, z236, z237, z238, z239, z240, z241, z242, z243, z244, z245, z246, z247, z248, z249, z250, z251, z252, z253, z254, z255, z256, z257, z258, z259], defers := [] }) w') :
    Code.wp Tryz.prog (.region 44 #[{ dst := some 234, op := Op.move (Operand.tmp 9), type := 34, pos := "law.go:102", after := #[], guard := none }, { dst := some 235, op := Op.call { callee := Callee.value (Operand.func 25), args := #[Operand.tmp 234], argTypes := #[34] }, type := 64, pos := "law.go:102", after := #[{ on := 0, ground := Ground.data }], guard := none }, { dst := some 236, op := Op.move (Operand.tmp 13), type := 41, pos := "law.go:102", after := #[], guard := none }, { dst := some 237, op := Op.call { callee := Callee.value (Operand.func 26), args := #[Operand.tmp 236], argTypes := #[41] }, type := 64, pos := "law.go:102", after := #[{ on := 2, ground := Ground.data }, { on := 1, ground := Ground.chain }], guard := none }, { dst := some 238, op := Op.call { callee := Callee.value (Operand.func 24), args := #[Operand.tmp 235, Operand.tmp 237], argTypes := #[64, 64] }, type := 4, pos := "law.go:102", after := #[{ on := 1, ground := Ground.data }, { on := 3, ground := Ground.data }, { on := 3, ground := Ground.chain }], guard := none }, { dst := some 239, op := Op.move (Operand.tmp 238), type := 4, pos := "law.go:102", after := #[{ on := 4, ground := Ground.data }, { on := 4, ground := Ground.chain }], guard := none }, { dst := some 240, op := Op.move (Operand.tmp 9), type := 34, pos := "law.go:102", after := #[{ on := 5, ground := Ground.guard }], guard := some (5, true) }, { dst := some 241, op := Op.call { callee := Callee.value (Operand.func 27), args := #[Operand.tmp 240], argTypes := #[34] }, type := 3, pos := "law.go:102", after := #[{ on := 6, ground := Ground.data }, { on := 5, ground := Ground.chain }, { on := 5, ground := Ground.guard }], guard := some (5, true) }, { dst := some 242, op := Op.move (Operand.tmp 13), type := 41, pos := "law.go:102", after := #[{ on := 5, ground := Ground.guard }], guard := some (5, true) }, { dst := some 243, op := Op.nilCheck (Operand.tmp 242), type := 0, pos := "law.go:102", after := #[{ on := 8, ground := Ground.data }, { on := 5, ground := Ground.guard }], guard := some (5, true) }, { dst := some 244, op := Op.fieldAddr 74 (Operand.tmp 243) 1, type := 0, pos := "law.go:102", after := #[{ on := 9, ground := Ground.data }, { on := 5, ground := Ground.guard }], guard := some (5, true) }, { dst := some 245, op := Op.fieldAddr 69 (Operand.tmp 244) 1, type := 0, pos := "law.go:102", after := #[{ on := 10, ground := Ground.data }, { on := 5, ground := Ground.guard }], guard := some (5, true) }, { dst := some 246, op := Op.load 67 (Operand.tmp 245), type := 67, pos := "law.go:102", after := #[{ on := 11, ground := Ground.data }, { on := 5, ground := Ground.guard }], guard := some (5, true) }, { dst := some 247, op := Op.call { callee := Callee.builtin Builtin.len, args := #[Operand.tmp 246], argTypes := #[67] }, type := 3, pos := "law.go:102", after := #[{ on := 12, ground := Ground.data }, { on := 5, ground := Ground.guard }], guard := some (5, true) }, { dst := some 248, op := Op.binOp BinOp.eql 3 (Operand.tmp 241) (Operand.tmp 247) 3, type := 4, pos := "law.go:102", after := #[{ on := 7, ground := Ground.data }, { on := 13, ground := Ground.data }, { on := 5, ground := Ground.guard }], guard := some (5, true) }, { dst := some 249, op := Op.pick (Operand.tmp 239) (Operand.tmp 248) (Operand.const (Value.bool false)), type := 4, pos := "law.go:102", after := #[{ on := 5, ground := Ground.data }, { on := 14, ground := Ground.data }], guard := none }, { dst := some 250, op := Op.move (Operand.tmp 249), type := 4, pos := "law.go:102", after := #[{ on := 15, ground := Ground.data }, { on := 7, ground := Ground.chain }], guard := none }, { dst := some 251, op := Op.move (Operand.tmp 9), type := 34, pos := "law.go:102", after := #[{ on := 16, ground := Ground.guard }], guard := some (16, true) }, { dst := some 252, op := Op.call { callee := Callee.value (Operand.func 28), args := #[Operand.tmp 251], argTypes := #[34] }, type := 4, pos := "law.go:102", after := #[{ on := 17, ground := Ground.data }, { on := 16, ground := Ground.chain }, { on := 16, ground := Ground.guard }], guard := some (16, true) }, { dst := some 253, op := Op.move (Operand.tmp 13), type := 41, pos := "law.go:102", after := #[{ on := 16, ground := Ground.guard }], guard := some (16, true) }, { dst := some 254, op := Op.nilCheck (Operand.tmp 253), type := 0, pos := "law.go:102", after := #[{ on := 19, ground := Ground.data }, { on := 16, ground := Ground.guard }], guard := some (16, true) }, { dst := some 255, op := Op.fieldAddr 74 (Operand.tmp 254) 1, type := 0, pos := "law.go:102", after := #[{ on := 20, ground := Ground.data }, { on := 16, ground := Ground.guard }], guard := some (16, true) }, { dst := some 256, op := Op.fieldAddr 69 (Operand.tmp 255) 2, type := 0, pos := "law.go:102", after := #[{ on := 21, ground := Ground.data }, { on := 16, ground := Ground.guard }], guard := some (16, true) }, { dst := some 257, op := Op.load 4 (Operand.tmp 256), type := 4, pos := "law.go:102", after := #[{ on := 22, ground := Ground.data }, { on := 16, ground := Ground.guard }], guard := some (16, true) }, { dst := some 258, op := Op.binOp BinOp.eql 4 (Operand.tmp 252) (Operand.tmp 257) 4, type := 4, pos := "law.go:102", after := #[{ on := 18, ground := Ground.data }, { on := 23, ground := Ground.data }, { on := 16, ground := Ground.guard }], guard := some (16, true) }, { dst := some 259, op := Op.pick (Operand.tmp 250) (Operand.tmp 258) (Operand.const (Value.bool false)), type := 4, pos := "law.go:102", after := #[{ on := 16, ground := Ground.data }, { on := 24, ground := Ground.data }], guard := none }, { dst := some 6, op := Op.assign (Operand.tmp 259), type := 4, pos := "law.go:102", after := #[{ on := 25, ground := Ground.data }, { on := 18, ground := Ground.chain }, { on := 0, ground := Ground.phase }, { on := 1, ground := Ground.phase }, { on := 2, ground := Ground.phase }, { on := 3, ground := Ground.phase }, { on := 4, ground := Ground.phase }, { on := 5, ground := Ground.phase }, { on := 6, ground := Ground.phase }, { on := 7, ground := Ground.phase }, { on := 8, ground := Ground.phase }, { on := 9, ground := Ground.phase }, { on := 10, ground := Ground.phase }, { on := 11, ground := Ground.phase }, { on := 12, ground := Ground.phase }, { on := 13, ground := Ground.phase }, { on := 14, ground := Ground.phase }, { on := 15, ground := Ground.phase }, { on := 16, ground := Ground.phase }, { on := 17, ground := Ground.phase }, { on := 18, ground := Ground.phase }, { on := 19, ground := Ground.phase }, { on := 20, ground := Ground.phase }, { on := 21, ground := Ground.phase }, { on := 22, ground := Ground.phase }, { on := 23, ground := Ground.phase }, { on := 24, ground := Ground.phase }, { on := 25, ground := Ground.phase }], guard := none }] true) Q ({ tmps := #[x0, x1, x2, x3, x4, x5, x6, x7, x8, .pointer (some ⟨pb, 0, none⟩), x10, x11, x12, .pointer (some ⟨qb, 0, none⟩), x14, x15, x16, x17, x18, x19, x20, x21, x22, x23, x24, x25, x26, x27, x28, x29, x30, x31, x32, x33, x34, x35, x36, x37, x38, x39, x40, x41, x42, x43, x44, x45, x46, x47, x48, x49, x50, x51, x52, x53, x54, x55, x56, x57, x58, x59, x60, x61, x62, x63, x64, x65, x66, x67, x68, x69, x70, x71, x72, x73, x74, x75, x76, x77, x78, x79, x80, x81, x82, x83, x84, x85, x86, x87, x88, x89, x90, x91, x92, x93, x94, x95, x96, x97, x98, x99, x100, x101, x102, x103, x104, x105, x106, x107, x108, x109, x110, x111, x112, x113, x114, x115, x116, x117, x118, x119, x120, x121, x122, x123, x124, x125, x126, x127, x128, x129, x130, x131, x132, x133, x134, x135, x136, x137, x138, x139, x140, x141, x142, x143, x144, x145, x146, x147, x148, x149, x150, x151, x152, x153, x154, x155, x156, x157, x158, x159, x160, x161, x162, x163, x164, x165, x166, x167, x168, x169, x170, x171, x172, x173, x174, x175, x176, x177, x178, x179, x180, x181, x182, x183, x184, x185, x186, x187, x188, x189, x190, x191, x192, x193, x194, x195, x196, x197, x198, x199, x200, x201, x202, x203, x204, x205, x206, x207, x208, x209, x210, x211, x212, x213, x214, x215, x216, x217, x218, x219, x220, x221, x222, x223, x224, x225, x226, x227, x228, x229, x230, x231, x232, x233, x234, x235, x236, x237, x238, x239, x240, x241, x242, x243, x244, x245, x246, x247, x248, x249, x250, x251, x252, x253, x254, x255, x256, x257, x258, x259], defers := [] }) wr := by
  have hq1 : ((ns : Int) == (ns : Int)) = true := beq_self_eq_true _
  have hq2 : (po == po) = true := beq_self_eq_true _
  have q0 : Below wr.heap.size wr wr.drew := (Below.refl _ _).drew
  refine wp_region_held_drew (S := fun W => Below wr.heap.size wr W) (by kernel_rfl) q0 (fun hS => ?_)
  refine wpAnyH_take (i := 0) (oi := { dst := some 234, op := Op.move (Operand.tmp 9), type := 34, pos := "law.go:102", after := #[], guard := none }) (v := .pointer (some ⟨pb, 0, none⟩)) rfl (by kernel_rfl) (by kernel_rfl) (by kernel_rfl) (fun x a w h => hQ x a _ _ w h) (Or.inl ⟨by rfl, fun W hW => by go_simp⟩) hS ?_
  simp only [Act.put, List.setIfInBounds_toArray, List.set_cons_zero, List.set_cons_succ]
  refine wpAnyH_take (i := 2) (oi := { dst := some 236, op := Op.move (Operand.tmp 13), type := 41, pos := "law.go:102", after := #[], guard := none }) (v := .pointer (some ⟨qb, 0, none⟩)) rfl (by kernel_rfl) (by kernel_rfl) (by kernel_rfl) (fun x a w h => hQ x a _ _ w h) (Or.inl ⟨by rfl, fun W hW => by go_simp⟩) hS ?_
  simp only [Act.put, List.setIfInBounds_toArray, List.set_cons_zero, List.set_cons_succ]
  refine wpAnyH_ready (rs := [1]) (by kernel_rfl) (by simp) ?_
  refine AllReadyH.cons rfl (fun K hK => ?_) AllReadyH.nil
  go_simp
  go_wp2_with (go_at_call 25; refine (HP.out _ q0).mono ?_; rintro e w5 ⟨v5, rfl, K5, b5⟩; have q5 := below_via q0 b5)
  refine hK.out _ _ q5 (fun hS => ?_)
  clear hK K
  refine wpAnyH_ready (rs := [3]) (by kernel_rfl) (by simp) ?_
  refine AllReadyH.cons rfl (fun K hK => ?_) AllReadyH.nil
  go_simp
  go_wp2_with (go_at_call 26; refine (HR.out _ q5).mono ?_; rintro e w6 ⟨v6, rfl, K6, b6⟩; have q6 := below_via q5 b6)
  refine hK.out _ _ q6 (fun hS => ?_)
  clear hK K
  refine wpAnyH_ready (rs := [4]) (by kernel_rfl) (by simp) ?_
  refine AllReadyH.cons rfl (fun K hK => ?_) AllReadyH.nil
  go_simp
  go_wp2_with (go_at_call 24; refine (houts_any (K5 _ b6) (K6 _ (Below.refl _ _)) hll).mono ?_; rintro e w7 ⟨rfl, b7⟩; have q7 := below_via q6 b7)
  refine hK.out _ _ q7 (fun hS => ?_)
  clear hK K
  refine wpAnyH_take (i := 5) (oi := { dst := some 239, op := Op.move (Operand.tmp 238), type := 4, pos := "law.go:102", after := #[{ on := 4, ground := Ground.data }, { on := 4, ground := Ground.chain }], guard := none }) (v := .bool true) rfl (by kernel_rfl) (by kernel_rfl) (by kernel_rfl) (fun x a w h => hQ x a _ _ w h) (Or.inl ⟨by rfl, fun W hW => by go_simp⟩) hS ?_
  simp only [Act.put, List.setIfInBounds_toArray, List.set_cons_zero, List.set_cons_succ]
  refine wpAnyH_take (i := 6) (oi := { dst := some 240, op := Op.move (Operand.tmp 9), type := 34, pos := "law.go:102", after := #[{ on := 5, ground := Ground.guard }], guard := some (5, true) }) (v := .pointer (some ⟨pb, 0, none⟩)) rfl (by kernel_rfl) (by kernel_rfl) (by kernel_rfl) (fun x a w h => hQ x a _ _ w h) (Or.inl ⟨by rfl, fun W hW => by go_simp⟩) hS ?_
  simp only [Act.put, List.setIfInBounds_toArray, List.set_cons_zero, List.set_cons_succ]
  refine wpAnyH_take (i := 8) (oi := { dst := some 242, op := Op.move (Operand.tmp 13), type := 41, pos := "law.go:102", after := #[{ on := 5, ground := Ground.guard }], guard := some (5, true) }) (v := .pointer (some ⟨qb, 0, none⟩)) rfl (by kernel_rfl) (by kernel_rfl) (by kernel_rfl) (fun x a w h => hQ x a _ _ w h) (Or.inl ⟨by rfl, fun W hW => by go_simp⟩) hS ?_
  simp only [Act.put, List.setIfInBounds_toArray, List.set_cons_zero, List.set_cons_succ]
  refine wpAnyH_take (i := 9) (oi := { dst := some 243, op := Op.nilCheck (Operand.tmp 242), type := 0, pos := "law.go:102", after := #[{ on := 8, ground := Ground.data }, { on := 5, ground := Ground.guard }], guard := some (5, true) }) (v := .pointer (some ⟨qb, 0, none⟩)) rfl (by kernel_rfl) (by kernel_rfl) (by kernel_rfl) (fun x a w h => hQ x a _ _ w h) (Or.inl ⟨by rfl, fun W hW => by go_simp⟩) hS ?_
  simp only [Act.put, List.setIfInBounds_toArray, List.set_cons_zero, List.set_cons_succ]
  refine wpAnyH_take (i := 10) (oi := { dst := some 244, op := Op.fieldAddr 74 (Operand.tmp 243) 1, type := 0, pos := "law.go:102", after := #[{ on := 9, ground := Ground.data }, { on := 5, ground := Ground.guard }], guard := some (5, true) }) (v := .pointer (some ⟨qb, 1, none⟩)) rfl (by kernel_rfl) (by kernel_rfl) (by kernel_rfl) (fun x a w h => hQ x a _ _ w h) (Or.inl ⟨by rfl, fun W hW => by go_simp⟩) hS ?_
  simp only [Act.put, List.setIfInBounds_toArray, List.set_cons_zero, List.set_cons_succ]
  refine wpAnyH_take (i := 11) (oi := { dst := some 245, op := Op.fieldAddr 69 (Operand.tmp 244) 1, type := 0, pos := "law.go:102", after := #[{ on := 10, ground := Ground.data }, { on := 5, ground := Ground.guard }], guard := some (5, true) }) (v := .pointer (some ⟨qb, 2, none⟩)) rfl (by kernel_rfl) (by kernel_rfl) (by kernel_rfl) (fun x a w h => hQ x a _ _ w h) (Or.inl ⟨by rfl, fun W hW => by go_simp⟩) hS ?_
  simp only [Act.put, List.setIfInBounds_toArray, List.set_cons_zero, List.set_cons_succ]
  refine wpAnyH_take (i := 12) (oi := { dst := some 246, op := Op.load 67 (Operand.tmp 245), type := 67, pos := "law.go:102", after := #[{ on := 11, ground := Ground.data }, { on := 5, ground := Ground.guard }], guard := some (5, true) }) (v := .slice ao ns cap) rfl (by kernel_rfl) (by kernel_rfl) (by kernel_rfl) (fun x a w h => hQ x a _ _ w h) (Or.inl ⟨by rfl, fun W hW => by go_simp⟩) hS ?_
  simp only [Act.put, List.setIfInBounds_toArray, List.set_cons_zero, List.set_cons_succ]
  refine wpAnyH_take (i := 13) (oi := { dst := some 247, op := Op.call { callee := Callee.builtin Builtin.len, args := #[Operand.tmp 246], argTypes := #[67] }, type := 3, pos := "law.go:102", after := #[{ on := 12, ground := Ground.data }, { on := 5, ground := Ground.guard }], guard := some (5, true) }) (v := .int .i64 (ns : Int)) rfl (by kernel_rfl) (by kernel_rfl) (by kernel_rfl) (fun x a w h => hQ x a _ _ w h) (Or.inl ⟨by rfl, fun W hW => by go_simp⟩) hS ?_
  simp only [Act.put, List.setIfInBounds_toArray, List.set_cons_zero, List.set_cons_succ]
  refine wpAnyH_ready (rs := [7]) (by kernel_rfl) (by simp) ?_
  refine AllReadyH.cons rfl (fun K hK => ?_) AllReadyH.nil
  go_simp
  go_wp2_with (go_at_call 27; refine (HW.out _ q7).mono ?_; rintro e _ ⟨rfl, rfl⟩)
  refine hK.out _ _ q7 (fun hS => ?_)
  clear hK K
  refine wpAnyH_take (i := 14) (oi := { dst := some 248, op := Op.binOp BinOp.eql 3 (Operand.tmp 241) (Operand.tmp 247) 3, type := 4, pos := "law.go:102", after := #[{ on := 7, ground := Ground.data }, { on := 13, ground := Ground.data }, { on := 5, ground := Ground.guard }], guard := some (5, true) }) (v := .bool true) rfl (by kernel_rfl) (by kernel_rfl) (by kernel_rfl) (fun x a w h => hQ x a _ _ w h) (Or.inl ⟨by rfl, fun W hW => by go_simp⟩) hS ?_
  simp only [Act.put, List.setIfInBounds_toArray, List.set_cons_zero, List.set_cons_succ]
  refine wpAnyH_take (i := 15) (oi := { dst := some 249, op := Op.pick (Operand.tmp 239) (Operand.tmp 248) (Operand.const (Value.bool false)), type := 4, pos := "law.go:102", after := #[{ on := 5, ground := Ground.data }, { on := 14, ground := Ground.data }], guard := none }) (v := .bool true) rfl (by kernel_rfl) (by kernel_rfl) (by kernel_rfl) (fun x a w h => hQ x a _ _ w h) (Or.inl ⟨by rfl, fun W hW => by go_simp⟩) hS ?_
  simp only [Act.put, List.setIfInBounds_toArray, List.set_cons_zero, List.set_cons_succ]
  refine wpAnyH_take (i := 16) (oi := { dst := some 250, op := Op.move (Operand.tmp 249), type := 4, pos := "law.go:102", after := #[{ on := 15, ground := Ground.data }, { on := 7, ground := Ground.chain }], guard := none }) (v := .bool true) rfl (by kernel_rfl) (by kernel_rfl) (by kernel_rfl) (fun x a w h => hQ x a _ _ w h) (Or.inl ⟨by rfl, fun W hW => by go_simp⟩) hS ?_
  simp only [Act.put, List.setIfInBounds_toArray, List.set_cons_zero, List.set_cons_succ]
  refine wpAnyH_take (i := 17) (oi := { dst := some 251, op := Op.move (Operand.tmp 9), type := 34, pos := "law.go:102", after := #[{ on := 16, ground := Ground.guard }], guard := some (16, true) }) (v := .pointer (some ⟨pb, 0, none⟩)) rfl (by kernel_rfl) (by kernel_rfl) (by kernel_rfl) (fun x a w h => hQ x a _ _ w h) (Or.inl ⟨by rfl, fun W hW => by go_simp⟩) hS ?_
  simp only [Act.put, List.setIfInBounds_toArray, List.set_cons_zero, List.set_cons_succ]
  refine wpAnyH_take (i := 19) (oi := { dst := some 253, op := Op.move (Operand.tmp 13), type := 41, pos := "law.go:102", after := #[{ on := 16, ground := Ground.guard }], guard := some (16, true) }) (v := .pointer (some ⟨qb, 0, none⟩)) rfl (by kernel_rfl) (by kernel_rfl) (by kernel_rfl) (fun x a w h => hQ x a _ _ w h) (Or.inl ⟨by rfl, fun W hW => by go_simp⟩) hS ?_
  simp only [Act.put, List.setIfInBounds_toArray, List.set_cons_zero, List.set_cons_succ]
  refine wpAnyH_take (i := 20) (oi := { dst := some 254, op := Op.nilCheck (Operand.tmp 253), type := 0, pos := "law.go:102", after := #[{ on := 19, ground := Ground.data }, { on := 16, ground := Ground.guard }], guard := some (16, true) }) (v := .pointer (some ⟨qb, 0, none⟩)) rfl (by kernel_rfl) (by kernel_rfl) (by kernel_rfl) (fun x a w h => hQ x a _ _ w h) (Or.inl ⟨by rfl, fun W hW => by go_simp⟩) hS ?_
  simp only [Act.put, List.setIfInBounds_toArray, List.set_cons_zero, List.set_cons_succ]
  refine wpAnyH_take (i := 21) (oi := { dst := some 255, op := Op.fieldAddr 74 (Operand.tmp 254) 1, type := 0, pos := "law.go:102", after := #[{ on := 20, ground := Ground.data }, { on := 16, ground := Ground.guard }], guard := some (16, true) }) (v := .pointer (some ⟨qb, 1, none⟩)) rfl (by kernel_rfl) (by kernel_rfl) (by kernel_rfl) (fun x a w h => hQ x a _ _ w h) (Or.inl ⟨by rfl, fun W hW => by go_simp⟩) hS ?_
  simp only [Act.put, List.setIfInBounds_toArray, List.set_cons_zero, List.set_cons_succ]
  refine wpAnyH_take (i := 22) (oi := { dst := some 256, op := Op.fieldAddr 69 (Operand.tmp 255) 2, type := 0, pos := "law.go:102", after := #[{ on := 21, ground := Ground.data }, { on := 16, ground := Ground.guard }], guard := some (16, true) }) (v := .pointer (some ⟨qb, 3, none⟩)) rfl (by kernel_rfl) (by kernel_rfl) (by kernel_rfl) (fun x a w h => hQ x a _ _ w h) (Or.inl ⟨by rfl, fun W hW => by go_simp⟩) hS ?_
  simp only [Act.put, List.setIfInBounds_toArray, List.set_cons_zero, List.set_cons_succ]
  refine wpAnyH_take (i := 23) (oi := { dst := some 257, op := Op.load 4 (Operand.tmp 256), type := 4, pos := "law.go:102", after := #[{ on := 22, ground := Ground.data }, { on := 16, ground := Ground.guard }], guard := some (16, true) }) (v := .bool po) rfl (by kernel_rfl) (by kernel_rfl) (by kernel_rfl) (fun x a w h => hQ x a _ _ w h) (Or.inl ⟨by rfl, fun W hW => by go_simp⟩) hS ?_
  simp only [Act.put, List.setIfInBounds_toArray, List.set_cons_zero, List.set_cons_succ]
  refine wpAnyH_ready (rs := [18]) (by kernel_rfl) (by simp) ?_
  refine AllReadyH.cons rfl (fun K hK => ?_) AllReadyH.nil
  go_simp
  go_wp2_with (go_at_call 28; refine (HO.out _ q7).mono ?_; rintro e _ ⟨rfl, rfl⟩)
  refine hK.out _ _ q7 (fun hS => ?_)
  clear hK K
  refine wpAnyH_take (i := 24) (oi := { dst := some 258, op := Op.binOp BinOp.eql 4 (Operand.tmp 252) (Operand.tmp 257) 4, type := 4, pos := "law.go:102", after := #[{ on := 18, ground := Ground.data }, { on := 23, ground := Ground.data }, { on := 16, ground := Ground.guard }], guard := some (16, true) }) (v := .bool true) rfl (by kernel_rfl) (by kernel_rfl) (by kernel_rfl) (fun x a w h => hQ x a _ _ w h) (Or.inl ⟨by rfl, fun W hW => by go_simp⟩) hS ?_
  simp only [Act.put, List.setIfInBounds_toArray, List.set_cons_zero, List.set_cons_succ]
  refine wpAnyH_take (i := 25) (oi := { dst := some 259, op := Op.pick (Operand.tmp 250) (Operand.tmp 258) (Operand.const (Value.bool false)), type := 4, pos := "law.go:102", after := #[{ on := 16, ground := Ground.data }, { on := 24, ground := Ground.data }], guard := none }) (v := .bool true) rfl (by kernel_rfl) (by kernel_rfl) (by kernel_rfl) (fun x a w h => hQ x a _ _ w h) (Or.inl ⟨by rfl, fun W hW => by go_simp⟩) hS ?_
  simp only [Act.put, List.setIfInBounds_toArray, List.set_cons_zero, List.set_cons_succ]
  refine wpAnyH_take (i := 26) (oi := { dst := some 6, op := Op.assign (Operand.tmp 259), type := 4, pos := "law.go:102", after := #[{ on := 25, ground := Ground.data }, { on := 18, ground := Ground.chain }, { on := 0, ground := Ground.phase }, { on := 1, ground := Ground.phase }, { on := 2, ground := Ground.phase }, { on := 3, ground := Ground.phase }, { on := 4, ground := Ground.phase }, { on := 5, ground := Ground.phase }, { on := 6, ground := Ground.phase }, { on := 7, ground := Ground.phase }, { on := 8, ground := Ground.phase }, { on := 9, ground := Ground.phase }, { on := 10, ground := Ground.phase }, { on := 11, ground := Ground.phase }, { on := 12, ground := Ground.phase }, { on := 13, ground := Ground.phase }, { on := 14, ground := Ground.phase }, { on := 15, ground := Ground.phase }, { on := 16, ground := Ground.phase }, { on := 17, ground := Ground.phase }, { on := 18, ground := Ground.phase }, { on := 19, ground := Ground.phase }, { on := 20, ground := Ground.phase }, { on := 21, ground := Ground.phase }, { on := 22, ground := Ground.phase }, { on := 23, ground := Ground.phase }, { on := 24, ground := Ground.phase }, { on := 25, ground := Ground.phase }], guard := none }) (v := .bool true) rfl (by kernel_rfl) (by kernel_rfl) (by kernel_rfl) (fun x a w h => hQ x a _ _ w h) (Or.inl ⟨by rfl, fun W hW => by go_simp⟩) hS ?_
  simp only [Act.put, List.setIfInBounds_toArray, List.set_cons_zero, List.set_cons_succ]
  refine wpAnyH_done (by kernel_rfl) ?_ _
  exact h _ _ _ _ _ _ _ _ _ _ _ _ _ _ _ _ _ _ _ _ _ _ _ _ _ _ _ q7

end Go.Proofs.YtebcigjnjapcgaaGreatDoor

namespace Go.Proofs.YtebcigjnjapcgaaGreatDoor
open Go.RowKit

/-- The example's graph: one object, no reference, its distance two. -/
def gk : Gr := ⟨[(.slice none 0 0, [])], [], [8]⟩
/-- No graph. -/
def gz : Gr := ⟨[], [], []⟩
theorem ws_nil {α : Type} (w : World) (c : Nat) (f : α → List Value) : WS w (.slice none 0 0) c f [] := ⟨none, 0, rfl, Nat.le_refl _, fun _ => rfl, fun h => absurd rfl h⟩
theorem gz_gi (w : World) : GI w (.slice none 0 0) (.slice none 0 0) (.slice none 0 0) gz := ⟨ws_nil w 1 cR, (fun x hx => by cases hx), ws_nil w 1 cB, ws_nil w 1 cI, by show 0 ≤ _; omega, by show 0 ≤ _; omega⟩
theorem gk_gi {w : World} {b d : Nat} (h1 : w.cell? ⟨b, 0, none⟩ = some (.slice none 0 0)) (h2 : w.cell? ⟨d, 0, none⟩ = some (.int .i64 8)) : GI w (.slice (some ⟨b, 0, none⟩) 1 1) (.slice none 0 0) (.slice (some ⟨d, 0, none⟩) 1 1) gk := by
  refine ⟨⟨some ⟨b, 0, none⟩, 1, rfl, Nat.le_refl _, (fun e => by cases e), fun _ => ⟨b, 0, rfl, cell_lt h1, fun i hi j u hu => ?_⟩⟩, fun x hx => ?_, ws_nil w 1 cB, ⟨some ⟨d, 0, none⟩, 1, rfl, Nat.le_refl _, (fun e => by cases e), fun _ => ⟨d, 0, rfl, cell_lt h2, fun i hi j u hu => ?_⟩⟩, by show 0 ≤ _; omega, by show 1 ≤ _; omega⟩
  · have hi' : i < 1 := hi
    obtain rfl : i = 0 := by omega
    match j, hu with
    | 0, hu => cases hu; exact h1
  · have hx' : x ∈ [((.slice none 0 0 : Value), ([] : List Int))] := hx
    rw [List.mem_singleton.1 hx']
    exact ws_nil w 1 cI
  · have hi' : i < 1 := hi
    obtain rfl : i = 0 := by omega
    match j, hu with
    | 0, hu => cases hu; exact h2
/-- The example's heap. -/
theorem gk_heap {h : HSt} (m : M2 gk 1 1 0 h) : ∃ c vl, h.cs = [⟨1, c, [], vl, 2⟩] := by
  have hl := m.len
  obtain ⟨o, h1, h2, _⟩ := m.at_ 0 (by omega)
  obtain ⟨o', h3, h4⟩ := m.dis 0 (by omega)
  rw [h1] at h3
  cases h3
  have hd : distR gk 0 = 2 := by decide
  rw [hd] at h4
  obtain ⟨hm, hs⟩ := getC_mem h1
  have hf : fl gk 0 = 0 := by decide
  rw [hf] at h2
  match hc : h.cs, hl with
  | [q], _ =>
    rw [hc] at hm
    have e := List.mem_singleton.1 hm
    subst e
    obtain ⟨s, c, rf, vl, d⟩ := o
    simp only at hs h2 h4
    have hr : rf = [] := List.eq_nil_of_length_eq_zero h2
    have hd' : d = 2 := by omega
    subst hr hd' hs
    exact ⟨c, vl, rfl⟩
def pm1 : PSt := ⟨0, 2, [1], false, [(1, (2, true))], []⟩
def pm2 : PSt := ⟨0, 2, [], false, [(1, (2, false))], []⟩
theorem gk_steps {h : HSt} (m : M2 gk 1 1 0 h) : stepR h (PSt.new 2) ⟨0, 0, false⟩ = (true, pm1, ⟨1, 0, false⟩) ∧ markR h pm1 1 = (2, true, true) ∧ stepR h pm1 ⟨1, 0, false⟩ = (true, pm2, ⟨1, 0, false⟩) ∧ stepR h pm2 ⟨1, 0, false⟩ = (false, pm2, ⟨1, 0, false⟩) := by
  obtain ⟨c, vl, hc⟩ := gk_heap m
  have hn := m.node
  obtain ⟨nd, mo, la, bs, cs⟩ := h
  simp only at hc hn
  subst hc hn
  exact ⟨rfl, rfl, rfl, rfl⟩
theorem gz_step {h : HSt} (m : M2 gz 0 0 0 h) : (stepR h (PSt.new 2) ⟨0, 0, false⟩).1 = false := by
  have hl := m.len
  obtain ⟨nd, mo, la, bs, cs⟩ := h
  simp only at hl
  have := List.eq_nil_of_length_eq_zero hl
  subst this
  rfl

set_option maxRecDepth 20000 in
set_option maxHeartbeats 1000000 in
theorem mknown_any (w : World) (hT : TB w) :
    Calls Tryz.prog 5 #[] w fun e w' => e = .returned (.bool true) ∧ Below w.heap.size w w' := by
  obtain ⟨wA, hwA⟩ : ∃ z, z = ((w.alloc (.cells #[.slice none 0 0] 24)).alloc (.cells #[.int .i64 8] 3)).alloc (.cells #[.slice (some ⟨w.heap.size, 0, none⟩) 1 1, .slice none 0 0, .slice (some ⟨w.heap.size + 1, 0, none⟩) 1 1] 26) := ⟨_, rfl⟩
  have hbA : Below w.heap.size w wA := by
    rw [hwA]
    exact ((bel_alloc w _).alloc (by simp) _).alloc (by simp; omega) _
  have hg : GI wA (.slice (some ⟨w.heap.size, 0, none⟩) 1 1) (.slice none 0 0) (.slice (some ⟨w.heap.size + 1, 0, none⟩) 1 1) gk := by
    rw [hwA]
    have e1 : (w.alloc (.cells #[.slice none 0 0] 24)).heap.size = w.heap.size + 1 := by simp
    have e2 : ((w.alloc (.cells #[.slice none 0 0] 24)).alloc (.cells #[.int .i64 8] 3)).heap.size = w.heap.size + 2 := by simp
    refine gk_gi ?_ ?_
    · refine (((bel_alloc (w.alloc (.cells #[.slice none 0 0] 24)) _).alloc (by omega) _).cell (p := ⟨w.heap.size, 0, none⟩) (by show w.heap.size < _; omega)).trans ?_
      simp
    · refine ((bel_alloc ((w.alloc (.cells #[.slice none 0 0] 24)).alloc (.cells #[.int .i64 8] 3)) _).cell (p := ⟨w.heap.size + 1, 0, none⟩) (by show w.heap.size + 1 < _; omega)).trans ?_
      have e3 : w.heap.size + 1 = (w.alloc (.cells #[.slice none 0 0] 24)).heap.size := by omega
      rw [e3]
      generalize w.alloc (.cells #[.slice none 0 0] 24) = w1
      simp
  have hH := heaps_at hg (hT.below hbA) 3 (by omega)
  rw [hwA] at hH
  have HA : Hid (Below w.heap.size w wA) := hbA
  have HWA : Hid _ := hidden hwA
  clear hbA hg hwA hT
  go_enter Tryz.func5, Tryz.ntmps5
  go_wp2_with fail
  refine hH.mono ?_
  rw [← HWA.out]
  rintro e w1 ⟨hb, rb, h, rfl, y1, m1⟩
  have hP := y1.pl 2 (by omega) (by omega)
  have hok := y1.ok
  obtain ⟨s1, s2, s3, s4⟩ := gk_steps (h := h) m1
  clear hH HWA m1 y1
  go_wp2_with fail
  refine hP.mono ?_
  rintro e w2 ⟨pb, rfl, z2, b2⟩
  have hM := z2.ph.mnew
  clear hP z2 b2
  go_wp2_with fail
  refine hM.mono ?_
  rintro e w3 ⟨rfl, x3, b3⟩
  generalize w2.heap.size = xb at *
  have hS := mstep_any x3 (SB.new 2)
  rw [s1] at hS
  clear hM x3 b3
  go_wp2_with fail
  refine hS.mono ?_
  rintro e w4 ⟨rfl, x4, k4⟩
  have hK := x4.ph.mark 1 (by omega)
  rw [s2] at hK
  clear hS k4
  go_wp2_with fail
  refine hK.mono ?_
  rintro e w5 ⟨rfl, b5⟩
  have x5 := x4.read b5
  have hS := mstep_any x5 (by intro s hs; simp [pm1] at hs; omega)
  rw [s3] at hS
  clear hK x4 b5 x5
  go_wp2_with fail
  refine hS.mono ?_
  rintro e w6 ⟨rfl, x6, k6⟩
  have hS2 := mstep_any x6 (by intro s hs; simp [pm2] at hs)
  rw [s4] at hS2
  clear hS k6 x6 s1 s2 s3 s4
  go_wp2_with fail
  refine hS2.mono ?_
  rintro e w7 ⟨rfl, x7, k7⟩
  have HB : Hid _ := hidden (HA.out.trans (x7.ph.bel.mono HA.out.size))
  clear hS2 k7 x7
  go_wp2
  go_ret
  exact ⟨rfl, HB.out⟩

end Go.Proofs.YtebcigjnjapcgaaGreatDoor

