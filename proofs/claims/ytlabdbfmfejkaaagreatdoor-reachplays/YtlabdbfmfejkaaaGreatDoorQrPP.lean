import Derived.Test.YtlabdbfmfejkaaaGreatDoorQrSP
import Derived.Test.YtlabdbfmfejkaaaGreatDoorReYP
import Derived.Test.YtlabdbfmfejkaaaGreatDoorReIP
/- Both reachers, side by side: they do the same. -/
/- Both reachers beside both heaps and paints. -/
/- The told rows, written over. -/
namespace Go.Proofs.YtlabdbfmfejkaaaGreatDoor
open Go.RowKit
open Go.Sort hiding Below

/-- Rows under way that are alike. -/
structure SimU (u : Und) (s : QSt) : Prop where
  un : s.under = true
  inn : s.inn = u.inn
  row : s.row = u.row
  waits : s.waits = u.waits
  outs : s.outs = u.outs
/-- Reachers that are alike. -/
structure Sim (r : RSt) (s : QSt) : Prop where
  sus : s.sus = r.sus
  place : s.place = r.place
  ended : s.ended = r.ended
  und : match r.und with
    | none => s.under = false ∧ s.row = [] ∧ s.waits = [] ∧ s.outs = []
    | some u => SimU u s
section
variable {h : HSt} {p : PSt} {r : RSt} {s : QSt} {u : Und}
theorem SimU.put (H : SimU u s) (a : Nat) : SimU (u.put a) (s.put a) := by
  unfold Und.put QSt.put
  rw [H.row]
  by_cases e : a ∈ u.row
  · rw [if_pos e, if_pos e]
    exact H
  · rw [if_neg e, if_neg e]
    exact ⟨H.un, H.inn, rfl, by rw [H.waits], H.outs⟩
theorem put_ended (a : Nat) : (s.put a).ended = s.ended ∧ (s.put a).place = s.place := by unfold QSt.put; split <;> exact ⟨rfl, rfl⟩
theorem look_ended (x : Int × Nat) : (s.look h p x).ended = s.ended ∧ (s.look h p x).place = s.place := by
  unfold QSt.look
  split
  · split
    · exact put_ended _
    · exact ⟨rfl, rfl⟩
  · split <;> exact ⟨rfl, rfl⟩
theorem all_ended : ∀ (l : List (Int × Nat)) {s : QSt}, (QSt.all h p s l).ended = s.ended ∧ (QSt.all h p s l).place = s.place ∧ (QSt.all h p s l).sus = s.sus
  | [], _ => ⟨rfl, rfl, rfl⟩
  | x :: l, s => by
    obtain ⟨a, b, c⟩ := all_ended l (s := s.look h p x)
    obtain ⟨d, e⟩ := look_ended (h := h) (p := p) (s := s) x
    exact ⟨a.trans d, b.trans e, c.trans (look_sus x)⟩
theorem SimU.look (H : SimU u s) (x : Int × Nat) : SimU (u.look h p s.sus x) (s.look h p x) := by
  unfold Und.look QSt.look
  split
  · split
    · exact H.put _
    · exact H
  · split
    · exact ⟨H.un, H.inn, H.row, H.waits, by show meetL s.outs x = meetL u.outs x; rw [H.outs]⟩
    · exact H
theorem SimU.all : ∀ (l : List (Int × Nat)) {u : Und} {s : QSt}, SimU u s → SimU (u.all h p s.sus l) (QSt.all h p s l)
  | [], _, _, H => H
  | x :: l, u, s, H => by
    have h1 := SimU.all l (H.look (h := h) (p := p) x)
    rw [look_sus] at h1
    exact h1
theorem Sim.new (t : Int) : Sim (RSt.new t) (QSt.new t) := ⟨rfl, rfl, rfl, ⟨rfl, rfl, rfl, rfl⟩⟩
theorem Sim.endS (H : Sim r s) : Sim r.endS s.endS := by
  have hu := H.und
  unfold RSt.endS
  cases hr : r.und with
  | none =>
    rw [hr] at hu
    obtain ⟨h1, _⟩ := hu
    refine ⟨H.sus, H.place, ?_, ?_⟩
    · show (if s.under then _ else s.ended) = r.ended
      rw [h1, if_neg (by simp)]
      exact H.ended
    · rw [hr]
      exact ⟨rfl, rfl, rfl, rfl⟩
  | some u =>
    rw [hr] at hu
    refine ⟨H.sus, H.place, ?_, ⟨rfl, rfl, rfl, rfl⟩⟩
    show (if s.under then s.ended ++ [(s.inn, s.outs)] else s.ended) = r.ended ++ [(u.inn, u.outs)]
    rw [hu.un, if_pos rfl, H.ended, hu.inn, hu.outs]
/-- Both steps do the same. -/
theorem Sim.step (H : Sim r s) : (s.step h p).1 = (r.step h p).1 ∧ Sim (r.step h p).2 (s.step h p).2 := by
  have hmove : ∀ o, aboveC h.cs r.place = some o → Sim (moveS h p r o) (if 0 < o.d ∧ susO h p s.sus o.s = true then QSt.put { QSt.endS { s with place := o.s } with under := true, inn := o.s } o.s else { s with place := o.s }) := fun o _ => by
    unfold moveS beginsB
    have hse : susO h p r.sus o.s = susO h p s.sus o.s := by rw [H.sus]
    rw [hse]
    by_cases hb : 0 < o.d ∧ susO h p s.sus o.s = true
    · rw [if_pos hb, if_pos (by rw [Bool.and_eq_true, decide_eq_true_eq]; exact hb)]
      have he := H.endS
      have hp : QSt.put { QSt.endS { s with place := o.s } with under := true, inn := o.s } o.s = { QSt.endS { s with place := o.s } with under := true, inn := o.s, row := [o.s], waits := [o.s] } := by
        unfold QSt.put
        rw [if_neg (by simp [QSt.endS])]
        rfl
      rw [hp]
      exact ⟨he.sus, rfl, he.ended, ⟨rfl, rfl, rfl, rfl, rfl⟩⟩
    · rw [if_neg hb, if_neg (by rw [Bool.and_eq_true, decide_eq_true_eq]; exact hb)]
      have hu := H.und
      refine ⟨H.sus, rfl, H.ended, ?_⟩
      cases hr : r.und with
      | none => rw [hr] at hu; exact hu
      | some u => rw [hr] at hu; exact ⟨hu.un, hu.inn, hu.row, hu.waits, hu.outs⟩
  have hu := H.und
  unfold RSt.step QSt.step followR
  cases hr : r.und with
  | none =>
    rw [hr] at hu
    obtain ⟨h1, h2, h3, h4⟩ := hu
    have hgw : s.waits.getLast? = none := by rw [h3]; rfl
    have hpl : aboveC h.cs s.place = aboveC h.cs r.place := by rw [H.place]
    rw [hgw]
    simp only
    rw [hpl]
    cases ha : aboveC h.cs r.place with
    | some o => exact ⟨rfl, hmove o ha⟩
    | none =>
      refine ⟨h1, ?_⟩
      simp only [h1]
      have e : r.endS = r := by unfold RSt.endS; rw [hr]
      rw [e]
      exact H
  | some u =>
    rw [hr] at hu
    have hgw : s.waits.getLast? = u.waits.getLast? := by rw [hu.waits]
    have hpl : aboveC h.cs s.place = aboveC h.cs r.place := by rw [H.place]
    rw [hgw]
    simp only
    cases hg : u.waits.getLast? with
    | some a =>
      refine ⟨rfl, ?_⟩
      obtain ⟨e1, e2, e3⟩ := all_ended (h := h) (p := p) (refsC h.cs a) (s := { s with waits := s.waits.dropLast })
      have hc : SimU u.cut { s with waits := s.waits.dropLast } := ⟨hu.un, hu.inn, hu.row, by show s.waits.dropLast = u.waits.dropLast; rw [hu.waits], hu.outs⟩
      have ha := SimU.all (h := h) (p := p) (refsC h.cs a) hc
      refine ⟨e3.trans H.sus, e2.trans H.place, e1.trans H.ended, ?_⟩
      show SimU (u.cut.all h p r.sus (refsC h.cs a)) _
      rw [← H.sus]
      exact ha
    | none =>
      simp only
      rw [hpl]
      cases ha : aboveC h.cs r.place with
      | some o => exact ⟨rfl, hmove o ha⟩
      | none =>
        refine ⟨by simp only [hu.un]; rfl, ?_⟩
        simp only [hu.un, if_true]
        exact H.endS
/-- So many things are in the plain one, too. -/
theorem Sim.bound (H : Sim r s) {N : Nat} (hb : RB r N) : QB s N ∧ s.ended.length ≤ N := by
  have hu := H.und
  refine ⟨?_, by rw [H.ended]; exact hb.el⟩
  cases hr : r.und with
  | none =>
    rw [hr] at hu
    obtain ⟨_, h2, h3, h4⟩ := hu
    exact ⟨by rw [h2]; exact Nat.zero_le _, by rw [h3]; exact Nat.zero_le _, by rw [h4]; exact Nat.zero_le _, by rw [h4]; exact OutL.nil⟩
  | some u =>
    rw [hr] at hu
    have hub := hb.ub u hr
    exact ⟨by rw [hu.row]; exact hub.rl, by rw [hu.waits]; exact hub.wl, by rw [hu.outs]; exact hub.ol, by rw [hu.outs]; exact hub.ou⟩
end
end Go.Proofs.YtlabdbfmfejkaaaGreatDoor

namespace Go.Proofs.YtlabdbfmfejkaaaGreatDoor
open Go.RowKit

/-- The plain reacher beside both heaps and paints; X: blocks that stay. -/
def QS (w0 : World) (B yb hb rb pb qb : Nat) (h1 h2 : HSt) (p : PSt) (s : QSt) (w : World) (X : Nat → Prop) : Prop :=
  ∃ L2, QcN w B yb rb qb L2 s ∧ (∀ k, L2 k < 9 → ¬ X k) ∧ P4 w0 B w hb rb pb qb h1 h2 p p (fun k => X k ∨ L2 k < 9)
section
variable {w0 w w' : World} {B xb yb hb rb pb qb : Nat} {h h1 h2 h' : HSt} {p : PSt} {r : RSt} {s s' : QSt} {X Y T : Nat → Prop} {n : Nat} {args : Array Value} {e0 : Ending}
theorem QS.off (x : QS w0 B yb hb rb pb qb h1 h2 p s w X) (hY : ∀ k, Y k → X k) : QS w0 B yb hb rb pb qb h1 h2 p s w Y := by
  obtain ⟨L2, y, a, z⟩ := x
  exact ⟨L2, y, fun k e f => a k e (hY k f), z.off _ (fun k e => e.imp (hY k) id)⟩
theorem QS.fresh (x : QS w0 B yb hb rb pb qb h1 h2 p s w X) (hk : Kept w w' T) (hT : ∀ k, T k → k < w.heap.size → X k ∧ B ≤ k) : QS w0 B yb hb rb pb qb h1 h2 p s w' (fun k => X k ∨ (w.heap.size ≤ k ∧ k < w'.heap.size)) := by
  obtain ⟨L2, y, a, z⟩ := x
  have hlo := y.lo
  refine ⟨L2, y.kept hk (fun k e f => ?_), fun k e f => ?_, (z.fresh hk (fun k e hl => ⟨Or.inl (hT k e hl).1, (hT k e hl).2⟩)).off _ (fun k e => ?_)⟩
  · exact a k e (hT k f (hlo k e).2).1
  · rcases f with f | f
    · exact a k e f
    · have := (hlo k e).2; omega
  · rcases e with (e | e) | e
    · exact Or.inl (Or.inl e)
    · exact Or.inr e
    · exact Or.inl (Or.inr e)
theorem hos_qs (w0 : World) (B yb hb rb pb qb : Nat) (h : HSt) (p : PSt) (s : QSt) : Hos (QS w0 B yb hb rb pb qb h h p s) w0 B pb hb h p :=
  ⟨fun w X x => by
    obtain ⟨L2, y, a, z⟩ := x
    exact z.ph.off _ (fun k e => Or.inl e), fun _ _ _ _ x hk hT => x.fresh hk hT, fun _ _ _ x hY => x.off hY⟩
/-- The plain reacher's own call. -/
theorem QS.go (x : QS w0 B yb hb rb pb qb h h p s w X) (f : ∀ L2 sv mv kv vv Lp ra rc rt lv M, QcN w B yb rb qb L2 s → RQ w qb rb B sv mv kv vv p Lp → RX w rb ra rc rt lv h M → (∀ k, qBl qb sv mv kv vv k → ¬ L2 k < 9) → (∀ k ∈ rBl rb ra rc rt lv M, ¬ L2 k < 9) → Calls Tryz.prog n args w fun e w' => e = e0 ∧ QcGo w w' B yb rb qb L2 s') :
    Calls Tryz.prog n args w fun e w' => e = e0 ∧ QS w0 B yb hb rb pb qb h h p s' w' X ∧ Kept w w' (Its B X) := by
  obtain ⟨L2, y, a, z⟩ := x
  obtain ⟨F, G, P, Q, hp, ⟨ra, rc, rt, lv, M, hr, hGi⟩, pn, ⟨sv, mv, kv, vv, L, hq, hQi⟩, ap⟩ := z.ex
  have hlo := y.lo
  refine (f L2 sv mv kv vv L ra rc rt lv M y hq hr (fun k e g => (ap.aQ k ((hQi k).2 e)).2.2 (Or.inr g)) (fun k e g => (ap.aG k ((hGi k).2 e)).2.2 (Or.inr g))).mono ?_
  rintro e w' ⟨he, g⟩
  obtain ⟨L3, y3, a3⟩ := g.ex
  have hlo3 := y3.lo
  have hxs := z.xs
  refine ⟨he, ⟨L3, y3, fun k e fx => ?_, (z.fresh g.kept (fun k e hl => ⟨Or.inr e, (hlo k e).1⟩)).off _ (fun k e => ?_)⟩, g.kept.mono (fun k _ e => ⟨(hlo k e).1, a k e⟩)⟩
  · rcases a3 k e with b | b
    · exact a k b fx
    · have := hxs k (Or.inl fx)
      omega
  · rcases e with e | e
    · exact Or.inl (Or.inl e)
    · rcases a3 k e with b | b
      · exact Or.inl (Or.inr b)
      · exact Or.inr ⟨b, (hlo3 k e).2⟩
/-- Both steps. -/
theorem RcS.qstep (x : RcS (QS w0 B yb hb rb pb qb h h p s) w B xb hb pb r X) (nm : ∀ e ∈ p.me, namesB e.1 = true) (hR : ∀ a, ∀ x ∈ refsC h.cs a, rightI x = true) {n0 : Nat} (hqb : QB s n0) (hn : n0 ≤ 90000) (he : s.ended.length ≤ 100000) :
    Calls Tryz.prog 12 #[.pointer (some ⟨yb, 0, none⟩)] w fun e w' => e = .returned (.bool (s.step h p).1) ∧ RcS (QS w0 B yb hb rb pb qb h h p (s.step h p).2) w' B xb hb pb r X ∧ Kept w w' (Its B X) :=
  x.host (fun _ y => y.go (fun _ _ _ _ _ _ _ _ _ _ _ a b c d e => qstep_any a b c d e nm hR hqb hn he))
theorem QS.hgo (x : QS w0 B yb hb rb pb qb h1 h2 p s w X) (f : ∀ F, HP w hb F h1 → Calls Tryz.prog n args w fun e w' => e = e0 ∧ Goes w w' hb F h') : Calls Tryz.prog n args w fun e w' => e = e0 ∧ QS w0 B yb hb rb pb qb h' h2 p s w' X ∧ Kept w w' (Its B X) := by
  obtain ⟨L2, y, a, z⟩ := x
  refine (z.hgo f).mono ?_
  rintro e w' ⟨he, z', k⟩
  exact ⟨he, ⟨L2, y.kept k (fun j e g => g.2 (Or.inr e)), a, z'⟩, k.mono (fun j _ e => ⟨e.1, fun g => e.2 (Or.inl g)⟩)⟩
theorem QS.rgo (x : QS w0 B yb hb rb pb qb h1 h2 p s w X) (f : ∀ G, RP w rb G h2 → Calls Tryz.prog n args w fun e w' => e = e0 ∧ RGoes w w' rb G h') : Calls Tryz.prog n args w fun e w' => e = e0 ∧ QS w0 B yb hb rb pb qb h1 h' p s w' X ∧ Kept w w' (Its B X) := by
  obtain ⟨L2, y, a, z⟩ := x
  refine (z.rgo f).mono ?_
  rintro e w' ⟨he, z', k⟩
  exact ⟨he, ⟨L2, y.kept k (fun j e g => g.2 (Or.inr e)), a, z'⟩, k.mono (fun j _ e => ⟨e.1, fun g => e.2 (Or.inl g)⟩)⟩
theorem RcS.qbox (x : RcS (QS w0 B yb hb rb pb qb h1 h2 p s) w B xb hb pb r X) : ∃ rv ts, w.cell? ⟨yb, 2, none⟩ = some rv ∧ RL w B rv ts ∧ ts.map (·.1) = s.ended ∧ yb < w.heap.size := by
  obtain ⟨L, _, _, L2, ⟨rv, wv, tv, kv, ov, ts, y⟩, _⟩ := x.ex
  obtain ⟨_, _, c2, _⟩ := y.c
  exact ⟨rv, ts, c2, y.rl, y.ed, y.bl.2⟩
end
end Go.Proofs.YtlabdbfmfejkaaaGreatDoor

namespace Go.Proofs.YtlabdbfmfejkaaaGreatDoor
open Go.RowKit

/-- Of the rows that were told, what stays when they are written over: w behind the telling, wr now. -/
structure Scr (B : Nat) (w wr : World) (ao : Option Addr) (ts : List ((Nat × List (Int × Nat)) × Value)) : Prop where
  kept : Kept w wr (fun k => B ≤ k ∧ k < w.heap.size)
  ls : ∀ i (hi : i < ts.length), ∃ g l, ao = some ⟨g, 0, none⟩ ∧ B ≤ g ∧ g < w.heap.size ∧ Row wr g 65 l ∧ i * 2 < l.length ∧ l[i * 2 + 1]? = some ts[i].2
  os : ∀ i (hi : i < ts.length) k (_hk : k < ts[i].1.2.length), ∃ g cap l, ts[i].2 = .slice (some ⟨g, 0, none⟩) ts[i].1.2.length cap ∧ B ≤ g ∧ g < w.heap.size ∧ (∀ G, ao = some ⟨G, 0, none⟩ → G ≠ g) ∧ Row wr g 55 l ∧ k * 2 + 1 < l.length
section
variable {w wr : World} {B g : Nat} {ao : Option Addr} {ts : List ((Nat × List (Int × Nat)) × Value)}
theorem Scr.start {n c : Nat} (x : RL w B (.slice ao n c) ts) : Scr B w w ao ts := by
  refine ⟨Kept.refl _ _, fun i hi => ?_, fun i hi k hk => ?_⟩
  · obtain ⟨_, e1⟩ := endV_at ts i hi
    rcases x.ow.2 with ⟨_, h0⟩ | ⟨g, cap, cur, hv, hbg, hg, hn, hm, hs, ht⟩
    · omega
    · simp only [Value.slice.injEq] at hv
      obtain ⟨rfl, _, _⟩ := hv
      refine ⟨g, cur.toList, rfl, hbg, (Array.getElem?_eq_some_iff.1 hg).1, hg, ?_, ?_⟩
      · have : cur.toList.length = cap * 2 := by simpa using hs
        omega
      · rw [← ht, List.getElem?_take] at e1
        split at e1
        · exact e1
        · cases e1
  · have ho := x.sr _ (List.getElem_mem hi)
    have hne := x.ne _ (List.getElem_mem hi)
    rcases ho.2 with ⟨_, h0⟩ | ⟨g, cap, cur, hv, hbg, hg, hn, hm, hs, ht⟩
    · omega
    · refine ⟨g, cap, cur.toList, hv, hbg, (Array.getElem?_eq_some_iff.1 hg).1, fun G hG e => ?_, hg, ?_⟩
      · subst hG
        subst e
        exact hne G (by rw [hv]; rfl) rfl
      · have : cur.toList.length = cap * 2 := by simpa using hs
        omega
/-- A row's own cell. -/
theorem Scr.inn (x : Scr B w wr (some ⟨g, 0, none⟩) ts) (i : Nat) (hi : i < ts.length) (u : Value) : Scr B w (wr.setCell ⟨g, i * 2, none⟩ u) (some ⟨g, 0, none⟩) ts := by
  obtain ⟨G, _, hG, hB, hlt, _⟩ := x.ls i hi
  cases hG
  refine ⟨x.kept.put _ _ ⟨hB, hlt⟩, fun j hj => ?_, fun j hj k hk => ?_⟩
  · obtain ⟨G, l, hG, h1, h2, h3, h4, h5⟩ := x.ls j hj
    cases hG
    refine ⟨_, _, rfl, h1, h2, h3.set (i * 2) u, by simpa using h4, ?_⟩
    rw [List.getElem?_set_ne (by omega)]
    exact h5
  · obtain ⟨b, cap, l, h1, h2, h3, h4, h5, h6⟩ := x.os j hj k hk
    exact ⟨b, cap, l, h1, h2, h3, h4, h5.kept (Kept.setCell _ _ _) (fun e => h4 _ rfl e.symm), h6⟩
/-- A cell of a row's Outs. -/
theorem Scr.out {b cap n : Nat} (x : Scr B w wr ao ts) (i : Nat) (hi : i < ts.length) (k : Nat) (hk : k < ts[i].1.2.length) (hv : ts[i].2 = .slice (some ⟨b, 0, none⟩) n cap) (j : Nat) (u : Value) : Scr B w (wr.setCell ⟨b, j, none⟩ u) ao ts := by
  obtain ⟨b', cap', l, h1, h2, h3, h4, h5, h6⟩ := x.os i hi k hk
  rw [hv] at h1
  cases h1
  refine ⟨x.kept.put _ _ ⟨h2, h3⟩, fun i' hi' => ?_, fun i' hi' k' hk' => ?_⟩
  · obtain ⟨G, l, hG, g1, g2, g3, g4, g5⟩ := x.ls i' hi'
    exact ⟨G, l, hG, g1, g2, g3.kept (Kept.setCell _ _ _) (fun e => h4 _ hG e), g4, g5⟩
  · obtain ⟨b2, cap2, l2, g1, g2, g3, g4, g5, g6⟩ := x.os i' hi' k' hk'
    by_cases e : b2 = b
    · subst e
      exact ⟨_, _, _, g1, g2, g3, g4, g5.set j u, by simpa using g6⟩
    · exact ⟨_, _, _, g1, g2, g3, g4, g5.kept (Kept.setCell _ _ _) (fun h => e h), g6⟩
end
end Go.Proofs.YtlabdbfmfejkaaaGreatDoor
