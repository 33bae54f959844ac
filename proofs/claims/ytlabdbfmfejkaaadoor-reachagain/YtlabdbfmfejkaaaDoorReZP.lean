import Derived.Test.YtlabdbfmfejkaaaDoorReYP
import Derived.Test.YtlabdbfmfejkaaaDoorReMP
import Derived.Test.YtlabdbfmfejkaaaDoorReLwP
import Derived.Test.YtlabdbfmfejkaaaDoorPick
/- A reacher beside both heaps and paints; ReachEnds. -/
/- Rows that were told and stay; a reacher begun anew. -/
namespace Go.Proofs.YtlabdbfmfejkaaaDoor
open Go.RowKit

section
variable {w0 w w' : World} {B hb rb pb qb : Nat} {h1 h2 h' : HSt} {p1 p2 p' : PSt} {X : Nat → Prop}
theorem P4.ph (x : P4 w0 B w hb rb pb qb h1 h2 p1 p2 X) : PH w0 B w pb hb h1 p1 X := by
  obtain ⟨F, G, P, Q, hp, rp, pn, qn, ap⟩ := x.ex
  exact ⟨⟨F, P, hp, pn, fun k hk => ⟨(ap.aF k hk).1, (ap.aF k hk).2.2, ap.fp k hk⟩, fun k hk => (ap.aP k hk).2.2⟩, x.bel, x.le, x.xs, x.pos⟩
theorem P4.fresh (x : P4 w0 B w hb rb pb qb h1 h2 p1 p2 X) {S : Nat → Prop} (hk : Kept w w' S) (hS : ∀ k, S k → k < w.heap.size → X k ∧ B ≤ k) : P4 w0 B w' hb rb pb qb h1 h2 p1 p2 (fun k => X k ∨ (w.heap.size ≤ k ∧ k < w'.heap.size)) := by
  have hk' : Kept w w' (fun k => X k ∧ B ≤ k) := hk.mono (fun k hl e => hS k e hl)
  have hs := hk.size
  obtain ⟨F, G, P, Q, hp, rp, pn, qn, ap⟩ := x.ex
  have hpos := x.pos
  have y := x.other hk' (fun k e => e)
  refine ⟨⟨F, G, P, Q, hp.kept hk' (fun e => by have := e.2; omega) (fun k a b => (ap.aF k a).2.2 b.1), rp.kept hk' (fun k a b => (ap.aG k a).2.2 b.1), pn.kept hk' (fun k a b => (ap.aP k a).2.2 b.1), qn.kept hk' (fun k a b => (ap.aQ k a).2.2 b.1), (ap.turn (Y := fun k => X k ∨ (w.heap.size ≤ k ∧ k < w'.heap.size)) (fun k _ hl e => ?_)).grow hs⟩, y.bel, y.le, fun k e => ?_, x.pos⟩
  · rcases e with e | e
    · exact e
    · omega
  · rcases e with e | e
    · exact y.xs k e
    · exact e.2
theorem hos_p4 (w0 : World) (B hb rb pb qb : Nat) (h1 h2 : HSt) (p1 p2 : PSt) : Hos (fun w X => P4 w0 B w hb rb pb qb h1 h2 p1 p2 X) w0 B pb hb h1 p1 :=
  ⟨fun _ _ x => x.ph, fun _ _ _ _ x hk hT => x.fresh hk hT, fun _ _ Y x hY => x.off Y hY⟩
end
theorem sq_bound {n : Nat} (hn : n ≤ 40) : n * (n + 2) ≤ 1680 ∧ n * (n + 2) + 1 = (n + 1) * (n + 1) ∧ n * (n + 2) ≤ (n + 1) * (n + 2) := by
  refine ⟨Nat.le_trans (Nat.mul_le_mul hn (by omega : n + 2 ≤ 42)) (by omega), ?_, Nat.mul_le_mul_right _ (by omega)⟩
  rw [Nat.add_mul, Nat.mul_add, Nat.mul_add]
  omega
theorem wrap_midC (x : Nat) (h1 : x < 1000000) : wrap64 (x : Int) = (x : Int) ∧ IntKind.i64.wrap (x : Int) = (x : Int) := by
  refine ⟨by rw [wrap64]; omega, by rw [IntKind.wrap_i64]; omega⟩
theorem m2_inC {g : Gr} {n : Nat} {h : HSt} (m : M2 g n n 0 h) (hok : h.Ok) : ∀ k o, getC h.cs k = some o → 1 ≤ k ∧ k ≤ n := by
  intro k o hk
  obtain ⟨ho, hs⟩ := getC_mem hk
  have hle := hok.le o ho
  rw [hs, m.last] at hle
  exact hle
theorem ends_arith {k l E L M : Nat} (h : k + l ≤ E) (H : E ≤ L ∧ E + 1 = M ∧ E ≤ 1680) : k ≤ E ∧ 7 * k + 7 ≤ 900000 ∧ (k : Int) ≤ (L : Int) ∧ (k : Int) ≤ (M : Int) := by
  omega
theorem ends_more {k l l' E : Nat} (h : k + l ≤ E) (h' : l' < l) : k + 1 + l' ≤ E := by omega
set_option maxRecDepth 20000 in
set_option maxHeartbeats 2000000 in
theorem reachEnds_any {w : World} {vr vo vi vl : Value} {g : Gr} {xs : List Way} (x : GI w vr vo vi g) (hT : TB w) (hl : WS w vl 5 cWay xs) (hR : ∀ y ∈ xs, y.Ok) :
    Calls Tryd.prog 6 #[.agg #[vr, vo, vi], vl] w fun e w' => e = .returned (.bool true) ∧ Below w.heap.size w w' := by
  obtain ⟨a1, c1, a2, c2, a3, c3, rfl, rfl, rfl⟩ := x.shape
  obtain ⟨lo, lc, rfl, _, _⟩ := hl.slice
  have hA : ∀ o, Below w.heap.size w (w.alloc o) := fun o => bel_alloc w o
  have hHp := fun o => heaps_at (x.below (hA o)) (hT.below (hA o)) 40 (by omega)
  have HL : Hid _ := hidden hl
  have HRW : Hid _ := hidden hR
  clear x hl hR
  go_enter Tryd.func6, Tryd.ntmps6
  go_wp2_with fail
  refine (hHp _).mono ?_
  rintro e w1 ⟨hb, rb, h, rfl, y1, m1⟩
  obtain ⟨wA, hwA⟩ : ∃ z, z = w.alloc (.cells #[.slice a1 g.refs.length c1, .slice a2 g.out.length c2, .slice a3 g.inn.length c3] 26) := ⟨_, rfl⟩
  rw [← hwA] at y1
  have hbA : Below w.heap.size w wA := by rw [hwA]; exact hA _
  have hTA : TB wA := hT.below hbA
  have HWL : Hid _ := hidden (HL.out.below hbA)
  clear hHp hwA hA hT
  have hok := y1.ok
  obtain ⟨N, hN⟩ : ∃ N, N = min g.refs.length 40 := ⟨_, rfl⟩
  rw [← hN] at m1
  have hla : h.last = N := m1.last
  have hN40 : N ≤ 40 := by omega
  have HIN : Hid (∀ k o, getC h.cs k = some o → 1 ≤ k ∧ k ≤ N) := m2_inC m1 hok
  have HRF : Hid (∀ s, ∀ x ∈ refsC h.cs s, x.2 < 18446744073709551616) := m2_u64 m1 hok (by omega)
  have HLN : Hid (h.cs.length ≤ N) := Nat.le_of_eq m1.len
  have HOK : Hid h.Ok := hok
  have HLA : Hid (h.last = N) := hla
  clear m1 hN hok
  go_wp2_with fail
  refine (reknown_any _ (hTA.below (y1.bel.mono (Nat.le_refl _)))).mono ?_
  rintro e w2 ⟨rfl, b2⟩
  have hPt := painted_any (y1.read b2) HWL.out HRW.out (by omega)
  clear y1 b2 hTA hla HWL HRW HL
  go_wp2_with fail
  refine hPt.mono ?_
  rintro e w3 ⟨pb, qb, p, rfl, z3, K3⟩
  have H := hos_p4 wA wA.heap.size hb rb pb qb h h p p
  have hNw := H.rnew z3
  have hrc := z3.last
  rw [HLA.out] at hrc
  have HNM : Hid (∀ e ∈ p.me, namesB e.1 = true) := K3.nm
  clear hPt z3 K3
  go_wp2_with fail
  refine hNw.mono ?_
  rintro e w4 ⟨rfl, x4, b4⟩
  generalize w3.heap.size = xb at *
  have hBe := x4.begin H 0
  clear hNw x4 b4 hrc
  go_wp2_with fail
  refine hBe.mono ?_
  rintro e w5 ⟨rfl, x5, k5⟩
  have hrc := (x5.out H).last
  rw [HLA.out] at hrc
  have hrl := cell_lt hrc
  have HX5 : Hid _ := hidden x5
  obtain ⟨s1, s2, s3⟩ := sq_bound hN40
  obtain ⟨E, hE⟩ : ∃ E, E = N * (N + 2) := ⟨_, rfl⟩
  obtain ⟨D1, hD1⟩ : ∃ D, D = N + 1 := ⟨_, rfl⟩
  obtain ⟨D2, hD2⟩ : ∃ D, D = N + 2 := ⟨_, rfl⟩
  obtain ⟨L, hLe⟩ : ∃ L, L = D1 * D2 := ⟨_, rfl⟩
  obtain ⟨M, hMe⟩ : ∃ M, M = D1 * D1 := ⟨_, rfl⟩
  have a1' : (N : Int) + 1 = (D1 : Int) := by omega
  have a2' : (N : Int) + 2 = (D2 : Int) := by omega
  have a3' : (D1 : Int) * (D2 : Int) = (L : Int) := by rw [hLe]; simp
  have a4' : (D1 : Int) * (D1 : Int) = (M : Int) := by rw [hMe]; simp
  rw [← hE, ← hD1] at s2
  rw [← hE, ← hD1, ← hD2] at s3
  rw [← hMe] at s2
  rw [← hLe] at s3
  rw [← hE] at s1
  have HS : Hid (E ≤ L ∧ E + 1 = M ∧ E ≤ 1680) := ⟨s3, s2, s1⟩
  have HT0 : Hid (leftC N h (RSt.new 0) ≤ E) := by
    have := left_newC HLN.out 0
    rw [hE]
    exact this
  have hL2 : L ≤ 41 * 42 := by rw [hLe]; exact Nat.mul_le_mul (by omega) (by omega)
  have hM2 : M ≤ 41 * 41 := by rw [hMe]; exact Nat.mul_le_mul (by omega) (by omega)
  have hD1s : D1 ≤ 41 := by omega
  have hD2s : D2 ≤ 42 := by omega
  have hNi : (N : Int) ≤ 40 := by omega
  clear hBe x5 k5 s1 s2 s3 hE hD1 hD2 hLe hMe
  have q1 : D1 < 1000000 := by omega
  have q2 : D2 < 1000000 := by omega
  have q3 : L < 1000000 := by omega
  have q4 : M < 1000000 := by omega
  have q5 : N < 1000000 := by omega
  obtain ⟨b1, b2⟩ := wrap_midC D1 q1
  obtain ⟨b3, b4⟩ := wrap_midC D2 q2
  obtain ⟨b5, b6⟩ := wrap_midC L q3
  obtain ⟨b7, b8⟩ := wrap_midC M q4
  obtain ⟨b9, b10⟩ := wrap_midC N q5
  clear hL2 hM2 hD1s hD2s q1 q2 q3 q4 q5
  go_wp2
  go_loopw [12] (fun t wr => ∃ (k : Nat) (r : RSt), t = .int .i64 (k : Int) ∧ RcS (fun w X => P4 wA wA.heap.size w hb rb pb qb h h p p X) wr wA.heap.size xb hb pb r (fun _ => False) ∧ RI r N ∧ RB r (7 * k) ∧ k + leftC N h r ≤ E) (fun t _ => E + 1 - (intOf t).toNat)
  case atStart => exact ⟨0, RSt.new 0, rfl, HX5.out, ri_new 0 N, RB.new 0, by have := HT0.out; omega⟩
  case round =>
    clear HX5 hrc hrl
    obtain ⟨k, r, rfl, x, ri, rb', hk⟩ := hrel
    obtain ⟨hke, hk7, hkl, hkm⟩ := ends_arith hk HS.out
    have hS := x.step H HNM.out HRF.out rb' (Nat.le_trans (Nat.le_add_right _ 7) hk7)
    have hq := step_leftC (p := p) HIN.out HOK.out ri
    have hbs := rb'.step HOK.out HNM.out
    generalize r.step h p = R at *
    obtain ⟨b, r2⟩ := R
    simp only at hS hq hbs
    cases b with
    | true =>
      have HM : Hid (k + 1 + leftC N h r2 ≤ E) := by
        exact ends_more hk (hq.2.1 rfl)
      have HRI : Hid _ := hidden hq.1
      have HRB : Hid (RB r2 (7 * (k + 1))) := hbs.mono (Nat.le_of_eq (by rw [Nat.mul_add]))
      have HKE : Hid (k ≤ E) := hke
      clear x ri rb' hk hke hq hbs
      go_wp2_with fail
      refine hS.mono ?_
      rintro e w6 ⟨rfl, x6, k6⟩
      have HX6 : Hid _ := hidden x6
      clear hS x6 k6
      go_wp2
      go_roundw
      case rel => exact ⟨k + 1, r2, by go_num, HX6.out, HRI.out, HRB.out, HM.out⟩
      case measure => have := HKE.out; simp [intOf]; omega
    | false =>
      obtain ⟨e1, e2, e3⟩ := hq.2.2 rfl
      subst e1
      have HRB : Hid _ := hidden hbs
      have HRI : Hid _ := hidden ri
      have HE23 : Hid (r2.und = none ∧ aboveC h.cs r2.place = none) := ⟨e2, e3⟩
      have HK7 : Hid (7 * k + 7 ≤ 900000) := by
        exact hk7
      clear x ri rb' hk hke hq hbs e2 e3
      go_wp2_with fail
      refine hS.mono ?_
      rintro e w6 ⟨rfl, x6, k6⟩
      have hS2 := x6.step H HNM.out HRF.out HRB.out HK7.out
      have hs2 : (r2.step h p).1 = false := by
        unfold RSt.step followR
        rw [HE23.out.1]
        simp only
        rw [HE23.out.2]
        rfl
      rw [hs2] at hS2
      clear hS x6 k6 hs2
      go_wp2_with fail
      refine hS2.mono ?_
      rintro e w7 ⟨rfl, x7, k7⟩
      have HB : Hid _ := hidden (hbA.trans (((x7.out H).bel).mono hbA.size))
      clear hS2 x7 k7
      go_wp2
      go_ret
      exact ⟨rfl, HB.out⟩
end Go.Proofs.YtlabdbfmfejkaaaDoor

namespace Go.Proofs.YtlabdbfmfejkaaaDoor
open Go.RowKit

/-- Rows that were told, between two blocks, and nothing has written there since. -/
structure RLq (w : World) (lo hi : Nat) (v : Value) (l : List (Nat × List (Int × Nat))) : Prop where
  ex : ∃ w1 ts, RL w1 lo v ts ∧ ts.map (·.1) = l ∧ w1.heap.size = hi ∧ Kept w1 w (fun k => ¬ (lo ≤ k ∧ k < hi))
theorem RLq.of {w : World} {lo : Nat} {v : Value} {ts : List ((Nat × List (Int × Nat)) × Value)} (x : RL w lo v ts) : RLq w lo w.heap.size v (ts.map (·.1)) := ⟨w, ts, x, rfl, rfl, Kept.refl _ _⟩
theorem RLq.kept {w w' : World} {lo hi : Nat} {v : Value} {l : List (Nat × List (Int × Nat))} {S : Nat → Prop} (x : RLq w lo hi v l) (hk : Kept w w' S) (hs : ∀ k, lo ≤ k → k < hi → ¬ S k) : RLq w' lo hi v l := by
  obtain ⟨w1, ts, a, b, c, d⟩ := x.ex
  exact ⟨w1, ts, a, b, c, d.trans hk (fun i _ e f => hs i f.1 f.2 e)⟩
theorem RLq.rl {w : World} {lo hi : Nat} {v : Value} {l : List (Nat × List (Int × Nat))} (x : RLq w lo hi v l) : ∃ ts, RL w lo v ts ∧ ts.map (·.1) = l := by
  obtain ⟨w1, ts, a, b, c, d⟩ := x.ex
  exact ⟨ts, a.kept d (fun k h1 h2 e => e ⟨h1, by omega⟩), b⟩
theorem RL.at2 {w : World} {B : Nat} {v : Value} {ts : List ((Nat × List (Int × Nat)) × Value)} {l : List (Nat × List (Int × Nat))} (h : RL w B v ts) (e : ts.map (·.1) = l) : ∃ ao c, v = .slice ao l.length c ∧ l.length ≤ c ∧ c ≤ maxLen ∧ ∀ k (hk : k < l.length), ∃ g oa oc, ao = some ⟨g, 0, none⟩ ∧ g < w.heap.size ∧ w.cell? ⟨g, k * 2, none⟩ = some (.int .u64 (l[k].1 : Int)) ∧ w.cell? ⟨g, k * 2 + 1, none⟩ = some (.slice oa l[k].2.length oc) := by
  subst e
  obtain ⟨ao, c, rfl, h1, h2, h3⟩ := h.at
  refine ⟨ao, c, by rw [List.length_map], by rw [List.length_map]; exact h1, h2, fun k hk => ?_⟩
  have hk' : k < ts.length := by simpa using hk
  obtain ⟨g, rfl, _, h5, h6, h7⟩ := h3 k hk'
  obtain ⟨oa, oc, ho, _⟩ := (h.sr _ (List.getElem_mem hk')).slice
  rw [ho] at h7
  refine ⟨g, oa, oc, rfl, h5, ?_, ?_⟩
  · rw [List.getElem_map]; exact h6
  · rw [List.getElem_map]; exact h7
theorem RLq.le {w : World} {lo hi : Nat} {v : Value} {l : List (Nat × List (Int × Nat))} (x : RLq w lo hi v l) : hi ≤ w.heap.size := by
  obtain ⟨w1, ts, a, b, c, d⟩ := x.ex
  have := d.size
  omega
theorem step_sus (h : HSt) (p : PSt) (r : RSt) : (r.step h p).2.sus = r.sus := by
  have he : r.endS.sus = r.sus := by
    unfold RSt.endS
    cases r.und with
    | none => rfl
    | some u => rfl
  have hm : ∀ o, (moveS h p r o).sus = r.sus := fun o => by
    unfold moveS
    split
    · exact he
    · rfl
  unfold RSt.step followR
  cases hu : r.und with
  | none =>
    simp only
    cases ha : aboveC h.cs r.place with
    | some o => exact hm o
    | none => exact he
  | some u =>
    simp only
    cases hg : u.waits.getLast? with
    | none =>
      simp only
      cases ha : aboveC h.cs r.place with
      | some o => exact hm o
      | none => exact he
    | some s => rfl
/-- What a loop of steps keeps. -/
structure Stp (h : HSt) (p : PSt) (t : Int) (N E k : Nat) (r : RSt) : Prop where
  ri : RI r N
  rb : RB r (7 * k)
  rj : RJ h p r
  su : r.sus = t
  le : k + leftC N h r ≤ E
theorem Stp.new {h : HSt} {p : PSt} {N : Nat} (t : Int) (hl : h.cs.length ≤ N) (h0 : ∀ o ∈ h.cs, 1 ≤ o.s) : Stp h p t N (N * (N + 2)) 0 (RSt.new t) :=
  ⟨ri_new t N, RB.new t, RJ.new t h0, rfl, by have := left_newC hl t; omega⟩
theorem Stp.step {h : HSt} {p : PSt} {t : Int} {N E k : Nat} {r : RSt} (H : Stp h p t N E k r) (ok : h.Ok) (nm : ∀ e ∈ p.me, namesB e.1 = true) (hin : ∀ k o, getC h.cs k = some o → 1 ≤ k ∧ k ≤ N) (hs : (r.step h p).1 = true) : Stp h p t N E (k + 1) (r.step h p).2 := by
  obtain ⟨q1, q2, _⟩ := step_leftC (p := p) hin ok H.ri
  exact ⟨q1, (H.rb.step ok nm).mono (by omega), H.rj.step ok nm, (step_sus h p r).trans H.su, ends_more H.le (q2 hs)⟩
theorem Stp.stop {h : HSt} {p : PSt} {t : Int} {N E k : Nat} {r : RSt} (H : Stp h p t N E k r) (ok : h.Ok) (hin : ∀ k o, getC h.cs k = some o → 1 ≤ k ∧ k ≤ N) (hs : (r.step h p).1 = false) : (r.step h p).2 = r ∧ Ends h p t r.ended := by
  obtain ⟨_, _, q3⟩ := step_leftC (p := p) hin ok H.ri
  obtain ⟨a, b, c⟩ := q3 hs
  refine ⟨a, ?_⟩
  rw [← H.su]
  exact H.rj.ends b c
theorem Stp.lt {h : HSt} {p : PSt} {t : Int} {N E k : Nat} {r : RSt} (H : Stp h p t N E k r) : k ≤ E := by have := H.le; omega
theorem m2_one {h : HSt} (ok : h.Ok) : ∀ o ∈ h.cs, 1 ≤ o.s := fun o ho => (ok.le o ho).1
/-- The rows of the lesser bound, from at on, have a row for each of the other's, from i on. -/
def AtOk (l m : List (Nat × List (Int × Nat))) (at_ i : Nat) : Prop := ∀ j (_ : i ≤ j) (h2 : j < m.length), ∃ q, ∃ hq : q < l.length, at_ ≤ q ∧ l[q].1 = m[j].1 ∧ m[j].2.length ≤ l[q].2.length
theorem AtOk.new {l m : List (Nat × List (Int × Nat))} (h : ∀ e ∈ m, ∃ e' ∈ l, e'.1 = e.1 ∧ e.2.length ≤ e'.2.length) : AtOk l m 0 0 := fun j _ h2 => by
  obtain ⟨e', he, h3, h4⟩ := h m[j] (List.getElem_mem h2)
  obtain ⟨q, hq, rfl⟩ := List.getElem_of_mem he
  exact ⟨q, hq, Nat.zero_le _, h3, h4⟩
theorem AtOk.lt {l m : List (Nat × List (Int × Nat))} {a i : Nat} (h : AtOk l m a i) (hi : i < m.length) : a < l.length := by
  obtain ⟨q, hq, h1, _⟩ := h i (Nat.le_refl _) hi
  omega
theorem rise_lt {l : List (Nat × List (Int × Nat))} (h : (l.map (·.1)).Pairwise (· < ·)) {a b : Nat} (ha : a < l.length) (hb : b < l.length) (hab : a < b) : l[a].1 < l[b].1 := by
  rw [List.pairwise_map] at h
  exact List.pairwise_iff_getElem.1 h a b ha hb hab
theorem AtOk.next {l m : List (Nat × List (Int × Nat))} {a i : Nat} (h : AtOk l m a i) (hl : (l.map (·.1)).Pairwise (· < ·)) (hm : (m.map (·.1)).Pairwise (· < ·)) (hi : i < m.length) (ha : a < l.length) (hne : l[a].1 ≠ m[i].1) : AtOk l m (a + 1) i := fun j h1 h2 => by
  obtain ⟨q, hq, h3, h4, h5⟩ := h j h1 h2
  obtain ⟨q', hq', h3', h4', _⟩ := h i (Nat.le_refl _) hi
  refine ⟨q, hq, ?_, h4, h5⟩
  rcases Nat.lt_or_ge a q with h6 | h6
  · omega
  · have e : q = a := by omega
    subst e
    rcases Nat.lt_or_ge q q' with h7 | h7
    · have h8 := rise_lt hl hq hq' h7
      rcases Nat.lt_or_ge i j with h9 | h9
      · have := rise_lt hm hi h2 h9
        omega
      · have e : i = j := by omega
        subst e
        omega
    · have e : q' = q := by omega
      subst e
      exact absurd h4' hne
theorem AtOk.here {l m : List (Nat × List (Int × Nat))} {a i : Nat} (h : AtOk l m a i) (hl : (l.map (·.1)).Pairwise (· < ·)) (hi : i < m.length) (ha : a < l.length) (he : l[a].1 = m[i].1) : m[i].2.length ≤ l[a].2.length := by
  obtain ⟨q, hq, h3, h4, h5⟩ := h i (Nat.le_refl _) hi
  rcases Nat.lt_or_ge a q with h6 | h6
  · have := rise_lt hl ha hq h6
    omega
  · have e : q = a := by omega
    subst e
    exact h5
theorem AtOk.up {l m : List (Nat × List (Int × Nat))} {a i : Nat} (h : AtOk l m a i) : AtOk l m a (i + 1) := fun j h1 h2 => h j (by omega) h2
/-- The three that it got: so many of them. -/
structure Gt (h : HSt) (p : PSt) (bd : Nat → Int) (w : World) (gb : Nat) (X : Nat → Prop) (i : Nat) (vs : Nat → Value) : Prop where
  row : Row w gb 77 [if 0 < i then vs 0 else .slice none 0 0, if 1 < i then vs 1 else .slice none 0 0, if 2 < i then vs 2 else .slice none 0 0]
  it : ∀ j, j < i → ∃ l lo hi, RLq w lo hi (vs j) l ∧ gb < lo ∧ (∀ k, lo ≤ k → k < hi → X k) ∧ Ends h p (bd j) l
section
variable {h : HSt} {p : PSt} {bd : Nat → Int} {w w' : World} {gb : Nat} {X : Nat → Prop} {i : Nat} {vs : Nat → Value}
theorem Gt.kept {S : Nat → Prop} (x : Gt h p bd w gb X i vs) (hk : Kept w w' S) (hg : ¬ S gb) (hs : ∀ k, X k → ¬ S k) : Gt h p bd w' gb X i vs :=
  ⟨x.row.kept hk hg, fun j hj => by
    obtain ⟨l, lo, hi, a, b, c, d⟩ := x.it j hj
    exact ⟨l, lo, hi, a.kept hk (fun k h1 h2 => hs k (c k h1 h2)), b, c, d⟩⟩
theorem Gt.mono {Y : Nat → Prop} (x : Gt h p bd w gb X i vs) (hs : ∀ k, X k → Y k) : Gt h p bd w gb Y i vs :=
  ⟨x.row, fun j hj => by
    obtain ⟨l, lo, hi, a, b, c, d⟩ := x.it j hj
    exact ⟨l, lo, hi, a, b, fun k h1 h2 => hs k (c k h1 h2), d⟩⟩
theorem Gt.new (hr : Row w gb 77 [.slice none 0 0, .slice none 0 0, .slice none 0 0]) : Gt h p bd w gb X 0 vs := ⟨hr, fun _ hj => absurd hj (Nat.not_lt_zero _)⟩
theorem Gt.put {w1 : World} {v : Value} {ts : List ((Nat × List (Int × Nat)) × Value)} (x : Gt h p bd w gb X i vs) (hi : i < 3) (hB : Below w.heap.size w w1) (hr : RL w1 w.heap.size v ts) (he : Ends h p (bd i) (ts.map (·.1))) :
    Gt h p bd (w1.setCell ⟨gb, i, none⟩ v) gb (fun k => X k ∨ (w.heap.size ≤ k ∧ k < w1.heap.size)) (i + 1) (fun j => if j = i then v else vs j) := by
  have hgl := x.row.lt
  have hk := Kept.setCell w1 ⟨gb, i, none⟩ v
  refine ⟨?_, fun j hj => ?_⟩
  · have h1 := (x.row.below hB).set i v
    have e : ∀ (a b c : Value), ([a, b, c] : List Value).set i v = [if 0 = i then v else a, if 1 = i then v else b, if 2 = i then v else c] := fun a b c => by
      rcases i with _ | _ | _ | i
      · rfl
      · rfl
      · rfl
      · omega
    rw [e] at h1
    have e2 : ∀ k, k ≤ 2 → (if k = i then v else if k < i then vs k else Value.slice none 0 0) = (if k < i + 1 then (if k = i then v else vs k) else .slice none 0 0) := fun k _ => by
      by_cases a : k = i
      · rw [if_pos a, if_pos (by omega), if_pos a]
      · rw [if_neg a]
        by_cases b : k < i
        · rw [if_pos b, if_pos (by omega), if_neg a]
        · rw [if_neg b, if_neg (by omega)]
    rw [e2 0 (by omega), e2 1 (by omega), e2 2 (by omega)] at h1
    exact h1
  · by_cases e : j = i
    · subst e
      refine ⟨ts.map (·.1), w.heap.size, w1.heap.size, ?_, hgl, fun k h1 h2 => Or.inr ⟨h1, h2⟩, he⟩
      simp only [if_true]
      exact (RLq.of hr).kept hk (fun k h1 _ e => by simp only at e; omega)
    · simp only [if_neg e]
      obtain ⟨l, lo, hi', a, b, c, d⟩ := x.it j (by omega)
      refine ⟨l, lo, hi', (a.kept (kept_of_below hB (fun _ => False)) (fun _ _ _ => id)).kept hk (fun k h1 _ e => by simp only at e; omega), b, fun k h1 h2 => Or.inl (c k h1 h2), d⟩
end
end Go.Proofs.YtlabdbfmfejkaaaDoor
