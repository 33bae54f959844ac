import Derived.Test.YtlabdbfmfejkaaaGreatDoorPbT
import Derived.Deep.CutRange
import Derived.Deep.CutBlock
import Derived.BigQuiet
import Derived.Test.YtlabdbfmfejkaaaGreatDoorPbDP
/- The plain Shade of any ID; Scan. -/
/- The law's ids; lists of Outs that are the same. -/
/- Lists of Outs that are the same. -/
/- The program's Blacken. -/
namespace Go.Proofs.YtlabdbfmfejkaaaGreatDoor
open Go.RowKit

/-- What every paint keeps. -/
structure PI (p : PSt) (k : Nat) : Prop where
  nd : (p.ma.map (·.1)).Nodup
  nm : ∀ e ∈ p.me, namesB e.1 = true
  ml : p.ma.length ≤ k
  el : p.me.length ≤ k
theorem push_ma (p : PSt) (s : Nat) : (p.push s).ma = p.ma ∧ (p.push s).me = p.me := by
  unfold PSt.push
  split <;> exact ⟨rfl, rfl⟩
theorem PI.push {p : PSt} {k : Nat} (H : PI p k) (s : Nat) : PI (p.push s) k := by
  obtain ⟨h1, h2⟩ := push_ma p s
  exact ⟨by rw [h1]; exact H.nd, by rw [h2]; exact H.nm, by rw [h1]; exact H.ml, by rw [h2]; exact H.el⟩
theorem PI.mono {p : PSt} {k k' : Nat} (H : PI p k) (h : k ≤ k') : PI p k' := ⟨H.nd, H.nm, Nat.le_trans H.ml h, Nat.le_trans H.el h⟩
theorem PI.putM {p : PSt} {k : Nat} (H : PI p k) (s : Nat) (m : Nat × Bool) : PI { p with ma := putA p.ma s m } (k + 1) :=
  ⟨putA_nodup H.nd s m, H.nm, by have := (putA_len p.ma s m).1; have := H.ml; show (putA p.ma s m).length ≤ k + 1; omega, by have := H.el; show p.me.length ≤ k + 1; omega⟩
theorem PI.putT {p : PSt} {k : Nat} (H : PI p k) (x : Int × Nat) (hx : namesB x = true) (r : Nat) : PI { p with me := putA p.me x r } (k + 1) := by
  refine ⟨H.nd, fun e he => ?_, by have := H.ml; show p.ma.length ≤ k + 1; omega, by have := (putA_len p.me x r).1; have := H.el; show (putA p.me x r).length ≤ k + 1; omega⟩
  have he' : e ∈ putA p.me x r := he
  unfold putA at he'
  split at he'
  · obtain ⟨q, hq, rfl⟩ := List.mem_map.1 he'
    split
    · exact hx
    · exact H.nm q hq
  · rcases List.mem_append.1 he' with h | h
    · exact H.nm e h
    · rw [List.mem_singleton] at h
      subst h
      exact hx
theorem PI.shade {p : PSt} {k : Nat} (H : PI p k) (h : HSt) (x : Int × Nat) (r : Int) : PI (p.shade h x r) (k + 1) := by
  have H1 := H.mono (Nat.le_succ k)
  unfold PSt.shade
  split
  · next hx =>
    split
    · unfold PSt.own
      split
      · split
        · exact (H.putM _ _).push _
        · split
          · exact H1
          · split
            · exact H.putM _ _
            · exact (H.putM _ _).push _
      · exact H1
    · unfold PSt.meet
      split
      · exact H.putT x hx _
      · split
        · exact H.putT x hx _
        · exact H1
  · exact H1
theorem PI.all {p : PSt} {k : Nat} (H : PI p k) (h : HSt) (l : List (Int × Nat)) (r : Nat) : PI (PSt.all h p l r) (k + l.length) := by
  unfold PSt.all
  induction l generalizing p k with
  | nil => exact H
  | cons x l ih =>
    have := ih (H.shade h x (r : Int))
    rw [List.foldl_cons, List.length_cons]
    exact this.mono (by omega)
theorem msV_grey (l : List (Nat × (Nat × Bool))) (i s : Nat) (m : Nat × Bool) (g : Bool) (hi : i < l.length) (hs : l[i] = (s, m)) : msV (l.set i (s, (m.1, g))) = (msV l).set (i * 3 + 2) (.bool g) := by
  induction l generalizing i with
  | nil => simp at hi
  | cons x l ih =>
    cases i with
    | zero =>
      simp only [List.getElem_cons_zero] at hs
      subst hs
      rfl
    | succ i =>
      have h := ih i (by simpa using hi) (by simpa using hs)
      have e2 : (i + 1) * 3 + 2 = i * 3 + 2 + 3 := by omega
      rw [e2]
      show m3V x ++ msV (l.set i (s, (m.1, g))) = (m3V x ++ msV l).set (i * 3 + 2 + 3) _
      rw [h]
      rfl
section
variable {w w' : World} {qb rb base ra rc rt : Nat} {sv mv kv vv lv : Value} {p : PSt} {L : List ((Int × Nat) × Nat)} {h : HSt} {M : List Pl} {G : Nat → Prop} {k : Nat}
/-- One mark is grey no more. -/
theorem RQ.grey (x : RQ w qb rb base sv mv kv vv p L) {i s : Nat} {m : Nat × Bool} {g cap n : Nat} (hi : p.ma[i]? = some (s, m)) (hv : mv = .slice (some ⟨g, 0, none⟩) n cap) (g' : Bool) :
    (RQ (w.setCell ⟨g, i * 3 + 2, none⟩ (.bool g')) qb rb base sv mv kv vv { p with ma := p.ma.set i (s, (m.1, g')) } L ∧ Kept w (w.setCell ⟨g, i * 3 + 2, none⟩ (.bool g')) (qBl qb sv mv kv vv)) ∧
    w.cell? ⟨g, i * 3 + 1, none⟩ = some (.int .i64 (m.1 : Int)) ∧ w.cell? ⟨g, i * 3 + 2, none⟩ = some (.bool m.2) ∧ w.frozen? ⟨g, i * 3 + 1, none⟩ = false ∧ w.frozen? ⟨g, i * 3 + 2, none⟩ = false ∧ g < w.heap.size ∧ g ≠ qb := by
  obtain ⟨hi', he⟩ := List.getElem?_eq_some_iff.1 hi
  obtain ⟨o1, o2, o3, o4⟩ := x.offq
  have hg : mv.ownBlock = some g := by rw [hv]; rfl
  have hgq : g ≠ qb := fun e => o2 (by rw [hg, e])
  obtain ⟨g2, cap2, hv2, _, hgl, _, hc, hf⟩ := ownc_cell x.ml (by omega)
  rw [hv] at hv2
  simp only [Value.slice.injEq, Option.some.injEq, Addr.mk.injEq] at hv2
  have eg : g = g2 := hv2.1.1
  subst eg
  have hat := msV_at p.ma i hi'
  rw [he] at hat
  have hk : Kept w (w.setCell ⟨g, i * 3 + 2, none⟩ (.bool g')) (fun k => mv.ownBlock = some k) := (Kept.setCell w ⟨g, i * 3 + 2, none⟩ (.bool g')).mono (fun k _ e => by
    have e' : k = g := e
    rw [hg, e'])
  have hml : (w.setCell ⟨g, i * 3 + 2, none⟩ (.bool g')).ownsRow base 134 3 mv (p.ma.set i (s, (m.1, g'))).length (msV (p.ma.set i (s, (m.1, g')))) := by
    rw [List.length_set, msV_grey p.ma i s m g' hi' he]
    rcases x.ml.2 with ⟨h0, _⟩ | ⟨g3, cap3, cur, hv3, hb3, hg3, hn3, hm3, hs3, ht3⟩
    · rw [h0] at hg; cases hg
    · have e3 : g3 = g := by rw [hv3] at hg; simpa [Value.ownBlock] using hg
      subst e3
      have hs2 := heap_setCell_same w g3 (i * 3 + 2) _ _ (.bool g') hg3
      refine ⟨by rw [List.length_set]; exact x.ml.1, Or.inr ⟨g3, cap3, _, hv3, hb3, hs2, hn3, hm3, by simpa using hs3, ?_⟩⟩
      rw [Array.toList_setIfInBounds, List.take_set, ht3]
  refine ⟨⟨⟨x.box.kept hk o2, own_kept x.sl hk (fun k e e' => ((x.d k).1 e).2.1 e'), hml, own_kept x.kl hk (fun k e e' => ((x.d k).2.1 e').2.1 e), own_kept x.vl hk (fun k e e' => ((x.d k).2.1 e').2.2 e), x.srt, x.d, x.ge, x.few.1, x.few.2.1, x.few.2.2.1, by rw [List.length_set]; exact x.few.2.2.2.1, x.few.2.2.2.2⟩, hk.mono (fun k _ e => Or.inr (Or.inr (Or.inl e)))⟩, hc _ _ hat.2.1, hc _ _ hat.2.2, hf _, hf _, hgl, hgq⟩
theorem rshade_any (x : RQ w qb rb base sv mv kv vv p L) (y : RX w rb ra rc rt lv h M) (H : PI p k) (hk : k < 1000000) (a : Int) (n : Nat) (r : Int) :
    Calls Tryz.prog 30 #[.pointer (some ⟨qb, 0, none⟩), .agg #[.int .i64 a, .int .u64 (n : Int)], .int .i64 r] w fun e w' => e = .returned (.tuple #[]) ∧ QGo w w' qb rb base (qBl qb sv mv kv vv) (p.shade h (a, n) r) := by
  unfold PSt.shade
  have hml := H.ml
  have hel := H.el
  have hL : L.length = p.me.length := x.srt.1.length_eq
  cases hn : namesB (a, n) with
  | false =>
    rw [if_neg (by simp)]
    exact rshade_no x a n r hn
  | true =>
    rw [if_pos rfl]
    by_cases he : a = (h.node : Int)
    · rw [if_pos he]
      exact rshade_near x y a n r hn he H.nd (by omega)
    · rw [if_neg he]
      exact rshade_far x y a n r hn he H.nm (by omega)
theorem QN.use {r : Ending} {f : Nat} {args : Array Value} {p' : PSt} (x : QN w qb rb base G p) (hc : ∀ sv mv kv vv L, RQ w qb rb base sv mv kv vv p L → Calls Tryz.prog f args w fun e w' => e = r ∧ QGo w w' qb rb base (qBl qb sv mv kv vv) p') : Calls Tryz.prog f args w fun e w' => e = r ∧ QGo w w' qb rb base G p' := by
  obtain ⟨sv, mv, kv, vv, L, hx, hG⟩ := x.ex
  have e : G = qBl qb sv mv kv vv := funext fun k => propext (hG k)
  rw [e]
  exact hc sv mv kv vv L hx
theorem QN.shade (x : QN w qb rb base G p) (y : RX w rb ra rc rt lv h M) (H : PI p k) (hk : k < 1000000) (a : Int) (n : Nat) (r : Int) :
    Calls Tryz.prog 30 #[.pointer (some ⟨qb, 0, none⟩), .agg #[.int .i64 a, .int .u64 (n : Int)], .int .i64 r] w fun e w' => e = .returned (.tuple #[]) ∧ QGo w w' qb rb base G (p.shade h (a, n) r) :=
  x.use (fun _ _ _ _ _ hx => rshade_any hx y H hk a n r)
set_option maxRecDepth 20000 in
set_option maxHeartbeats 2000000 in
theorem rscan_ok (x : RQ w qb rb base sv mv kv vv p L) (y : RX w rb ra rc rt lv h M) (hG : ∀ j ∈ rBl rb ra rc rt lv M, ¬ qBl qb sv mv kv vv j) (H : PI p k) (hk : k + 8 < 1000000) (s : Nat) (pl : Pl) (hp : getP M s = some pl) (r : Nat) (hm : getA p.ma s = some (r, true)) :
    Calls Tryz.prog 31 #[.pointer (some ⟨qb, 0, none⟩), .int .u64 (s : Int)] w fun e w' => e = .returned (.bool true) ∧ QGo w w' qb rb base (qBl qb sv mv kv vv) (PSt.all h { p with ma := putA p.ma s (r, false) } pl.o.rf r) := by
  have c0 : w.cell? ⟨qb, 0, none⟩ = some (.pointer (some ⟨rb, 0, none⟩)) := x.box.cell 0 (by simp)
  have hF := rfind_any x s
  have hGt := rget_any y s
  rw [hp] at hGt
  simp only [ptrOf, Option.map_some] at hGt
  have hpm := (getP_mem hp).1
  have hfl := (y.fl hpm).1
  have HX : Hid _ := hidden x
  have HY : Hid _ := hidden y
  obtain ⟨p1, hp1⟩ : ∃ p1 : PSt, p1 = { p with ma := putA p.ma s (r, false) } := ⟨_, rfl⟩
  rw [← hp1]
  have HE1 : Hid _ := hidden hp1
  clear x y hp1
  go_enter Tryz.func31, Tryz.ntmps31
  go_wp2_with fail
  refine hF.mono ?_
  rintro e _ ⟨rfl, he⟩
  clear hF
  unfold FoundAt at he
  rcases he with ⟨i, m, g, cap, rfl, hmv, h1, h2⟩ | ⟨rfl, h1⟩
  · have hg := found_get h1 h2
    rw [hm] at hg
    cases hg
    obtain ⟨⟨q1, q2⟩, d1, d2, _, f2, hgl, hgq⟩ := HX.out.grey h1 hmv false
    simp only at d1 d2 q1
    rw [← putA_set H.nd h1, ← HE1.out] at q1
    have HQ : Hid _ := hidden q1
    have HK : Hid _ := hidden q2
    have HP1 : Hid (PI p1 (k + 1)) := by
      have h : PI p1 (k + 1) := by rw [HE1.out]; exact H.putM s (r, false)
      exact h
    clear HE1
    clear h1 h2 hm q1 q2 hmv
    go_wp2_with fail
    refine hGt.mono ?_
    rintro e _ ⟨rfl, rfl⟩
    clear hGt
    go_wp2
    generalize hw1 : w.setCell ⟨g, i * 3 + 2, none⟩ (.bool false) = w1 at *
    clear hw1 c0 d1 d2 f2
    go_loopw [8] (fun t wr => ∃ (j : Nat) (G' : Nat → Prop), j ≤ pl.o.rf.length ∧ t = .int .i64 (j : Int) ∧ QN wr qb rb base G' (PSt.all h p1 (pl.o.rf.take j) r) ∧ (∀ b, G' b → qBl qb sv mv kv vv b ∨ w.heap.size ≤ b) ∧ Kept w wr (qBl qb sv mv kv vv)) (fun t _ => pl.o.rf.length - (intOf t).toNat)
    case atStart => exact ⟨0, _, Nat.zero_le _, rfl, HQ.out.qn, fun b hb => Or.inl hb, HK.out⟩
    case round =>
      clear HQ HK
      obtain ⟨j, G', hj, rfl, hn, hG', hkw⟩ := hrel
      have yr := HY.out.kept hkw hG
      have e2 := yr.pc hpm 2 _ rfl
      by_cases hlt : (j : Int) < (pl.o.rf.length : Int)
      · have hjl : j < pl.o.rf.length := by omega
        obtain ⟨u0, u1⟩ := yr.rc' hpm j hjl
        have hPI := (HP1.out.all h (pl.o.rf.take j) r)
        have hSh := hn.shade yr hPI (by rw [List.length_take]; omega) pl.o.rf[j].1 pl.o.rf[j].2 (r : Int)
        rw [show (pl.o.rf[j].1, pl.o.rf[j].2) = pl.o.rf[j] from rfl, ← all_step h p1 pl.o.rf r j hjl] at hSh
        have HG' : Hid _ := hidden hG'
        have HKW : Hid _ := hidden hkw
        clear hn hPI yr hG' hkw
        have HA : Hid (∃ q, q = PSt.all h p1 (pl.o.rf.take (j + 1)) r) := ⟨_, rfl⟩
        obtain ⟨p2, hp2⟩ := HA.out
        rw [← hp2] at hSh
        have HP2 : Hid _ := hidden hp2
        have HL : Hid (j + 1 ≤ pl.o.rf.length) := hjl
        generalize pl.o.rf[j] = idj at *
        clear hp2 HA
        generalize pl.o.rf.length = nf at *
        go_wp2_with fail
        refine hSh.mono ?_
        rintro e w4 ⟨rfl, q4⟩
        have HQ4 : Hid _ := hidden q4
        clear q4 hSh u0 u1 e2 hjl
        go_wp2
        go_roundw
        case rel =>
          obtain ⟨G4, n4, hG4⟩ := HQ4.out.ex
          refine ⟨j + 1, G4, HL.out, by go_num, by rw [← HP2.out]; exact n4, fun b hb => ?_, HKW.out.trans HQ4.out.kept (fun b hb e => ?_)⟩
          · rcases hG4 b hb with e | e
            · exact HG'.out b e
            · exact Or.inr (Nat.le_trans HKW.out.size e)
          · rcases HG'.out b e with e | e
            · exact e
            · omega
        case measure => have := HL.out; simp [intOf]; omega
      · have hje : pl.o.rf.take j = pl.o.rf := List.take_of_length_le (by omega)
        rw [hje] at hn
        have HQ : Hid (QGo w wr qb rb base (qBl qb sv mv kv vv) (PSt.all h p1 pl.o.rf r)) := ⟨⟨G', hn, hG'⟩, hkw⟩
        clear hn hG' hkw yr hje
        generalize pl.o.rf.length = nf at *
        go_wp2
        go_ret
        exact ⟨rfl, HQ.out⟩
  · exact absurd (found_no h1) (by rw [hm]; simp)
set_option maxRecDepth 20000 in
set_option maxHeartbeats 1000000 in
theorem rscan_no (x : RQ w qb rb base sv mv kv vv p L) (y : RX w rb ra rc rt lv h M) (s : Nat) (hno : (∀ r, getA p.ma s ≠ some (r, true)) ∨ getP M s = none) :
    Calls Tryz.prog 31 #[.pointer (some ⟨qb, 0, none⟩), .int .u64 (s : Int)] w fun e w' => e = .returned (.bool false) ∧ w = w' := by
  have c0 : w.cell? ⟨qb, 0, none⟩ = some (.pointer (some ⟨rb, 0, none⟩)) := x.box.cell 0 (by simp)
  have hF := rfind_any x s
  have hGt := rget_any y s
  have HX : Hid _ := hidden x
  clear x y
  go_enter Tryz.func31, Tryz.ntmps31
  go_wp2_with fail
  refine hF.mono ?_
  rintro e _ ⟨rfl, he⟩
  clear hF
  unfold FoundAt at he
  rcases he with ⟨i, m, g, cap, rfl, hmv, h1, h2⟩ | ⟨rfl, h1⟩
  · have hg := found_get h1 h2
    obtain ⟨_, d1, d2, _, f2, hgl, hgq⟩ := HX.out.grey h1 hmv false
    obtain ⟨r, gr⟩ := m
    simp only at d1 d2
    cases gr with
    | false =>
      clear h1 h2 hg hmv hno
      unfold ptrOf at hGt
      cases hp : getP M s
      all_goals
        rw [hp] at hGt
        simp only [Option.map_none, Option.map_some] at hGt
        clear hp
        go_wp2_with (go_at_call 37; refine hGt.mono ?_; rintro e _ ⟨rfl, rfl⟩)
        go_ret
        exact ⟨rfl, rfl⟩
    | true =>
      have hp : getP M s = none := by
        rcases hno with h | h
        · exact absurd hg (h r)
        · exact h
      rw [hp] at hGt
      simp only [ptrOf, Option.map_none] at hGt
      clear h1 h2 hg hmv hno hp
      go_wp2_with (go_at_call 37; refine hGt.mono ?_; rintro e _ ⟨rfl, rfl⟩)
      go_ret
      exact ⟨rfl, rfl⟩
  · clear h1 hno
    unfold ptrOf at hGt
    cases hp : getP M s
    all_goals
      rw [hp] at hGt
      simp only [Option.map_none, Option.map_some] at hGt
      clear hp
      go_wp2_with (go_at_call 37; refine hGt.mono ?_; rintro e _ ⟨rfl, rfl⟩)
      go_ret
      exact ⟨rfl, rfl⟩
theorem rscan_any (x : RQ w qb rb base sv mv kv vv p L) (y : RX w rb ra rc rt lv h M) (hG : ∀ j ∈ rBl rb ra rc rt lv M, ¬ qBl qb sv mv kv vv j) (H : PI p k) (hk : k + 8 < 1000000) (s : Nat) :
    Calls Tryz.prog 31 #[.pointer (some ⟨qb, 0, none⟩), .int .u64 (s : Int)] w fun e w' => e = .returned (.bool (scanR h p s)) ∧ QGo w w' qb rb base (qBl qb sv mv kv vv) (p.scan h s) := by
  have hgc : getC h.cs s = (getP M s).map (·.o) := y.get s
  have hst : ∀ w', w = w' → QGo w w' qb rb base (qBl qb sv mv kv vv) p := fun w' e => by subst e; exact x.qn.stay (Below.refl _ _)
  unfold scanR PSt.scan
  rw [hgc]
  cases hp : getP M s with
  | none => exact (rscan_no x y s (Or.inr hp)).mono (fun e w' ⟨h1, h2⟩ => ⟨h1, hst w' h2⟩)
  | some pl =>
    cases hm : getA p.ma s with
    | none => exact (rscan_no x y s (Or.inl (fun r e => by rw [hm] at e; cases e))).mono (fun e w' ⟨h1, h2⟩ => ⟨h1, hst w' h2⟩)
    | some m =>
      obtain ⟨r, gr⟩ := m
      cases gr with
      | false => exact (rscan_no x y s (Or.inl (fun r e => by rw [hm] at e; cases e))).mono (fun e w' ⟨h1, h2⟩ => ⟨h1, hst w' h2⟩)
      | true => exact rscan_ok x y hG H hk s pl hp r hm
end
end Go.Proofs.YtlabdbfmfejkaaaGreatDoor

namespace Go.Proofs.YtlabdbfmfejkaaaGreatDoor
open Go.RowKit

/-- The k-th of those IDs. -/
def idAt (k : Nat) : Int × Nat := (((k / 7 : Nat) : Int), k % 7)
def idsL (n : Nat) : List (Int × Nat) := (List.range n).map idAt
theorem idsL_next (n : Nat) : idsL (n + 1) = idsL n ++ [idAt n] := by
  unfold idsL
  rw [List.range_succ, List.map_append]
  rfl
theorem idsL_len (n : Nat) : (idsL n).length = n := by simp [idsL]
/-- IDs in memory of the call's own. -/
structure IL (w0 w : World) (B : Nat) (v : Value) (n : Nat) : Prop where
  own : w.ownsRow B 55 2 v n (idsV (idsL n))
  bel : Below B w0 w
  le : B ≤ w.heap.size
theorem sr_idW (w : World) (a : Int) (n : Nat) (T : TypeId) : Sr (w.alloc (.cells #[.int .i64 a, .int .u64 (n : Int)] T)) (.slice (some ⟨w.heap.size, 0, none⟩) 1 1) 2 1 [.int .i64 a, .int .u64 (n : Int)] := by
  have h := heap_alloc_new w (.cells #[.int .i64 a, .int .u64 (n : Int)] T)
  refine ⟨rfl, Or.inr ⟨⟨w.heap.size, 0, none⟩, 1, rfl, fun j u hu => ?_⟩, by simp [Value.oneCell']⟩
  rw [Addr.add_at, Nat.zero_add, cell_of_row _ _ _ _ _ _ h]
  simpa using hu
end Go.Proofs.YtlabdbfmfejkaaaGreatDoor

namespace Go.Proofs.YtlabdbfmfejkaaaGreatDoor
open Go.RowKit

section
variable {w : World} {b1 b2 : Nat} {v1 v2 : Value} {L : List ((Int × Nat) × Nat)}
end
end Go.Proofs.YtlabdbfmfejkaaaGreatDoor

namespace Go.Proofs.YtlabdbfmfejkaaaGreatDoor
open Go.RowKit
open Go.ChangeMaps (setBlock)

section
variable {w w' : World} {pb hb base sb mb tb : Nat} {v v' : Value} {p p' : PSt} {F : Nat → Prop} {h : HSt}
end
end Go.Proofs.YtlabdbfmfejkaaaGreatDoor
