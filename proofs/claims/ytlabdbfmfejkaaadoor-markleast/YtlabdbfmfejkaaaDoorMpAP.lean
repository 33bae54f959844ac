import Derived.Test.YtlabdbfmfejkaaaDoorMkD
import Derived.Test.YtlabdbfmfejkaaaDoorMkS
import Derived.Deep.CutRange
import Derived.Deep.CutBlock
import Derived.Deep.RegionHeld
import Derived.WalkMore
/- A marker in memory: New, Begin, and the four things that a step may do. -/
/- The four things that a step may do, walked. -/
/- The place goes on, walked. -/
/- A pass goes on, walked. -/
/- A step, walked; a marker is new. -/
/- The law's own example; MarkKnown. -/
namespace Go.Proofs.YtlabdbfmfejkaaaDoor
open Go.RowKit

/-- The cells of a marker. -/
def mkV (hb pb : Nat) (pl : Nat) (on : Bool) (ps : Nat) : List Value := [.pointer (some ⟨hb, 0, none⟩), .pointer (some ⟨pb, 0, none⟩), .int .u64 (pl : Int), .bool on, .int .u64 (ps : Int)]
/-- A marker at xb. -/
def MRow (w : World) (xb hb pb : Nat) (m : MSt) : Prop := ∃ ps, Row w xb 96 (mkV hb pb m.place m.on ps) ∧ (m.on = true → ps = m.pass)
/-- A marker, its heap and its paint. -/
structure PM (w0 : World) (B : Nat) (w : World) (xb pb hb : Nat) (h : HSt) (p : PSt) (m : MSt) (X : Nat → Prop) : Prop where
  ph : PH w0 B w pb hb h p X
  row : MRow w xb hb pb m
  xin : X xb
  ge : B ≤ xb
/-- What a marker's call may write. -/
def MIts (B : Nat) (X : Nat → Prop) (xb : Nat) (k : Nat) : Prop := k = xb ∨ Its B X k
section
variable {w0 w w' : World} {B xb pb hb : Nat} {h h' : HSt} {p p' : PSt} {m m' : MSt} {X : Nat → Prop}
theorem MRow.below (x : MRow w xb hb pb m) (hB : Below w.heap.size w w') : MRow w' xb hb pb m := by
  obtain ⟨ps, r, e⟩ := x
  exact ⟨ps, r.below hB, e⟩
theorem MRow.its (x : MRow w xb hb pb m) (hk : Kept w w' (Its B X)) (hX : X xb) : MRow w' xb hb pb m := by
  obtain ⟨ps, r, e⟩ := x
  exact ⟨ps, its_row hk hX r, e⟩
theorem MRow.kept {S : Nat → Prop} (x : MRow w xb hb pb m) (hk : Kept w w' S) (hX : ¬ S xb) : MRow w' xb hb pb m := by
  obtain ⟨ps, r, e⟩ := x
  exact ⟨ps, r.kept hk hX, e⟩
theorem PM.read (x : PM w0 B w xb pb hb h p m X) (hB : Below w.heap.size w w') : PM w0 B w' xb pb hb h p m X := ⟨x.ph.read hB, x.row.below hB, x.xin, x.ge⟩
theorem PH.pop (x : PH w0 B w pb hb h p X) :
    Calls Tryd.prog 94 #[.pointer (some ⟨pb, 0, none⟩)] w fun e w' => e = .returned (.tuple #[.int .u64 ((popR p).1 : Int), .bool (popR p).2]) ∧ PH w0 B w' pb hb h p.pop X ∧ Kept w w' (Its B X) := x.pgo (fun _ _ _ _ _ hx _ _ => ppop_any hx)
theorem PH.rest (x : PH w0 B w pb hb h p X) :
    Calls Tryd.prog 96 #[.pointer (some ⟨pb, 0, none⟩)] w fun e w' => e = .returned (.tuple #[]) ∧ PH w0 B w' pb hb h p.rest X ∧ Kept w w' (Its B X) := x.pgo (fun _ _ _ _ _ hx _ _ => prest_any hx)
theorem PH.next (x : PH w0 B w pb hb h p X) (s : Nat) :
    Calls Tryd.prog 84 #[.pointer (some ⟨hb, 0, none⟩), .int .u64 (s : Int)] w fun e w' => e = .returned (.tuple #[.int .u64 ((nextR h.cs s).1 : Int), .bool (nextR h.cs s).2]) ∧ Below w.heap.size w w' := by
  obtain ⟨F, G, hp, _⟩ := x.ex
  obtain ⟨ab, mb, L, hx, _⟩ := hp.ex
  exact hnext_any hx s
theorem PH.node (x : PH w0 B w pb hb h p X) :
    Calls Tryd.prog 43 #[.pointer (some ⟨hb, 0, none⟩)] w fun e w' => e = .returned (.int .i64 (h.node : Int)) ∧ w = w' := by
  obtain ⟨F, G, hp, _⟩ := x.ex
  exact hp.node
theorem PH.obj (x : PH w0 B w pb hb h p X) (s : Nat) (hs : s < 18446744073709551616) (o : Oc) (hg : getC h.cs s = some o) :
    Calls Tryd.prog 76 #[.pointer (some ⟨hb, 0, none⟩), .int .u64 (s : Int)] w fun e w' => ∃ (g1 g2 n1 n2 c : Nat), e = .returned (.tuple #[.agg #[.int .u64 (s : Int), .int .i64 (c : Int), .slice (some ⟨g1, 0, none⟩) n1 n1, .slice (some ⟨g2, 0, none⟩) n2 n2, .int .i64 (o.d : Int)], .bool true]) ∧ Below w.heap.size w w' := by
  obtain ⟨F, G, hp, _⟩ := x.ex
  obtain ⟨ab, mb, L, hx, _⟩ := hp.ex
  refine (hobj_ok hx s hs o hg).mono ?_
  rintro e w' ⟨g1, g2, he, _, _, _, _, hb⟩
  have hs' := (getC_mem hg).2
  subst hs'
  exact ⟨g1, g2, _, _, _, he, hb⟩
/-- The paint's call, seen from the marker. -/
theorem PM.pgo (x : PM w0 B w xb pb hb h p m X) (y : PH w0 B w' pb hb h p' X) (hk : Kept w w' (Its B X)) : PM w0 B w' xb pb hb h p' m X := ⟨y, x.row.its hk x.xin, x.xin, x.ge⟩
/-- The marker is another one. -/
theorem PM.turn (x : PM w0 B w xb pb hb h p m X) (hk : Kept w w' (fun k => k = xb)) (r : MRow w' xb hb pb m') : PM w0 B w' xb pb hb h p m' X :=
  ⟨x.ph.other hk (fun k e => by have e' : k = xb := e; subst e'; exact ⟨x.xin, x.ge⟩), r, x.xin, x.ge⟩
theorem mits_of (hk : Kept w w' (Its B X)) : Kept w w' (MIts B X xb) := hk.mono (fun _ _ e => Or.inr e)
theorem mits_x (hk : Kept w w' (fun k => k = xb)) : Kept w w' (MIts B X xb) := hk.mono (fun _ _ e => Or.inl e)
theorem mits_b (hB : Below w.heap.size w w') : Kept w w' (MIts B X xb) := (kept_of_below hB (fun _ => False)).mono (fun _ _ e => e.elim)
theorem mits_t {w1 : World} (h1 : Kept w w1 (MIts B X xb)) (h2 : Kept w1 w' (MIts B X xb)) : Kept w w' (MIts B X xb) := h1.trans h2 (fun _ _ e => e)

theorem row_pl {pl ps : Nat} {on : Bool} (r : Row w xb 96 (mkV hb pb pl on ps)) (q : Nat) : Row (w.setCell ⟨xb, 2, none⟩ (.int .u64 (q : Int))) xb 96 (mkV hb pb q on ps) := r.set 2 (.int .u64 (q : Int))
theorem row_on {pl ps : Nat} {on : Bool} (r : Row w xb 96 (mkV hb pb pl on ps)) (q : Bool) : Row (w.setCell ⟨xb, 3, none⟩ (.bool q)) xb 96 (mkV hb pb pl q ps) := r.set 3 (.bool q)
theorem row_ps {pl ps : Nat} {on : Bool} (r : Row w xb 96 (mkV hb pb pl on ps)) (q : Nat) : Row (w.setCell ⟨xb, 4, none⟩ (.int .u64 (q : Int))) xb 96 (mkV hb pb pl on q) := r.set 4 (.int .u64 (q : Int))
theorem row_c {pl ps : Nat} {on : Bool} (r : Row w xb 96 (mkV hb pb pl on ps)) : w.cell? ⟨xb, 0, none⟩ = some (.pointer (some ⟨hb, 0, none⟩)) ∧ w.cell? ⟨xb, 1, none⟩ = some (.pointer (some ⟨pb, 0, none⟩)) ∧ w.cell? ⟨xb, 2, none⟩ = some (.int .u64 (pl : Int)) ∧ w.cell? ⟨xb, 3, none⟩ = some (.bool on) ∧ w.cell? ⟨xb, 4, none⟩ = some (.int .u64 (ps : Int)) :=
  ⟨r.cell 0 (by simp [mkV]), r.cell 1 (by simp [mkV]), r.cell 2 (by simp [mkV]), r.cell 3 (by simp [mkV]), r.cell 4 (by simp [mkV])⟩
theorem row_begin {pl ps : Nat} {on : Bool} (r : Row w xb 96 (mkV hb pb pl on ps)) : Row (((w.setCell ⟨xb, 2, none⟩ (.int .u64 0)).setCell ⟨xb, 3, none⟩ (.bool false)).setCell ⟨xb, 4, none⟩ (.int .u64 0)) xb 96 (mkV hb pb 0 false 0) ∧ Kept w (((w.setCell ⟨xb, 2, none⟩ (.int .u64 0)).setCell ⟨xb, 3, none⟩ (.bool false)).setCell ⟨xb, 4, none⟩ (.int .u64 0)) (fun k => k = xb) :=
  ⟨row_ps (row_on (row_pl r 0) false) 0, (((Kept.refl w (fun k => k = xb)).put ⟨xb, 2, none⟩ (.int .u64 0) rfl).put ⟨xb, 3, none⟩ (.bool false) rfl).put ⟨xb, 4, none⟩ (.int .u64 0) rfl⟩
theorem row_pass {pl ps : Nat} {on : Bool} (r : Row w xb 96 (mkV hb pb pl on ps)) (b : Bool) (q : Nat) : Row ((w.setCell ⟨xb, 3, none⟩ (.bool b)).setCell ⟨xb, 4, none⟩ (.int .u64 (q : Int))) xb 96 (mkV hb pb pl b q) ∧ Kept w ((w.setCell ⟨xb, 3, none⟩ (.bool b)).setCell ⟨xb, 4, none⟩ (.int .u64 (q : Int))) (fun k => k = xb) :=
  ⟨row_ps (row_on r b) q, ((Kept.refl w (fun k => k = xb)).put ⟨xb, 3, none⟩ (.bool b) rfl).put ⟨xb, 4, none⟩ (.int .u64 (q : Int)) rfl⟩
theorem row_pass' {pl ps : Nat} {on : Bool} (r : Row w xb 96 (mkV hb pb pl on ps)) (b : Bool) (q : Nat) : Row ((w.setCell ⟨xb, 4, none⟩ (.int .u64 (q : Int))).setCell ⟨xb, 3, none⟩ (.bool b)) xb 96 (mkV hb pb pl b q) ∧ Kept w ((w.setCell ⟨xb, 4, none⟩ (.int .u64 (q : Int))).setCell ⟨xb, 3, none⟩ (.bool b)) (fun k => k = xb) :=
  ⟨row_on (row_ps r q) b, ((Kept.refl w (fun k => k = xb)).put ⟨xb, 4, none⟩ (.int .u64 (q : Int)) rfl).put ⟨xb, 3, none⟩ (.bool b) rfl⟩

set_option maxRecDepth 20000 in
theorem mbegin_any {pl ps : Nat} {on : Bool} (r : Row w xb 96 (mkV hb pb pl on ps)) :
    Calls Tryd.prog 41 #[.pointer (some ⟨xb, 0, none⟩)] w fun e w' => e = .returned (.tuple #[]) ∧ Row w' xb 96 (mkV hb pb 0 false 0) ∧ Kept w w' (fun k => k = xb) := by
  have f2 := r.frozen 2
  have f3 := r.frozen 3
  have f4 := r.frozen 4
  obtain ⟨_, _, d2, d3, d4⟩ := row_c r
  have hl := r.lt
  have H : Hid _ := hidden (row_begin r)
  clear r
  go_enter Tryd.func41, Tryd.ntmps41
  go_wp2
  go_end0
  exact ⟨rfl, H.out.1, H.out.2⟩
set_option maxRecDepth 20000 in
set_option maxHeartbeats 400000 in
theorem mnew_ok (hb pb : Nat) (w : World) :
    Calls Tryd.prog 12 #[.pointer (some ⟨hb, 0, none⟩), .pointer (some ⟨pb, 0, none⟩)] w fun e w' => e = .returned (.tuple #[.pointer (some ⟨w.heap.size, 0, none⟩), .int .i64 0]) ∧ Row w' w.heap.size 96 (mkV hb pb 0 false 0) ∧ w.heap.size < w'.heap.size ∧ Below w.heap.size w w' := by
  have r0 : Row (w.alloc (.cells #[.pointer (some ⟨hb, 0, none⟩), .pointer (some ⟨pb, 0, none⟩), .int .u64 0, .bool false, .int .u64 0] 96)) w.heap.size 96 (mkV hb pb 0 false 0) := heap_alloc_new w _
  have hB := mbegin_any r0
  have HA : Hid (∀ w', Kept (w.alloc (.cells #[.pointer (some ⟨hb, 0, none⟩), .pointer (some ⟨pb, 0, none⟩), .int .u64 0, .bool false, .int .u64 0] 96)) w' (fun k => k = w.heap.size) → Below w.heap.size w w') := fun w' hk => (bel_alloc w _).trans (hk.below (by simp) (fun i hi e => by have e' : i = w.heap.size := e; omega))
  clear r0
  go_enter Tryd.func12, Tryd.ntmps12
  go_wp2_with fail
  refine hB.mono ?_
  rintro e w1 ⟨rfl, r1, k1⟩
  have HR : Hid _ := hidden r1
  have HB := HA.out _ k1
  have HL : Hid _ := hidden r1.lt
  clear hB HA k1 r1
  go_wp2
  go_ret2
  exact ⟨rfl, HR.out, HL.out, HB⟩
set_option maxRecDepth 20000 in
theorem mnew_no (vh vp : Value) (hv : (vh = .pointer none ∧ ∃ pb, vp = .pointer (some ⟨pb, 0, none⟩)) ∨ (vp = .pointer none ∧ ∃ hb, vh = .pointer (some ⟨hb, 0, none⟩))) (w : World) :
    Calls Tryd.prog 12 #[vh, vp] w fun e w' => e = .returned (.tuple #[.pointer none, .int .i64 1]) ∧ w = w' := by
  rcases hv with ⟨rfl, pb, rfl⟩ | ⟨rfl, hb, rfl⟩
  all_goals
    go_enter Tryd.func12, Tryd.ntmps12
    go_wp2
    go_ret2
    exact ⟨rfl, rfl⟩
end
end Go.Proofs.YtlabdbfmfejkaaaDoor

namespace Go.Proofs.YtlabdbfmfejkaaaDoor
open Go.RowKit

/-- What is on the stack is scanned. -/
def topR (h : HSt) (p : PSt) : PSt := match p.stk.getLast? with
  | some a => p.pop.scan h a
  | none => p
def passR (h : HSt) (p : PSt) (m : MSt) : Bool × PSt × MSt :=
  if m.on then match aboveC h.cs m.pass with
    | some o => (true, p.scan h o.s, ⟨m.place, o.s, true⟩)
    | none => (false, p, ⟨m.place, m.pass, false⟩)
  else (false, p, m)
def overR (p : PSt) (m : MSt) : Bool × PSt × MSt := if p.ov then (true, p.rest, ⟨m.place, 0, true⟩) else (false, p, m)
def placeR (h : HSt) (p : PSt) (m : MSt) : Bool × PSt × MSt := match aboveC h.cs m.place with
  | none => (false, p, m)
  | some o => (true, (if 0 < o.d then p.shade h ((h.node : Int), o.s) (o.d : Int) else p), ⟨o.s, m.pass, m.on⟩)
section
variable {w0 w w' : World} {B xb pb hb : Nat} {h h' : HSt} {p p' : PSt} {m m' : MSt} {X : Nat → Prop}
set_option maxRecDepth 20000 in
set_option maxHeartbeats 400000 in
theorem scanTop_any (x : PM w0 B w xb pb hb h p m X) (hs : SB p) :
    Calls Tryd.prog 71 #[.pointer (some ⟨xb, 0, none⟩)] w fun e w' => e = .returned (.bool (popR p).2) ∧ PM w0 B w' xb pb hb h (topR h p) m X ∧ Kept w w' (MIts B X xb) := by
  obtain ⟨ps, r, hps⟩ := x.row
  have d1 : w.cell? ⟨xb, 1, none⟩ = some (.pointer (some ⟨pb, 0, none⟩)) := r.cell 1 (by simp [mkV])
  have hl := r.lt
  have hP := x.ph.pop
  have h64 := hs.popR
  cases hg : p.stk.getLast? with
  | none =>
    have e1 : popR p = (0, false) := by unfold popR; rw [hg]
    have e2 : topR h p = p := by unfold topR; rw [hg]
    have e3 : p.pop = p := by
      have hn : p.stk = [] := by simpa using hg
      unfold PSt.pop
      rw [hn]
      cases p
      cases hn
      rfl
    rw [e1, e3] at hP
    rw [e1, e2]
    have HX : Hid (∀ w', PH w0 B w' pb hb h p X → Kept w w' (Its B X) → PM w0 B w' xb pb hb h p m X) := fun w' y k => x.pgo y k
    clear x r e1 e2 e3 h64 hs hg
    go_enter Tryd.func71, Tryd.ntmps71
    go_wp2_with fail
    refine hP.mono ?_
    rintro e w1 ⟨rfl, y1, k1⟩
    have HX1 : Hid _ := hidden (HX.out _ y1 k1)
    have HK : Hid _ := hidden k1
    clear y1 k1 HX hP
    go_wp2
    go_ret
    exact ⟨rfl, HX1.out, mits_of HK.out⟩
  | some a =>
    have e1 : popR p = (a, true) := by unfold popR; rw [hg]
    have e2 : topR h p = p.pop.scan h a := by unfold topR; rw [hg]
    rw [e1] at hP h64
    rw [e1, e2]
    have HX : Hid _ := hidden x
    have hS := fun w1 (y : PH w0 B w1 pb hb h p.pop X) => y.scan a h64
    generalize scanR h p.pop a = sr at *
    generalize p.pop.scan h a = p2 at *
    generalize p.pop = p1 at *
    have HR : Hid _ := hidden r
    clear x e1 e2 h64 hs hg r
    go_enter Tryd.func71, Tryd.ntmps71
    go_wp2_with fail
    refine hP.mono ?_
    rintro e w1 ⟨rfl, y1, k1⟩
    have r1 := its_row k1 HX.out.xin HR.out
    have c1 : w1.cell? ⟨xb, 1, none⟩ = some (.pointer (some ⟨pb, 0, none⟩)) := r1.cell 1 (by simp [mkV])
    have hl1 := r1.lt
    have HK1 : Hid _ := hidden k1
    clear hP d1 hl r1 k1
    go_wp2_with fail
    refine (hS _ y1).mono ?_
    rintro e w2 ⟨rfl, y2, k2⟩
    have HK : Hid _ := hidden (HK1.out.trans k2 (fun _ _ e => e))
    have HX2 : Hid _ := hidden (HX.out.pgo y2 HK.out)
    clear hS y1 y2 k2 HK1
    go_wp2
    go_ret
    exact ⟨rfl, HX2.out, mits_of HK.out⟩

set_option maxRecDepth 20000 in
set_option maxHeartbeats 400000 in
theorem beginPass_any (x : PM w0 B w xb pb hb h p m X) :
    Calls Tryd.prog 73 #[.pointer (some ⟨xb, 0, none⟩)] w fun e w' => e = .returned (.bool (overR p m).1) ∧ PM w0 B w' xb pb hb h (overR p m).2.1 (overR p m).2.2 X ∧ Kept w w' (MIts B X xb) := by
  obtain ⟨ps, r, hps⟩ := x.row
  have d1 : w.cell? ⟨xb, 1, none⟩ = some (.pointer (some ⟨pb, 0, none⟩)) := r.cell 1 (by simp [mkV])
  have hl := r.lt
  have hO := x.ph.over
  unfold overR
  cases ho : p.ov with
  | false =>
    rw [ho] at hO
    have HX : Hid _ := hidden x
    clear x r ho
    go_enter Tryd.func73, Tryd.ntmps73
    go_wp2_with fail
    refine hO.mono ?_
    rintro e _ ⟨rfl, rfl⟩
    clear hO
    go_wp2
    go_ret
    exact ⟨rfl, HX.out, Kept.refl _ _⟩
  | true =>
    rw [ho] at hO
    have HX : Hid _ := hidden x
    have hR := x.ph.rest
    have HR : Hid _ := hidden r
    simp only [if_true]
    clear x r ho
    generalize p.rest = p1 at *
    go_enter Tryd.func73, Tryd.ntmps73
    go_wp2_with fail
    refine hO.mono ?_
    rintro e _ ⟨rfl, rfl⟩
    clear hO
    go_wp2_with fail
    refine hR.mono ?_
    rintro e w1 ⟨rfl, y1, k1⟩
    have r1 := its_row k1 HX.out.xin HR.out
    have x1 := HX.out.pgo y1 k1
    have f3 := r1.frozen 3
    have f4 := r1.frozen 4
    have c3 : w1.cell? ⟨xb, 3, none⟩ = some (.bool m.on) := r1.cell 3 (by simp [mkV])
    have c4 : w1.cell? ⟨xb, 4, none⟩ = some (.int .u64 (ps : Int)) := r1.cell 4 (by simp [mkV])
    have hl1 := r1.lt
    obtain ⟨r2, hk⟩ := row_pass r1 true 0
    have HE : Hid (PM w0 B ((w1.setCell ⟨xb, 3, none⟩ (.bool true)).setCell ⟨xb, 4, none⟩ (.int .u64 0)) xb pb hb h p1 ⟨m.place, 0, true⟩ X) := x1.turn hk ⟨0, r2, fun _ => rfl⟩
    have HK : Hid (Kept w ((w1.setCell ⟨xb, 3, none⟩ (.bool true)).setCell ⟨xb, 4, none⟩ (.int .u64 0)) (MIts B X xb)) := mits_t (mits_of k1) (mits_x hk)
    clear r2
    clear r1 x1 hk k1 y1 hR HX HR d1 hl
    generalize m.on = on at *
    go_wp2
    go_ret
    exact ⟨rfl, HE.out, HK.out⟩
end
end Go.Proofs.YtlabdbfmfejkaaaDoor

namespace Go.Proofs.YtlabdbfmfejkaaaDoor
open Go.RowKit

section
variable {w0 w w' : World} {B xb pb hb : Nat} {h h' : HSt} {p p' : PSt} {m m' : MSt} {X : Nat → Prop}
set_option maxRecDepth 20000 in
set_option maxHeartbeats 1000000 in
theorem shadeNext_any (x : PM w0 B w xb pb hb h p m X) :
    Calls Tryd.prog 74 #[.pointer (some ⟨xb, 0, none⟩)] w fun e w' => e = .returned (.bool (placeR h p m).1) ∧ PM w0 B w' xb pb hb h (placeR h p m).2.1 (placeR h p m).2.2 X ∧ Kept w w' (MIts B X xb) := by
  obtain ⟨ps, r, hps⟩ := x.row
  have hok := x.ph.ok
  have hdr : Below w.heap.size w w.drew := ⟨rfl, rfl, rfl, Nat.le_refl _, fun _ _ => rfl⟩
  have hN := (x.ph.read hdr).next m.place
  rw [next_above] at hN
  have d0 : w.cell? ⟨xb, 0, none⟩ = some (.pointer (some ⟨hb, 0, none⟩)) := r.cell 0 (by simp [mkV])
  have d2 : w.cell? ⟨xb, 2, none⟩ = some (.int .u64 (m.place : Int)) := r.cell 2 (by simp [mkV])
  have hl := r.lt
  unfold placeR
  cases ha : aboveC h.cs m.place with
  | none =>
    rw [ha] at hN
    have HX : Hid _ := hidden x
    simp only at hN ⊢
    clear x r ha hok
    generalize m.place = pl at *
    go_enter Tryd.func74, Tryd.ntmps74
    go_upto_region 1 with fail
    go_cut [3, 4] from 7 to 18 (fun a b wc => a = .int .u64 0 ∧ b = .bool false ∧ Below w.heap.size w wc)
    case first =>
      go_region_with (go_at_call 84; refine hN.mono ?_; rintro e w4 ⟨rfl, b4⟩)
      all_goals
        go_wp2
        go_meet
        exact ⟨rfl, rfl, hdr.trans b4⟩
    case rest =>
      obtain ⟨rfl, rfl, b1⟩ := hcut
      have HB : Hid _ := hidden b1
      clear b1 hN d0 d2 hl hdr
      go_wp2
      go_ret
      exact ⟨rfl, HX.out.read HB.out, mits_b HB.out⟩
  | some o =>
    rw [ha] at hN
    obtain ⟨hm, hlt⟩ := above_mem ha
    have hs64 : o.s < 18446744073709551616 := by
      have := (hok.le o hm).2
      have := hok.last
      omega
    have hgc : getC h.cs o.s = some o := getC_of_mem hok hm
    have hO := fun w1 (y : PH w0 B w1 pb hb h p X) => y.obj o.s hs64 o hgc
    have HX : Hid _ := hidden x
    have HR : Hid _ := hidden r
    simp only at hN ⊢
    have hNd := fun w1 (y : PH w0 B w1 pb hb h p X) => y.node
    have hSh := fun w1 X' (y : PH w0 B w1 pb hb h p X') => y.shade (h.node : Int) o.s (o.d : Int)
    by_cases hd : 0 < o.d
    · rw [if_pos hd]
      generalize p.shade h ((h.node : Int), o.s) (o.d : Int) = p1 at *
      have hgt : (0 : Int) < (o.d : Int) := by omega
      clear x r ha hok hgc hlt hm hs64 hd
      obtain ⟨pl, mps, mon⟩ := m
      simp only at d2 hN HX HR ⊢
      generalize o.s = os at *
      generalize o.d = od at *
      generalize h.node = nd at *
      go_enter Tryd.func74, Tryd.ntmps74
      go_upto_region 1 with fail
      go_cut [3, 4] from 7 to 18 (fun a b wc => a = .int .u64 (os : Int) ∧ b = .bool true ∧ Below w.heap.size w wc)
      case first =>
        go_region_with (go_at_call 84; refine hN.mono ?_; rintro e w4 ⟨rfl, b4⟩)
        all_goals
          go_wp2
          go_meet
          exact ⟨rfl, rfl, hdr.trans b4⟩
      case rest =>
        obtain ⟨rfl, rfl, b1⟩ := hcut
        obtain ⟨w1, hw1⟩ : ∃ x, x = wc := ⟨_, rfl⟩
        subst hw1
        have r1 := HR.out.below b1
        have f2 := r1.frozen 2
        have c2 : w1.cell? ⟨xb, 2, none⟩ = some (.int .u64 (pl : Int)) := r1.cell 2 (by simp [mkV])
        have c0 : w1.cell? ⟨xb, 0, none⟩ = some (.pointer (some ⟨hb, 0, none⟩)) := r1.cell 0 (by simp [mkV])
        have hl1 := r1.lt
        have hk : Kept w1 (w1.setCell ⟨xb, 2, none⟩ (.int .u64 (os : Int))) (fun k => k = xb) := (Kept.refl w1 (fun k => k = xb)).put ⟨xb, 2, none⟩ (.int .u64 (os : Int)) rfl
        have x2 : PM w0 B (w1.setCell ⟨xb, 2, none⟩ (.int .u64 (os : Int))) xb pb hb h p ⟨os, mps, mon⟩ X := (HX.out.read b1).turn hk ⟨ps, row_pl r1 os, hps⟩
        have hO2 := hO _ x2.ph
        have HK2 : Hid _ := hidden (mits_t (B := B) (X := X) (mits_b b1) (mits_x hk))
        have HX2 : Hid _ := hidden x2
        clear hN d0 d2 hl b1 r1 x2 hk HX HR hdr hO
        go_wp2_with fail
        refine hO2.mono ?_
        rintro e w3 ⟨g1, g2, n1, n2, oc, rfl, b3⟩
        obtain ⟨w4, hw4⟩ : ∃ z, z = w3.alloc (.cells #[.int .u64 (os : Int), .int .i64 (oc : Int), .slice (some ⟨g1, 0, none⟩) n1 n1, .slice (some ⟨g2, 0, none⟩) n2 n2, .int .i64 (od : Int)] 140) := ⟨_, rfl⟩
        have ba : Below w3.heap.size w3 w4 := by rw [hw4]; exact bel_alloc w3 _
        have x3 := HX2.out.read b3
        have x4 := x3.read ba
        have y4 : PH w0 B w4 pb hb h p (fun k => X k ∨ k = w3.heap.size) := by rw [hw4]; exact x3.ph.box _
        have HK4 : Hid _ := hidden (mits_t HK2.out (mits_b (b3.trans (ba.mono b3.size))))
        obtain ⟨ps4, r4, hps4⟩ := x4.row
        obtain ⟨ga, gb, _, _, _⟩ := row_c r4
        have gc : w4.cell? ⟨w3.heap.size, 4, none⟩ = some (.int .i64 (od : Int)) := by rw [hw4]; simp
        have hl4 := r4.lt
        have hl5 : w3.heap.size < w4.heap.size := by rw [hw4]; simp
        have hdr4 : Below w4.heap.size w4 w4.drew := ⟨rfl, rfl, rfl, Nat.le_refl _, fun _ _ => rfl⟩
        have hNd5 := hNd _ (x4.ph.read hdr4)
        have hSh5 := hSh _ _ (y4.read hdr4)
        have HX5 : Hid _ := hidden (x4.read hdr4)
        have HR4 : Hid _ := hidden (r4.below hdr4)
        have HGC : Hid (w4.drew.cell? ⟨w3.heap.size, 4, none⟩ = some (.int .i64 (od : Int))) := (hdr4.cell (p := ⟨w3.heap.size, 4, none⟩) hl5).trans gc
        clear hO2 b3 x3 x4 y4 r4 c0 c2 f2 hl1 HX2 HK2 hNd hSh ba
        go_upto_region 7 with fail
        rw [← hw4]
        generalize w3.heap.size = ob at *
        clear hw4
        go_region_held (fun W => W.cell? ⟨xb, 0, none⟩ = some (.pointer (some ⟨hb, 0, none⟩)) ∧ W.cell? ⟨xb, 1, none⟩ = some (.pointer (some ⟨pb, 0, none⟩)) ∧ W.cell? ⟨ob, 4, none⟩ = some (.int .i64 (od : Int))) (exact ⟨by assumption, by assumption, by assumption⟩) (first
          | (go_at_call 43; refine hNd5.mono ?_; rintro e _ ⟨rfl, rfl⟩)
          | (go_at_call 13; refine hSh5.mono ?_; rintro e w6 ⟨rfl, y6, k6⟩; have gd := its_cell (b := ob) HGC.out k6 (Or.inr rfl); obtain ⟨ge, gf, _, _, _⟩ := row_c (its_row k6 (Or.inl HX5.out.xin) HR4.out)))
        all_goals
          have HY6 : Hid _ := hidden (y6.off X (fun k e => Or.inl e))
          have HK6 : Hid (Kept w4.drew w6 (Its B X)) := k6.mono (fun k _ e => ⟨e.1, fun x => e.2 (Or.inl x)⟩)
          clear y6 k6
          go_wp2
          go_ret
          exact ⟨rfl, HX5.out.pgo HY6.out HK6.out, mits_t HK4.out (mits_t (mits_b hdr4) (mits_of HK6.out))⟩
    · rw [if_neg hd]
      have hgt : ¬ (0 : Int) < (o.d : Int) := by omega
      clear x r ha hok hgc hlt hm hs64 hd hNd hSh
      obtain ⟨pl, mps, mon⟩ := m
      simp only at d2 hN HX HR ⊢
      generalize o.s = os at *
      generalize o.d = od at *
      go_enter Tryd.func74, Tryd.ntmps74
      go_upto_region 1 with fail
      go_cut [3, 4] from 7 to 18 (fun a b wc => a = .int .u64 (os : Int) ∧ b = .bool true ∧ Below w.heap.size w wc)
      case first =>
        go_region_with (go_at_call 84; refine hN.mono ?_; rintro e w4 ⟨rfl, b4⟩)
        all_goals
          go_wp2
          go_meet
          exact ⟨rfl, rfl, hdr.trans b4⟩
      case rest =>
        obtain ⟨rfl, rfl, b1⟩ := hcut
        obtain ⟨w1, hw1⟩ : ∃ x, x = wc := ⟨_, rfl⟩
        subst hw1
        have r1 := HR.out.below b1
        have f2 := r1.frozen 2
        have c2 : w1.cell? ⟨xb, 2, none⟩ = some (.int .u64 (pl : Int)) := r1.cell 2 (by simp [mkV])
        have c0 : w1.cell? ⟨xb, 0, none⟩ = some (.pointer (some ⟨hb, 0, none⟩)) := r1.cell 0 (by simp [mkV])
        have hl1 := r1.lt
        have hk : Kept w1 (w1.setCell ⟨xb, 2, none⟩ (.int .u64 (os : Int))) (fun k => k = xb) := (Kept.refl w1 (fun k => k = xb)).put ⟨xb, 2, none⟩ (.int .u64 (os : Int)) rfl
        have x2 : PM w0 B (w1.setCell ⟨xb, 2, none⟩ (.int .u64 (os : Int))) xb pb hb h p ⟨os, mps, mon⟩ X := (HX.out.read b1).turn hk ⟨ps, row_pl r1 os, hps⟩
        have hO2 := hO _ x2.ph
        have HK2 : Hid _ := hidden (mits_t (B := B) (X := X) (mits_b b1) (mits_x hk))
        have HX2 : Hid _ := hidden x2
        clear hN d0 d2 hl b1 r1 x2 hk HX HR hdr hO
        go_wp2_with fail
        refine hO2.mono ?_
        rintro e w3 ⟨g1, g2, n1, n2, oc, rfl, b3⟩
        have HX4 : Hid _ := hidden ((HX2.out.read b3).read (bel_alloc w3 (.cells #[.int .u64 (os : Int), .int .i64 (oc : Int), .slice (some ⟨g1, 0, none⟩) n1 n1, .slice (some ⟨g2, 0, none⟩) n2 n2, .int .i64 (od : Int)] 140)))
        have HK4 : Hid _ := hidden (mits_t HK2.out (mits_b (b3.trans ((bel_alloc w3 (.cells #[.int .u64 (os : Int), .int .i64 (oc : Int), .slice (some ⟨g1, 0, none⟩) n1 n1, .slice (some ⟨g2, 0, none⟩) n2 n2, .int .i64 (od : Int)] 140)).mono b3.size))))
        clear hO2 b3 HX2 HK2 c0 c2 f2 hl1
        go_wp2
        go_ret
        exact ⟨rfl, HX4.out, HK4.out⟩
end
end Go.Proofs.YtlabdbfmfejkaaaDoor

namespace Go.Proofs.YtlabdbfmfejkaaaDoor
open Go.RowKit

section
variable {w0 w w' : World} {B xb pb hb : Nat} {h h' : HSt} {p p' : PSt} {m m' : MSt} {X : Nat → Prop}
set_option maxRecDepth 20000 in
set_option maxHeartbeats 1000000 in
theorem passOn_any (x : PM w0 B w xb pb hb h p m X) :
    Calls Tryd.prog 72 #[.pointer (some ⟨xb, 0, none⟩)] w fun e w' => e = .returned (.bool (passR h p m).1) ∧ PM w0 B w' xb pb hb h (passR h p m).2.1 (passR h p m).2.2 X ∧ Kept w w' (MIts B X xb) := by
  obtain ⟨ps, r, hps⟩ := x.row
  have hok := x.ph.ok
  have d0 : w.cell? ⟨xb, 0, none⟩ = some (.pointer (some ⟨hb, 0, none⟩)) := r.cell 0 (by simp [mkV])
  have d3 : w.cell? ⟨xb, 3, none⟩ = some (.bool m.on) := r.cell 3 (by simp [mkV])
  have d4 : w.cell? ⟨xb, 4, none⟩ = some (.int .u64 (ps : Int)) := r.cell 4 (by simp [mkV])
  have hl := r.lt
  unfold passR
  cases hon : m.on with
  | false =>
    rw [hon] at d3
    have HX : Hid _ := hidden x
    simp only [Bool.false_eq_true, if_false]
    clear x r hok hps hon d0 d4
    go_enter Tryd.func72, Tryd.ntmps72
    go_wp2
    go_ret
    exact ⟨rfl, HX.out, Kept.refl _ _⟩
  | true =>
    rw [hon] at d3
    have hps' := hps hon
    subst hps'
    simp only [if_true]
    have hdr : Below w.heap.size w w.drew := ⟨rfl, rfl, rfl, Nat.le_refl _, fun _ _ => rfl⟩
    have hN := (x.ph.read hdr).next m.pass
    rw [next_above] at hN
    have HX : Hid _ := hidden x
    have HR : Hid _ := hidden r
    cases ha : aboveC h.cs m.pass with
    | none =>
      rw [ha] at hN
      simp only at hN ⊢
      clear x r ha hok hps
      obtain ⟨pl, mps, mon⟩ := m
      simp only at d4 hN HX HR hon ⊢
      subst hon
      go_enter Tryd.func72, Tryd.ntmps72
      go_upto_region 3 with fail
      go_cut [0] from 8 to 25 (fun a wc => a = .pointer (some ⟨xb, 0, none⟩) ∧ PM w0 B wc xb pb hb h p ⟨pl, mps, false⟩ X ∧ Row wc xb 96 (mkV hb pb pl false 0) ∧ Kept w wc (MIts B X xb))
      case first =>
        go_region_with (go_at_call 84; refine hN.mono ?_; rintro e w4 ⟨rfl, b4⟩; have b5 := hdr.trans b4; have r4 := HR.out.below b5; have f3 := r4.frozen 3; have f4 := r4.frozen 4; have hl4 := r4.lt; have x4 := HX.out.read b5; obtain ⟨z0, z1, z2, z3, z4⟩ := row_c r4)
        all_goals
          go_wp2
          go_meet
          obtain ⟨r5, hk1⟩ := row_pass r4 false 0
          obtain ⟨r6, hk2⟩ := row_pass' r4 false 0
          first
            | exact ⟨rfl, x4.turn hk1 ⟨0, r5, fun e => by cases e⟩, r5, mits_t (mits_b b5) (mits_x hk1)⟩
            | exact ⟨rfl, x4.turn hk2 ⟨0, r6, fun e => by cases e⟩, r6, mits_t (mits_b b5) (mits_x hk2)⟩
      case rest =>
        obtain ⟨rfl, x1, r1, k1⟩ := hcut
        have HX1 : Hid _ := hidden x1
        have HK1 : Hid _ := hidden k1
        have c3 : wc.cell? ⟨xb, 3, none⟩ = some (.bool false) := r1.cell 3 (by simp [mkV])
        have hl1 := r1.lt
        clear x1 r1 k1 hN d0 d3 d4 hl HX HR hdr
        go_wp2
        go_ret
        exact ⟨rfl, HX1.out, HK1.out⟩
    | some o =>
      rw [ha] at hN
      simp only at hN ⊢
      obtain ⟨hm, hlt⟩ := above_mem ha
      have hs64 : o.s < 18446744073709551616 := by
        have := (hok.le o hm).2
        have := hok.last
        omega
      have hSc := fun w1 (y : PH w0 B w1 pb hb h p X) => y.scan o.s hs64
      clear x r ha hok hps hm hlt hs64
      obtain ⟨pl, mps, mon⟩ := m
      simp only at d4 hN HX HR hon ⊢
      subst hon
      generalize scanR h p o.s = sr at *
      generalize p.scan h o.s = p1 at *
      generalize o.s = os at *
      go_enter Tryd.func72, Tryd.ntmps72
      go_upto_region 3 with fail
      go_cut [0] from 8 to 25 (fun a wc => a = .pointer (some ⟨xb, 0, none⟩) ∧ PM w0 B wc xb pb hb h p ⟨pl, os, true⟩ X ∧ Row wc xb 96 (mkV hb pb pl true os) ∧ Kept w wc (MIts B X xb))
      case first =>
        go_region_with (go_at_call 84; refine hN.mono ?_; rintro e w4 ⟨rfl, b4⟩; have b5 := hdr.trans b4; have r4 := HR.out.below b5; have f3 := r4.frozen 3; have f4 := r4.frozen 4; have hl4 := r4.lt; have x4 := HX.out.read b5; obtain ⟨z0, z1, z2, z3, z4⟩ := row_c r4)
        all_goals
          go_wp2
          go_meet
          obtain ⟨r5, hk1⟩ := row_pass r4 true os
          obtain ⟨r6, hk2⟩ := row_pass' r4 true os
          first
            | exact ⟨rfl, x4.turn hk1 ⟨os, r5, fun _ => rfl⟩, r5, mits_t (mits_b b5) (mits_x hk1)⟩
            | exact ⟨rfl, x4.turn hk2 ⟨os, r6, fun _ => rfl⟩, r6, mits_t (mits_b b5) (mits_x hk2)⟩
      case rest =>
        obtain ⟨rfl, x1, r1, k1⟩ := hcut
        obtain ⟨w1, hw1⟩ : ∃ x, x = wc := ⟨_, rfl⟩
        subst hw1
        have hdr1 : Below w1.heap.size w1 w1.drew := ⟨rfl, rfl, rfl, Nat.le_refl _, fun _ _ => rfl⟩
        have HX1 : Hid _ := hidden x1
        have HK1 : Hid _ := hidden k1
        have HR1 : Hid _ := hidden r1
        have hS1 := hSc _ (x1.ph.read hdr1)
        have c1 : w1.cell? ⟨xb, 1, none⟩ = some (.pointer (some ⟨pb, 0, none⟩)) := r1.cell 1 (by simp [mkV])
        have c3 : w1.cell? ⟨xb, 3, none⟩ = some (.bool true) := r1.cell 3 (by simp [mkV])
        have c4 : w1.cell? ⟨xb, 4, none⟩ = some (.int .u64 (os : Int)) := r1.cell 4 (by simp [mkV])
        have hl1 := r1.lt
        clear x1 r1 k1 hN d0 d3 d4 hl HX HR hdr hSc
        go_upto_region 5 with fail
        go_region_with (go_at_call 51; refine hS1.mono ?_; rintro e w4 ⟨rfl, y4, k4⟩; have k5 := (mits_t (mits_b hdr1) (mits_of k4) : Kept w1 w4 (MIts B X xb)); have x4 := (HX1.out.read hdr1).pgo y4 k4; have r4 := its_row k4 HX1.out.xin (HR1.out.below hdr1); have z3 : w4.cell? ⟨xb, 3, none⟩ = some (.bool true) := r4.cell 3 (by simp [mkV]); have hl4 := r4.lt)
        all_goals
          have HX4 : Hid _ := hidden x4
          have HK4 : Hid _ := hidden (mits_t HK1.out k5)
          clear x4 k5 r4 y4 k4
          go_wp2
          go_ret
          exact ⟨rfl, HX4.out, HK4.out⟩
end
end Go.Proofs.YtlabdbfmfejkaaaDoor

namespace Go.Proofs.YtlabdbfmfejkaaaDoor
open Go.RowKit

section
variable {w0 w w' : World} {B xb pb hb : Nat} {h h' : HSt} {p p' : PSt} {m m' : MSt} {X : Nat → Prop}
/-- What is left to be looked at. -/
def leftR (i : Nat) (h : HSt) (p : PSt) (m : MSt) : Bool × PSt × MSt := match i with
  | 0 => stepR h p m
  | 1 => if m.on then match aboveC h.cs m.pass with
      | some o => (true, p.scan h o.s, ⟨m.place, o.s, true⟩)
      | none => tailR h p ⟨m.place, m.pass, false⟩
    else tailR h p m
  | 2 => tailR h p m
  | 3 => placeR h p m
  | _ => (false, p, m)
theorem left0 (h : HSt) (p : PSt) (m : MSt) : leftR 0 h p m = if (popR p).2 then (true, topR h p, m) else leftR 1 h p m := by
  show stepR h p m = _
  unfold stepR popR topR
  cases hg : p.stk.getLast? with
  | none => rfl
  | some a => rfl
theorem left1 (h : HSt) (p : PSt) (m : MSt) : leftR 1 h p m = if (passR h p m).1 then passR h p m else leftR 2 h (passR h p m).2.1 (passR h p m).2.2 := by
  unfold passR leftR
  cases hon : m.on with
  | false => simp
  | true =>
    simp only [if_true]
    cases aboveC h.cs m.pass with
    | none => simp
    | some o => simp
theorem left2 (h : HSt) (p : PSt) (m : MSt) : leftR 2 h p m = if (overR p m).1 then overR p m else leftR 3 h (overR p m).2.1 (overR p m).2.2 := by
  show tailR h p m = _
  unfold overR tailR
  cases p.ov with
  | true => rfl
  | false => rfl
theorem left3 (h : HSt) (p : PSt) (m : MSt) : leftR 3 h p m = if (placeR h p m).1 then placeR h p m else leftR 4 h (placeR h p m).2.1 (placeR h p m).2.2 := by
  show placeR h p m = _
  unfold placeR leftR
  cases aboveC h.cs m.place with
  | none => rfl
  | some o => rfl
theorem top_none {p : PSt} (h : HSt) (hp : (popR p).2 = false) : topR h p = p := by
  unfold popR at hp
  unfold topR
  cases hg : p.stk.getLast? with
  | none => rfl
  | some a => rw [hg] at hp; cases hp
theorem pass_no {h : HSt} {p : PSt} {m : MSt} (hp : (passR h p m).1 = false) : (passR h p m).2.1 = p := by
  unfold passR at hp ⊢
  cases hon : m.on with
  | false => rfl
  | true =>
    rw [hon] at hp
    simp only [if_true] at hp ⊢
    cases ha : aboveC h.cs m.pass with
    | none => rfl
    | some o => rw [ha] at hp; cases hp
theorem over_no {p : PSt} {m : MSt} (hp : (overR p m).1 = false) : (overR p m).2.1 = p := by
  unfold overR at hp ⊢
  cases ho : p.ov with
  | false => rfl
  | true => rw [ho] at hp; cases hp
theorem place_no {h : HSt} {p : PSt} {m : MSt} (hp : (placeR h p m).1 = false) : (placeR h p m).2.1 = p := by
  unfold placeR at hp ⊢
  cases ha : aboveC h.cs m.place with
  | none => rfl
  | some o => rw [ha] at hp; cases hp

theorem SB.step (ok : h.Ok) (hs : SB p) : SB (stepR h p m).2.1 := by
  have hT : ∀ (p : PSt) (m : MSt), SB p → SB (tailR h p m).2.1 := fun p m hs => by
    unfold tailR
    split
    · exact hs
    · split
      · exact hs
      · show SB (if _ then _ else _)
        split
        · exact hs.shade ok _ _
        · exact hs
  unfold stepR
  split
  · exact hs.pop.scan ok _
  · split
    · split
      · exact hs.scan ok _
      · exact hT _ _ hs
    · exact hT _ _ hs
theorem SB.new (M : Nat) : SB (PSt.new M) := fun s hs => by cases hs

set_option maxRecDepth 20000 in
set_option maxHeartbeats 2000000 in
theorem mstep_any (x : PM w0 B w xb pb hb h p m X) (hs : SB p) :
    Calls Tryd.prog 39 #[.pointer (some ⟨xb, 0, none⟩)] w fun e w' => e = .returned (.bool (stepR h p m).1) ∧ PM w0 B w' xb pb hb h (stepR h p m).2.1 (stepR h p m).2.2 X ∧ Kept w w' (MIts B X xb) := by
  have HX : Hid _ := hidden x
  have HS : Hid (SB p) := hs
  clear x hs
  go_enter Tryd.func39, Tryd.ntmps39
  go_wp2
  go_step3
  go_wp2
  go_step3
  go_wp2
  go_loopw [3] (fun t wr => ∃ (i : Nat) (m' : MSt), i ≤ 4 ∧ t = .int .i64 (i : Int) ∧ leftR i h p m' = stepR h p m ∧ PM w0 B wr xb pb hb h p m' X ∧ Kept w wr (MIts B X xb)) (fun t _ => 5 - (intOf t).toNat)
  case atStart => exact ⟨0, m, by omega, rfl, rfl, HX.out, Kept.refl _ _⟩
  case round =>
    clear HX
    obtain ⟨i, m', hi, rfl, hE, x, k⟩ := hrel
    have hcase : i = 0 ∨ i = 1 ∨ i = 2 ∨ i = 3 ∨ i = 4 := by omega
    have HK : Hid _ := hidden k
    clear hi k
    rcases hcase with rfl | rfl | rfl | rfl | rfl
    · have hT := scanTop_any x HS.out
      rw [left0] at hE
      have hno := top_none (p := p) h
      have HE : Hid _ := hidden hE
      have HN : Hid _ := hidden hno
      clear hE hno x
      generalize topR h p = p1 at *
      generalize (popR p).2 = b at *
      cases b with
      | true =>
        go_wp2_with fail
        refine hT.mono ?_
        rintro e w1 ⟨rfl, x1, k1⟩
        have HX1 : Hid _ := hidden x1
        have HK1 : Hid _ := hidden (mits_t HK.out k1)
        clear hT x1 k1
        go_wp2
        try rw [Exit.noGoto_ret]
        go_ret
        have e := HE.out
        simp only [if_true] at e
        rw [← e]
        exact ⟨rfl, HX1.out, HK1.out⟩
      | false =>
        go_wp2_with fail
        refine hT.mono ?_
        rintro e w1 ⟨rfl, x1, k1⟩
        rw [HN.out (by simp)] at x1
        have HX1 : Hid _ := hidden x1
        have HK1 : Hid _ := hidden (mits_t HK.out k1)
        clear hT x1 k1
        go_wp2
        go_roundw
        case rel => exact ⟨1, m', by omega, by go_num, HE.out, HX1.out, HK1.out⟩
        case measure => simp [intOf]
    · have hT := passOn_any x
      rw [left1] at hE
      have hno := pass_no (h := h) (p := p) (m := m')
      have HE : Hid _ := hidden hE
      have HN : Hid _ := hidden hno
      clear hE hno x
      generalize passR h p m' = R at *
      obtain ⟨b, p1, m1⟩ := R
      simp only at hT HE HN
      cases b with
      | true =>
        go_wp2_with fail
        refine hT.mono ?_
        rintro e w1 ⟨rfl, x1, k1⟩
        have HX1 : Hid _ := hidden x1
        have HK1 : Hid _ := hidden (mits_t HK.out k1)
        clear hT x1 k1
        go_wp2
        try rw [Exit.noGoto_ret]
        go_ret
        have e := HE.out
        simp only [if_true] at e
        rw [← e]
        exact ⟨rfl, HX1.out, HK1.out⟩
      | false =>
        go_wp2_with fail
        refine hT.mono ?_
        rintro e w1 ⟨rfl, x1, k1⟩
        have he := HN.out (by simp)
        subst he
        have HX1 : Hid _ := hidden x1
        have HK1 : Hid _ := hidden (mits_t HK.out k1)
        clear hT x1 k1
        go_wp2
        go_roundw
        case rel => exact ⟨2, m1, by omega, by go_num, HE.out, HX1.out, HK1.out⟩
        case measure => simp [intOf]
    · have hT := beginPass_any x
      rw [left2] at hE
      have hno := over_no (p := p) (m := m')
      have HE : Hid _ := hidden hE
      have HN : Hid _ := hidden hno
      clear hE hno x
      generalize overR p m' = R at *
      obtain ⟨b, p1, m1⟩ := R
      simp only at hT HE HN
      cases b with
      | true =>
        go_wp2_with fail
        refine hT.mono ?_
        rintro e w1 ⟨rfl, x1, k1⟩
        have HX1 : Hid _ := hidden x1
        have HK1 : Hid _ := hidden (mits_t HK.out k1)
        clear hT x1 k1
        go_wp2
        try rw [Exit.noGoto_ret]
        go_ret
        have e := HE.out
        simp only [if_true] at e
        rw [← e]
        exact ⟨rfl, HX1.out, HK1.out⟩
      | false =>
        go_wp2_with fail
        refine hT.mono ?_
        rintro e w1 ⟨rfl, x1, k1⟩
        have he := HN.out (by simp)
        subst he
        have HX1 : Hid _ := hidden x1
        have HK1 : Hid _ := hidden (mits_t HK.out k1)
        clear hT x1 k1
        go_wp2
        go_roundw
        case rel => exact ⟨3, m1, by omega, by go_num, HE.out, HX1.out, HK1.out⟩
        case measure => simp [intOf]
    · have hT := shadeNext_any x
      rw [left3] at hE
      have hno := place_no (h := h) (p := p) (m := m')
      have HE : Hid _ := hidden hE
      have HN : Hid _ := hidden hno
      clear hE hno x
      generalize placeR h p m' = R at *
      obtain ⟨b, p1, m1⟩ := R
      simp only at hT HE HN
      cases b with
      | true =>
        go_wp2_with fail
        refine hT.mono ?_
        rintro e w1 ⟨rfl, x1, k1⟩
        have HX1 : Hid _ := hidden x1
        have HK1 : Hid _ := hidden (mits_t HK.out k1)
        clear hT x1 k1
        go_wp2
        try rw [Exit.noGoto_ret]
        go_ret
        have e := HE.out
        simp only [if_true] at e
        rw [← e]
        exact ⟨rfl, HX1.out, HK1.out⟩
      | false =>
        go_wp2_with fail
        refine hT.mono ?_
        rintro e w1 ⟨rfl, x1, k1⟩
        have he := HN.out (by simp)
        subst he
        have HX1 : Hid _ := hidden x1
        have HK1 : Hid _ := hidden (mits_t HK.out k1)
        clear hT x1 k1
        go_wp2
        go_roundw
        case rel => exact ⟨4, m1, by omega, by go_num, HE.out, HX1.out, HK1.out⟩
        case measure => simp [intOf]
    · have HX1 : Hid _ := hidden x
      have HE : Hid _ := hidden hE
      clear x hE
      go_wp2
      try rw [Exit.noGoto_ret]
      go_ret
      rw [← HE.out]
      exact ⟨rfl, HX1.out, HK.out⟩
/-- Blocks that are new are none of a paint's. -/
theorem PH.fresh (x : PH w0 B w pb hb h p X) (hB : Below w.heap.size w w') : PH w0 B w' pb hb h p (fun k => X k ∨ (w.heap.size ≤ k ∧ k < w'.heap.size)) := by
  obtain ⟨F, G, hp, hn, hF, hG⟩ := x.ex
  have hlt := hp.lt
  have hlg := hn.lt
  refine ⟨⟨F, G, hp.below hB, hn.below hB, fun k hk => ⟨(hF k hk).1, fun e => ?_, (hF k hk).2.2⟩, fun k hk e => ?_⟩, x.bel.trans (hB.mono x.le), Nat.le_trans x.le hB.size, fun k e => ?_, x.pos⟩
  · rcases e with e | e
    · exact (hF k hk).2.1 e
    · have := hlt k hk
      omega
  · rcases e with e | e
    · exact hG k hk e
    · have := hlg k hk
      omega
  · rcases e with e | e
    · exact Nat.lt_of_lt_of_le (x.xs k e) hB.size
    · exact e.2
/-- A marker is new. -/
theorem PH.mnew (x : PH w0 B w pb hb h p X) :
    Calls Tryd.prog 12 #[.pointer (some ⟨hb, 0, none⟩), .pointer (some ⟨pb, 0, none⟩)] w fun e w' => e = .returned (.tuple #[.pointer (some ⟨w.heap.size, 0, none⟩), .int .i64 0]) ∧ PM w0 B w' w.heap.size pb hb h p ⟨0, 0, false⟩ (fun k => X k ∨ k = w.heap.size) ∧ Below w.heap.size w w' := by
  refine (mnew_ok hb pb w).mono ?_
  rintro e w' ⟨he, r, hlt, hB⟩
  exact ⟨he, ⟨(x.fresh hB).off _ (fun k e => by
    rcases e with e | e
    · exact Or.inl e
    · exact Or.inr ⟨by omega, by omega⟩), ⟨0, r, fun e => by cases e⟩, Or.inr rfl, x.le⟩, hB⟩
end
end Go.Proofs.YtlabdbfmfejkaaaDoor

namespace Go.Proofs.YtlabdbfmfejkaaaDoor
open Go.RowKit

/-- The example's graph: one object, no reference, its distance two. -/
def gk : Gr := ⟨[(.slice none 0 0, [])], [], [8]⟩
/-- No graph. -/
def gz : Gr := ⟨[], [], []⟩
theorem ws_nil {α : Type} (w : World) (c : Nat) (f : α → List Value) : WS w (.slice none 0 0) c f [] := ⟨none, 0, rfl, Nat.le_refl _, fun _ => rfl, fun h => absurd rfl h⟩
theorem gz_gi (w : World) : GI w (.slice none 0 0) (.slice none 0 0) (.slice none 0 0) gz := ⟨ws_nil w 1 cR, (fun x hx => by cases hx), ws_nil w 1 cB, ws_nil w 1 cI, by show 0 ≤ _; omega, by show 0 ≤ _; omega⟩
theorem gk_gi {w : World} {b d : Nat} (h1 : w.cell? ⟨b, 0, none⟩ = some (.slice none 0 0)) (h2 : w.cell? ⟨d, 0, none⟩ = some (.int .i64 8)) : GI w (.slice (some ⟨b, 0, none⟩) 1 1) (.slice none 0 0) (.slice (some ⟨d, 0, none⟩) 1 1) gk := by
  refine ⟨⟨some ⟨b, 0, none⟩, 1, rfl, Nat.le_refl _, (fun e => by cases e), fun _ => ⟨b, 0, rfl, cell_lt h1, fun i hi j u hu => ?_⟩⟩, fun x hx => ?_, ws_nil w 1 cB, ⟨some ⟨d, 0, none⟩, 1, rfl, Nat.le_refl _, (fun e => by cases e), fun _ => ⟨d, 0, rfl, cell_lt h2, fun i hi j u hu => ?_⟩⟩, by show 0 ≤ _; omega, by show 1 ≤ _; omega⟩
  · have hi' : i < 1 := hi
    obtain rfl : i = 0 := by omega
    match j, hu with
    | 0, hu => cases hu; exact h1
  · have hx' : x ∈ [((.slice none 0 0 : Value), ([] : List Int))] := hx
    rw [List.mem_singleton.1 hx']
    exact ws_nil w 1 cI
  · have hi' : i < 1 := hi
    obtain rfl : i = 0 := by omega
    match j, hu with
    | 0, hu => cases hu; exact h2
/-- The example's heap. -/
theorem gk_heap {h : HSt} (m : M2 gk 1 1 0 h) : ∃ c vl, h.cs = [⟨1, c, [], vl, 2⟩] := by
  have hl := m.len
  obtain ⟨o, h1, h2, _⟩ := m.at_ 0 (by omega)
  obtain ⟨o', h3, h4⟩ := m.dis 0 (by omega)
  rw [h1] at h3
  cases h3
  have hd : distR gk 0 = 2 := by decide
  rw [hd] at h4
  obtain ⟨hm, hs⟩ := getC_mem h1
  have hf : fl gk 0 = 0 := by decide
  rw [hf] at h2
  match hc : h.cs, hl with
  | [q], _ =>
    rw [hc] at hm
    have e := List.mem_singleton.1 hm
    subst e
    obtain ⟨s, c, rf, vl, d⟩ := o
    simp only at hs h2 h4
    have hr : rf = [] := List.eq_nil_of_length_eq_zero h2
    have hd' : d = 2 := by omega
    subst hr hd' hs
    exact ⟨c, vl, rfl⟩
def pm1 : PSt := ⟨0, 2, [1], false, [(1, (2, true))], []⟩
def pm2 : PSt := ⟨0, 2, [], false, [(1, (2, false))], []⟩
theorem gk_steps {h : HSt} (m : M2 gk 1 1 0 h) : stepR h (PSt.new 2) ⟨0, 0, false⟩ = (true, pm1, ⟨1, 0, false⟩) ∧ markR h pm1 1 = (2, true, true) ∧ stepR h pm1 ⟨1, 0, false⟩ = (true, pm2, ⟨1, 0, false⟩) ∧ stepR h pm2 ⟨1, 0, false⟩ = (false, pm2, ⟨1, 0, false⟩) := by
  obtain ⟨c, vl, hc⟩ := gk_heap m
  have hn := m.node
  obtain ⟨nd, mo, la, bs, cs⟩ := h
  simp only at hc hn
  subst hc hn
  exact ⟨rfl, rfl, rfl, rfl⟩
theorem gz_step {h : HSt} (m : M2 gz 0 0 0 h) : (stepR h (PSt.new 2) ⟨0, 0, false⟩).1 = false := by
  have hl := m.len
  obtain ⟨nd, mo, la, bs, cs⟩ := h
  simp only at hl
  have := List.eq_nil_of_length_eq_zero hl
  subst this
  rfl

set_option maxRecDepth 20000 in
set_option maxHeartbeats 1000000 in
theorem mknown_any (w : World) (hT : TB w) :
    Calls Tryd.prog 9 #[] w fun e w' => e = .returned (.bool true) ∧ Below w.heap.size w w' := by
  obtain ⟨wA, hwA⟩ : ∃ z, z = ((w.alloc (.cells #[.slice none 0 0] 24)).alloc (.cells #[.int .i64 8] 3)).alloc (.cells #[.slice (some ⟨w.heap.size, 0, none⟩) 1 1, .slice none 0 0, .slice (some ⟨w.heap.size + 1, 0, none⟩) 1 1] 26) := ⟨_, rfl⟩
  have hbA : Below w.heap.size w wA := by
    rw [hwA]
    exact ((bel_alloc w _).alloc (by simp) _).alloc (by simp; omega) _
  have hg : GI wA (.slice (some ⟨w.heap.size, 0, none⟩) 1 1) (.slice none 0 0) (.slice (some ⟨w.heap.size + 1, 0, none⟩) 1 1) gk := by
    rw [hwA]
    have e1 : (w.alloc (.cells #[.slice none 0 0] 24)).heap.size = w.heap.size + 1 := by simp
    have e2 : ((w.alloc (.cells #[.slice none 0 0] 24)).alloc (.cells #[.int .i64 8] 3)).heap.size = w.heap.size + 2 := by simp
    refine gk_gi ?_ ?_
    · refine (((bel_alloc (w.alloc (.cells #[.slice none 0 0] 24)) _).alloc (by omega) _).cell (p := ⟨w.heap.size, 0, none⟩) (by show w.heap.size < _; omega)).trans ?_
      simp
    · refine ((bel_alloc ((w.alloc (.cells #[.slice none 0 0] 24)).alloc (.cells #[.int .i64 8] 3)) _).cell (p := ⟨w.heap.size + 1, 0, none⟩) (by show w.heap.size + 1 < _; omega)).trans ?_
      have e3 : w.heap.size + 1 = (w.alloc (.cells #[.slice none 0 0] 24)).heap.size := by omega
      rw [e3]
      generalize w.alloc (.cells #[.slice none 0 0] 24) = w1
      simp
  have hH := heaps_at hg (hT.below hbA) 3 (by omega)
  rw [hwA] at hH
  have HA : Hid (Below w.heap.size w wA) := hbA
  have HWA : Hid _ := hidden hwA
  clear hbA hg hwA hT
  go_enter Tryd.func9, Tryd.ntmps9
  go_wp2_with fail
  refine hH.mono ?_
  rw [← HWA.out]
  rintro e w1 ⟨hb, rb, h, rfl, y1, m1⟩
  have hP := y1.pl 2 (by omega) (by omega)
  have hok := y1.ok
  obtain ⟨s1, s2, s3, s4⟩ := gk_steps (h := h) m1
  clear hH HWA m1 y1
  go_wp2_with fail
  refine hP.mono ?_
  rintro e w2 ⟨pb, rfl, z2, b2⟩
  have hM := z2.ph.mnew
  clear hP z2 b2
  go_wp2_with fail
  refine hM.mono ?_
  rintro e w3 ⟨rfl, x3, b3⟩
  generalize w2.heap.size = xb at *
  have hS := mstep_any x3 (SB.new 2)
  rw [s1] at hS
  clear hM x3 b3
  go_wp2_with fail
  refine hS.mono ?_
  rintro e w4 ⟨rfl, x4, k4⟩
  have hK := x4.ph.mark 1 (by omega)
  rw [s2] at hK
  clear hS k4
  go_wp2_with fail
  refine hK.mono ?_
  rintro e w5 ⟨rfl, b5⟩
  have x5 := x4.read b5
  have hS := mstep_any x5 (by intro s hs; simp [pm1] at hs; omega)
  rw [s3] at hS
  clear hK x4 b5 x5
  go_wp2_with fail
  refine hS.mono ?_
  rintro e w6 ⟨rfl, x6, k6⟩
  have hS2 := mstep_any x6 (by intro s hs; simp [pm2] at hs)
  rw [s4] at hS2
  clear hS k6 x6 s1 s2 s3 s4
  go_wp2_with fail
  refine hS2.mono ?_
  rintro e w7 ⟨rfl, x7, k7⟩
  have HB : Hid _ := hidden (HA.out.trans (x7.ph.bel.mono HA.out.size))
  clear hS2 k7 x7
  go_wp2
  go_ret
  exact ⟨rfl, HB.out⟩

end Go.Proofs.YtlabdbfmfejkaaaDoor
