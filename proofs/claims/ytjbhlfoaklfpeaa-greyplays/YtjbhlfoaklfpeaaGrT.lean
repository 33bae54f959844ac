/- Both stacks side by side; ints. -/
import Derived.Test.YtjbhlfoaklfpeaaGrR
import Derived.Test.YtjbhlfoaklfpeaaVsl
import Derived.Test.YtjbhlfoaklfpeaaPick
namespace Go.Proofs.Ytjbhlfoaklfpeaa
open Go.RowKit

def pushB (M : Nat) (xs : List Int) : Bool := decide (xs.length < M)
def pushL (M : Nat) (xs : List Int) (a : Int) : List Int := if xs.length < M then xs ++ [a] else xs
def pushO (M : Nat) (xs : List Int) (ov : Bool) : Bool := if xs.length < M then ov else true
def popV (xs : List Int) : Int := xs.getLast?.getD 0
def popB (xs : List Int) : Bool := !xs.isEmpty

theorem pushI_any {w : World} {sb base : Nat} {v : Value} {M : Nat} {xs : List Int} {ov : Bool} (x : SKI w sb base v M xs ov) (a : Int) (hbase : base ≤ w.heap.size) :
    Calls Try.prog 21 #[.pointer (some ⟨sb, 0, none⟩), .int .i64 a] w fun e w' => e = .returned (.bool (pushB M xs)) ∧ ∃ v', GoI w w' sb base v v' M (pushL M xs a) (pushO M xs ov) := by
  unfold pushB pushL pushO
  by_cases h : xs.length < M
  · rw [if_pos h, if_pos h, decide_eq_true h]
    exact pushI_room x h a hbase
  · have hM : xs.length = M := by have := x.few.1; rw [List.length_map] at this; omega
    rw [if_neg h, if_neg h, decide_eq_false h]
    exact (pushI_full x hM a).mono (fun _ _ ⟨e, g⟩ => ⟨e, v, g⟩)
theorem rpush_any {w : World} {sb base : Nat} {v : Value} {M : Nat} {xs : List Int} {ov : Bool} (x : SKR w sb base v M xs ov) (a : Int) (hbase : base ≤ w.heap.size) :
    Calls Try.prog 22 #[.pointer (some ⟨sb, 0, none⟩), .int .i64 a] w fun e w' => e = .returned (.bool (pushB M xs)) ∧ ∃ v', GoR w w' sb base v v' M (pushL M xs a) (pushO M xs ov) := by
  unfold pushB pushL pushO
  by_cases h : xs.length < M
  · rw [if_pos h, if_pos h, decide_eq_true h]
    exact rpush_room x h a hbase
  · have hM : xs.length = M := by have := x.few.1; rw [List.length_map] at this; omega
    rw [if_neg h, if_neg h, decide_eq_false h]
    exact (rpush_full x hM a).mono (fun _ _ ⟨e, g⟩ => ⟨e, v, g⟩)
theorem last_some {xs : List Int} {a : Int} : popV (xs ++ [a]) = a ∧ popB (xs ++ [a]) = true ∧ (xs ++ [a]).dropLast = xs := by
  refine ⟨by simp [popV], by simp [popB], by simp⟩
theorem popI_any {w : World} {sb base : Nat} {v : Value} {M : Nat} {xs : List Int} {ov : Bool} (x : SKI w sb base v M xs ov) :
    Calls Try.prog 17 #[.pointer (some ⟨sb, 0, none⟩)] w fun e w' => e = .returned (.tuple #[.int .i64 (popV xs), .bool (popB xs)]) ∧ ∃ v', GoI w w' sb base v v' M xs.dropLast ov := by
  rcases List.eq_nil_or_concat xs with rfl | ⟨l, a, h⟩
  · refine (popI_none x).mono ?_
    rintro e _ ⟨rfl, rfl⟩
    exact ⟨rfl, v, Go1.refl x (Below.refl _ _)⟩
  · rw [List.concat_eq_append] at h
    rw [h] at x ⊢
    obtain ⟨h1, h2, h3⟩ := last_some (xs := l) (a := a)
    rw [h1, h2, h3]
    exact popI_some x
theorem rpop_any {w : World} {sb base : Nat} {v : Value} {M : Nat} {xs : List Int} {ov : Bool} (x : SKR w sb base v M xs ov) :
    Calls Try.prog 18 #[.pointer (some ⟨sb, 0, none⟩)] w fun e w' => e = .returned (.tuple #[.int .i64 (popV xs), .bool (popB xs)]) ∧ ∃ v', GoR w w' sb base v v' M xs.dropLast ov := by
  rcases List.eq_nil_or_concat xs with rfl | ⟨l, a, h⟩
  · refine (rpop_none x).mono ?_
    rintro e _ ⟨rfl, rfl⟩
    exact ⟨rfl, v, Go1.refl x (Below.refl _ _)⟩
  · rw [List.concat_eq_append] at h
    rw [h] at x ⊢
    obtain ⟨h1, h2, h3⟩ := last_some (xs := l) (a := a)
    rw [h1, h2, h3]
    exact rpop_some x

/-- The program's stack at sb, the plain one at rb: both from B on, apart; below B all is as it was in w0. -/
structure TW (w0 : World) (B : Nat) (w : World) (sb rb : Nat) (v u : Value) (M : Nat) (xs : List Int) (ox : Bool) (ys : List Int) (oy : Bool) : Prop where
  s : SKI w sb B v M xs ox
  r : SKR w rb B u M ys oy
  ge : B ≤ sb ∧ B ≤ rb
  ap : ∀ k, sBl sb v k → sBl rb u k → False
  bel : Below B w0 w
  le : B ≤ w.heap.size
section
variable {w0 w w' : World} {B sb rb M : Nat} {v u v' : Value} {xs ys xs' : List Int} {ox oy ox' : Bool}
theorem TW.read (t : TW w0 B w sb rb v u M xs ox ys oy) (hb : Below w.heap.size w w') : TW w0 B w' sb rb v u M xs ox ys oy :=
  ⟨t.s.below hb, t.r.below hb, t.ge, t.ap, t.bel.trans (hb.mono t.le), Nat.le_trans t.le hb.size⟩
theorem moved_bl {b : Nat} {y : Value} (hlt : ∀ k, sBl b y k → k < w.heap.size) (ap : ∀ k, sBl sb v k → sBl b y k → False) (hm : Moved w v v') : ∀ k, sBl sb v' k → sBl b y k → False := by
  intro k h1 h2
  rcases h1 with h1 | h1
  · exact ap k (Or.inl h1) h2
  · rcases hm k h1 with h | h
    · exact ap k (Or.inr h) h2
    · have := hlt k h2
      omega
theorem bl_ge {T E : TypeId} {l : List Value} {o : Bool} (x : SK w sb B T E v M l o) (h : B ≤ sb) : ∀ k, sBl sb v k → B ≤ k := by
  intro k hk
  rcases hk with rfl | hk
  · exact h
  · exact (own_lt x.own k hk).1
theorem TW.sgo (t : TW w0 B w sb rb v u M xs ox ys oy) (g : GoI w w' sb B v v' M xs' ox') : TW w0 B w' sb rb v' u M xs' ox' ys oy :=
  ⟨g.x, t.r.kept g.k (fun k h e => t.ap k e h), t.ge, moved_bl t.r.lt t.ap g.m, t.bel.trans (g.k.below t.le (fun i hi e => by have := bl_ge t.s t.ge.1 i e; omega)), Nat.le_trans t.le g.k.size⟩
theorem TW.rgo (t : TW w0 B w sb rb v u M xs ox ys oy) (g : GoR w w' rb B u v' M xs' ox') : TW w0 B w' sb rb v v' M xs ox xs' ox' :=
  ⟨t.s.kept g.k (fun k h e => t.ap k h e), g.x, t.ge, fun k h1 h2 => moved_bl t.s.lt (fun k h1 h2 => t.ap k h2 h1) g.m k h2 h1, t.bel.trans (g.k.below t.le (fun i hi e => by have := bl_ge t.r t.ge.2 i e; omega)), Nat.le_trans t.le g.k.size⟩
/-- A list elsewhere is written. -/
theorem TW.other (t : TW w0 B w sb rb v u M xs ox ys oy) {P : Nat → Prop} (hk : Kept w w' P) (h1 : ∀ k, P k → B ≤ k) (h2 : ∀ k, P k → ¬ sBl sb v k ∧ ¬ sBl rb u k) : TW w0 B w' sb rb v u M xs ox ys oy :=
  ⟨t.s.kept hk (fun k h e => (h2 k e).1 h), t.r.kept hk (fun k h e => (h2 k e).2 h), t.ge, t.ap, t.bel.trans (hk.below t.le (fun i hi e => by have := h1 i e; omega)), Nat.le_trans t.le hk.size⟩
end

theorem own_vs {w : World} {base : Nat} {E : TypeId} {v : Value} {l : List Value} (h : w.ownsRow base E 1 v l.length l) : Vs w v l := by
  rcases h.2 with ⟨rfl, h0⟩ | ⟨g, cap, cur, rfl, hb, hg, hn, hm, hs, ht⟩
  · have : l = [] := List.eq_nil_of_length_eq_zero h0
    subst this
    exact ⟨none, 0, rfl, ⟨Nat.le_refl _, fun _ => rfl⟩, fun h => absurd rfl h⟩
  · refine ⟨_, cap, rfl, ⟨hn, fun h => by cases h⟩, fun _ => ⟨g, 0, rfl, (Array.getElem?_eq_some_iff.1 hg).1, fun i u hu => ?_⟩⟩
    rw [Nat.zero_add, cell_of_row w g i _ _ _ hg]
    have hi := (List.getElem?_eq_some_iff.1 hu).1
    rw [Nat.mul_one] at ht
    rw [← ht, List.getElem?_take_of_lt hi] at hu
    simpa using hu
theorem row_vs {w : World} {g : Nat} {T : TypeId} {l : List Value} (h : Row w g T l) : Vs w (.slice (some ⟨g, 0, none⟩) l.length l.length) l :=
  ⟨_, _, rfl, ⟨Nat.le_refl _, fun h => by cases h⟩, fun _ => ⟨g, 0, rfl, h.lt, fun i u hu => by
    have hi := (List.getElem?_eq_some_iff.1 hu).1
    rw [Nat.zero_add, h.cell i hi]
    exact (List.getElem?_eq_getElem hi).symm.trans hu⟩⟩

set_option maxRecDepth 20000 in
set_option maxHeartbeats 1000000 in
theorem ints_any (xs : List Int) (va vb : Value) (w : World) (ha : Vs w va (xs.map (Value.int .i64))) (hb : Vs w vb (xs.map (Value.int .i64))) (hl : xs.length ≤ 64) :
    Calls Try.prog 26 #[va, vb] w fun e w' => e = .returned (.bool true) ∧ Below w.heap.size w w' := by
  obtain ⟨ao, ac, hae, _, _⟩ := id ha
  obtain ⟨bo, bc, hbe, _, _⟩ := id hb
  rw [List.length_map] at hae hbe
  subst hae hbe
  go_enter Try.func26, Try.ntmps26
  go_wp2
  go_loopw [5] (fun i wr => ∃ k : Nat, k ≤ xs.length ∧ i = .int .i64 (k : Int) ∧ Below w.heap.size w wr) (fun i _ => xs.length - (intOf i).toNat)
  case atStart => exact ⟨0, Nat.zero_le _, rfl, Below.refl _ _⟩
  case round =>
    obtain ⟨k, hk, rfl, hbr⟩ := hrel
    by_cases hlt : k < xs.length
    · obtain ⟨b1, o1, hao, hbl1, hc1⟩ := (ha.below hbr).cell k (by simpa using hlt)
      obtain ⟨b2, o2, hbo, hbl2, hc2⟩ := (hb.below hbr).cell k (by simpa using hlt)
      subst hao hbo
      simp only [List.getElem_map] at hc1 hc2
      have hk0 : (k : Int) < (xs.length : Int) := by omega
      generalize xs[k] = x at *
      go_wp2
      go_quiet (fail)
      go_wp2
      go_roundw
      case rel => exact ⟨k + 1, by omega, by go_num, hbr.trans ((below_drewN0 _ _).mono hbr.size)⟩
      case measure => simp [intOf]; omega
    · go_wp2
      go_ret
      exact ⟨rfl, hbr⟩

end Go.Proofs.Ytjbhlfoaklfpeaa
