/- Paints, reckoned: marks, what was met, the stack. No program's text is in it but what PaMap has. -/
import Derived.Test.YtbgaejjoomnklaaDoorPaMap
import Derived.Test.YtbgaejjoomnklaaDoorHpR
import Derived.Test.YtbgaejjoomnklaaDoorGrU
namespace Go.Proofs.YtbgaejjoomnklaaDoor
open Go.RowKit

section
variable {κ β : Type} [DecidableEq κ]
/-- What stands at a key; a key's value is another one, or new; a key is gone. -/
def getA (l : List (κ × β)) (x : κ) : Option β := (l.find? (fun p => decide (p.1 = x))).map (·.2)
def putA (l : List (κ × β)) (x : κ) (v : β) : List (κ × β) := if (getA l x).isSome then l.map (fun p => if p.1 = x then (x, v) else p) else l ++ [(x, v)]
def delA (l : List (κ × β)) (x : κ) : List (κ × β) := l.filter (fun p => decide (p.1 ≠ x))
theorem look_map (f : β → Value) (l : List (κ × β)) (x : κ) : lookQ (l.map (fun e => (e.1, f e.2))) x = (getA l x).map f := by
  unfold lookQ getA
  rw [List.find?_map, Option.map_map, Option.map_map]
  rfl
theorem put_map (f : β → Value) (l : List (κ × β)) (x : κ) (v : β) : putQ (l.map (fun e => (e.1, f e.2))) x (f v) = (putA l x v).map (fun e => (e.1, f e.2)) := by
  unfold putQ putA
  rw [look_map, Option.isSome_map]
  split
  · unfold updQ
    rw [List.map_map, List.map_map]
    apply List.map_congr_left
    intro p _
    simp only [Function.comp]
    split <;> rfl
  · simp
theorem getA_put (l : List (κ × β)) (x : κ) (v : β) (y : κ) : getA (putA l x v) y = if y = x then some v else getA l y := by
  unfold putA
  split
  · next h =>
    obtain ⟨u, hu⟩ := Option.isSome_iff_exists.1 h
    clear h
    unfold getA at *
    induction l with
    | nil => cases hu
    | cons p l ih =>
      rw [List.map_cons, List.find?_cons, List.find?_cons]
      by_cases hp : p.1 = x
      · rw [if_pos hp]
        by_cases hy : y = x
        · subst hy
          simp
        · rw [if_neg hy]
          have h1 : decide ((x, v).1 = y) = false := decide_eq_false (fun e => hy e.symm)
          have h2 : decide (p.1 = y) = false := decide_eq_false (fun e => hy (e.symm.trans hp))
          rw [h1, h2]
          clear ih hu hp h2
          induction l with
          | nil => rfl
          | cons q l ih2 =>
            rw [List.map_cons, List.find?_cons, List.find?_cons]
            by_cases hq : q.1 = x
            · rw [if_pos hq, h1]
              have h3 : decide (q.1 = y) = false := decide_eq_false (fun e => hy (e.symm.trans hq))
              rw [h3]
              exact ih2
            · rw [if_neg hq]
              cases hd : decide (q.1 = y)
              · exact ih2
              · rfl
      · rw [if_neg hp]
        have hne : decide (p.1 = x) = false := decide_eq_false hp
        rw [List.find?_cons, hne] at hu
        have := ih hu
        by_cases hy : y = x
        · subst hy
          rw [hne]
          exact this
        · cases hd : decide (p.1 = y)
          · exact this
          · rw [if_neg hy]
  · next h =>
    have hn : getA l x = none := by simpa using h
    unfold getA at *
    rw [List.find?_append]
    by_cases hy : y = x
    · subst hy
      rw [Option.map_eq_none_iff] at hn
      rw [hn]
      simp
    · rw [if_neg hy]
      have h1 : decide ((x, v).1 = y) = false := decide_eq_false (fun e => hy e.symm)
      rw [List.find?_cons, h1]
      cases List.find? (fun p => decide (p.1 = y)) l <;> rfl
theorem getA_del (l : List (κ × β)) (x y : κ) : getA (delA l x) y = if y = x then none else getA l y := by
  unfold getA delA
  rw [List.find?_filter]
  by_cases h : y = x
  · subst h
    rw [if_pos rfl, Option.map_eq_none_iff, List.find?_eq_none]
    intro p _
    simp
  · rw [if_neg h]
    congr 2
    funext p
    by_cases e : p.1 = y
    · simp [e, h]
    · simp [e]
theorem putA_len (l : List (κ × β)) (x : κ) (v : β) : (putA l x v).length ≤ l.length + 1 ∧ l.length ≤ (putA l x v).length := by
  unfold putA
  split <;> simp
end

/-- A paint: how many turns, what may be on the stack, what is (the lowest first), whether it is over, the marks, what was met. -/
structure PSt where
  turns : Nat
  M : Nat
  stk : List Nat
  ov : Bool
  ma : List (Nat × (Nat × Bool))
  me : List ((Int × Nat) × Nat)
/-- Is an ID right, and not none? -/
def namesB (x : Int × Nat) : Bool := decide (1 ≤ x.1) && decide (x.1 ≤ 64) && decide (1 ≤ x.2) && decide (x.2 ≤ 72057594037927935)
/-- A rank within 0 and 40. -/
def clampR (r : Int) : Nat := (min (max r 0) 40).toNat
theorem clampR_le (r : Int) : clampR r ≤ 40 := by unfold clampR; omega
/-- A serial is pushed. -/
def PSt.push (p : PSt) (s : Nat) : PSt := if p.stk.length < p.M then { p with stk := p.stk ++ [s] } else { p with ov := true }
def PSt.own (h : HSt) (p : PSt) (s r : Nat) : PSt :=
  if (getC h.cs s).isSome then
    match getA p.ma s with
    | none => PSt.push { p with ma := putA p.ma s (r, true) } s
    | some (r0, g) => if r0 ≤ r then p else if g then { p with ma := putA p.ma s (r, true) } else PSt.push { p with ma := putA p.ma s (r, true) } s
  else p
def PSt.meet (p : PSt) (x : Int × Nat) (r : Nat) : PSt := match getA p.me x with
  | none => { p with me := putA p.me x r }
  | some r0 => if r < r0 then { p with me := putA p.me x r } else p
def PSt.shade (h : HSt) (p : PSt) (x : Int × Nat) (r : Int) : PSt :=
  if namesB x then (if x.1 = (h.node : Int) then p.own h x.2 (clampR r) else p.meet x (clampR r)) else p
def PSt.blacken (h : HSt) (p : PSt) (s : Nat) : PSt := if (getA p.ma s).isNone ∧ (getC h.cs s).isSome then { p with ma := putA p.ma s (0, false) } else p
/-- All references of an object are shaded. -/
def PSt.all (h : HSt) (p : PSt) (l : List (Int × Nat)) (r : Nat) : PSt := l.foldl (fun p x => p.shade h x (r : Int)) p
def scanR (h : HSt) (p : PSt) (s : Nat) : Bool := (getC h.cs s).isSome && (match getA p.ma s with | some (_, g) => g | none => false)
def PSt.scan (h : HSt) (p : PSt) (s : Nat) : PSt := match getC h.cs s, getA p.ma s with
  | some o, some (r, true) => PSt.all h { p with ma := putA p.ma s (r, false) } o.rf r
  | _, _ => p
def markR (h : HSt) (p : PSt) (s : Nat) : Nat × Bool × Bool := match getC h.cs s, getA p.ma s with
  | some _, some (r, g) => (r, g, true)
  | _, _ => (0, false, false)
def metR (p : PSt) (x : Int × Nat) : Nat × Bool := match getA p.me x with
  | some r => (r, true)
  | none => (0, false)
def PSt.turn (p : PSt) : PSt := { p with turns := p.turns + 1, stk := [], ov := false, ma := [], me := [] }
def PSt.new (M : Nat) : PSt := ⟨0, M, [], false, [], []⟩

/-- A mark, an entry. -/
def mV (m : Nat × Bool) : Value := .agg #[.int .i64 (m.1 : Int), .bool m.2]
def mE (e : Nat × (Nat × Bool)) : Nat × Value := (e.1, mV e.2)
def tV (r : Nat) : Value := .int .i64 (r : Int)
def tE (e : (Int × Nat) × Nat) : (Int × Nat) × Value := (e.1, tV e.2)

end Go.Proofs.YtbgaejjoomnklaaDoor
