import Derived.Test.YtdafpfdmnccelaaDoorPaMap
import Derived.Test.YtdafpfdmnccelaaDoorHpOP
import Derived.Test.YtdafpfdmnccelaaDoorGrMP
import Derived.Deep.CutRange
import Derived.Deep.CutBlock
import Derived.Deep.QuietTactic
import Derived.BigQuiet
import Derived.Carry
/- Paints, reckoned: marks, what was met, the stack. No program's text is in it but what PaMap has. -/
/- A paint in memory. -/
/- names, has, Mark, Met. -/
/- Mark, Met, Waiting, Over, Turns. -/
/- shadeOwn, meet, Shade. -/
/- Shade, Scan. -/
/- Scan. -/
/- New, Turn. -/
namespace Go.Proofs.YtdafpfdmnccelaaDoor
open Go.RowKit

section
variable {κ β : Type} [DecidableEq κ]
/-- What stands at a key; a key's value is another one, or new; a key is gone. -/
def getA (l : List (κ × β)) (x : κ) : Option β := (l.find? (fun p => decide (p.1 = x))).map (·.2)
def putA (l : List (κ × β)) (x : κ) (v : β) : List (κ × β) := if (getA l x).isSome then l.map (fun p => if p.1 = x then (x, v) else p) else l ++ [(x, v)]
def delA (l : List (κ × β)) (x : κ) : List (κ × β) := l.filter (fun p => decide (p.1 ≠ x))
theorem look_map (f : β → Value) (l : List (κ × β)) (x : κ) : lookQ (l.map (fun e => (e.1, f e.2))) x = (getA l x).map f := by
  unfold lookQ getA
  rw [List.find?_map, Option.map_map, Option.map_map]
  rfl
theorem put_map (f : β → Value) (l : List (κ × β)) (x : κ) (v : β) : putQ (l.map (fun e => (e.1, f e.2))) x (f v) = (putA l x v).map (fun e => (e.1, f e.2)) := by
  unfold putQ putA
  rw [look_map, Option.isSome_map]
  split
  · unfold updQ
    rw [List.map_map, List.map_map]
    apply List.map_congr_left
    intro p _
    simp only [Function.comp]
    split <;> rfl
  · simp
theorem getA_put (l : List (κ × β)) (x : κ) (v : β) (y : κ) : getA (putA l x v) y = if y = x then some v else getA l y := by
  unfold putA
  split
  · next h =>
    obtain ⟨u, hu⟩ := Option.isSome_iff_exists.1 h
    clear h
    unfold getA at *
    induction l with
    | nil => cases hu
    | cons p l ih =>
      rw [List.map_cons, List.find?_cons, List.find?_cons]
      by_cases hp : p.1 = x
      · rw [if_pos hp]
        by_cases hy : y = x
        · subst hy
          simp
        · rw [if_neg hy]
          have h1 : decide ((x, v).1 = y) = false := decide_eq_false (fun e => hy e.symm)
          have h2 : decide (p.1 = y) = false := decide_eq_false (fun e => hy (e.symm.trans hp))
          rw [h1, h2]
          clear ih hu hp h2
          induction l with
          | nil => rfl
          | cons q l ih2 =>
            rw [List.map_cons, List.find?_cons, List.find?_cons]
            by_cases hq : q.1 = x
            · rw [if_pos hq, h1]
              have h3 : decide (q.1 = y) = false := decide_eq_false (fun e => hy (e.symm.trans hq))
              rw [h3]
              exact ih2
            · rw [if_neg hq]
              cases hd : decide (q.1 = y)
              · exact ih2
              · rfl
      · rw [if_neg hp]
        have hne : decide (p.1 = x) = false := decide_eq_false hp
        rw [List.find?_cons, hne] at hu
        have := ih hu
        by_cases hy : y = x
        · subst hy
          rw [hne]
          exact this
        · cases hd : decide (p.1 = y)
          · exact this
          · rw [if_neg hy]
  · next h =>
    have hn : getA l x = none := by simpa using h
    unfold getA at *
    rw [List.find?_append]
    by_cases hy : y = x
    · subst hy
      rw [Option.map_eq_none_iff] at hn
      rw [hn]
      simp
    · rw [if_neg hy]
      have h1 : decide ((x, v).1 = y) = false := decide_eq_false (fun e => hy e.symm)
      rw [List.find?_cons, h1]
      cases List.find? (fun p => decide (p.1 = y)) l <;> rfl
theorem getA_del (l : List (κ × β)) (x y : κ) : getA (delA l x) y = if y = x then none else getA l y := by
  unfold getA delA
  rw [List.find?_filter]
  by_cases h : y = x
  · subst h
    rw [if_pos rfl, Option.map_eq_none_iff, List.find?_eq_none]
    intro p _
    simp
  · rw [if_neg h]
    congr 2
    funext p
    by_cases e : p.1 = y
    · simp [e, h]
    · simp [e]
theorem putA_len (l : List (κ × β)) (x : κ) (v : β) : (putA l x v).length ≤ l.length + 1 ∧ l.length ≤ (putA l x v).length := by
  unfold putA
  split <;> simp
end

/-- A paint: how many turns, what may be on the stack, what is (the lowest first), whether it is over, the marks, what was met. -/
structure PSt where
  turns : Nat
  M : Nat
  stk : List Nat
  ov : Bool
  ma : List (Nat × (Nat × Bool))
  me : List ((Int × Nat) × Nat)
/-- Is an ID right, and not none? -/
def namesB (x : Int × Nat) : Bool := decide (1 ≤ x.1) && decide (x.1 ≤ 64) && decide (1 ≤ x.2) && decide (x.2 ≤ 72057594037927935)
/-- A rank within 0 and 40. -/
def clampR (r : Int) : Nat := (min (max r 0) 40).toNat
theorem clampR_le (r : Int) : clampR r ≤ 40 := by unfold clampR; omega
/-- A serial is pushed. -/
def PSt.push (p : PSt) (s : Nat) : PSt := if p.stk.length < p.M then { p with stk := p.stk ++ [s] } else { p with ov := true }
def PSt.own (h : HSt) (p : PSt) (s r : Nat) : PSt :=
  if (getC h.cs s).isSome then
    match getA p.ma s with
    | none => PSt.push { p with ma := putA p.ma s (r, true) } s
    | some (r0, g) => if r0 ≤ r then p else if g then { p with ma := putA p.ma s (r, true) } else PSt.push { p with ma := putA p.ma s (r, true) } s
  else p
def PSt.meet (p : PSt) (x : Int × Nat) (r : Nat) : PSt := match getA p.me x with
  | none => { p with me := putA p.me x r }
  | some r0 => if r < r0 then { p with me := putA p.me x r } else p
def PSt.shade (h : HSt) (p : PSt) (x : Int × Nat) (r : Int) : PSt :=
  if namesB x then (if x.1 = (h.node : Int) then p.own h x.2 (clampR r) else p.meet x (clampR r)) else p
def PSt.blacken (h : HSt) (p : PSt) (s : Nat) : PSt := if (getA p.ma s).isNone ∧ (getC h.cs s).isSome then { p with ma := putA p.ma s (0, false) } else p
/-- All references of an object are shaded. -/
def PSt.all (h : HSt) (p : PSt) (l : List (Int × Nat)) (r : Nat) : PSt := l.foldl (fun p x => p.shade h x (r : Int)) p
def scanR (h : HSt) (p : PSt) (s : Nat) : Bool := (getC h.cs s).isSome && (match getA p.ma s with | some (_, g) => g | none => false)
def PSt.scan (h : HSt) (p : PSt) (s : Nat) : PSt := match getC h.cs s, getA p.ma s with
  | some o, some (r, true) => PSt.all h { p with ma := putA p.ma s (r, false) } o.rf r
  | _, _ => p
def markR (h : HSt) (p : PSt) (s : Nat) : Nat × Bool × Bool := match getC h.cs s, getA p.ma s with
  | some _, some (r, g) => (r, g, true)
  | _, _ => (0, false, false)
def metR (p : PSt) (x : Int × Nat) : Nat × Bool := match getA p.me x with
  | some r => (r, true)
  | none => (0, false)
def PSt.turn (p : PSt) : PSt := { p with turns := p.turns + 1, stk := [], ov := false, ma := [], me := [] }
def PSt.new (M : Nat) : PSt := ⟨0, M, [], false, [], []⟩

/-- A mark, an entry. -/
def mV (m : Nat × Bool) : Value := .agg #[.int .i64 (m.1 : Int), .bool m.2]
def mE (e : Nat × (Nat × Bool)) : Nat × Value := (e.1, mV e.2)
def tV (r : Nat) : Value := .int .i64 (r : Int)
def tE (e : (Int × Nat) × Nat) : (Int × Nat) × Value := (e.1, tV e.2)

end Go.Proofs.YtdafpfdmnccelaaDoor

namespace Go.Proofs.YtdafpfdmnccelaaDoor
open Go.RowKit

/-- A paint at pb of the heap at hb: its stack at sb (with the list v), its maps at mb and tb. -/
structure PX (w : World) (pb hb base sb mb tb : Nat) (v : Value) (p : PSt) : Prop where
  box : Row w pb 87 [.pointer (some ⟨hb, 0, none⟩), .int .u64 (p.turns : Int), .pointer (some ⟨sb, 0, none⟩), .map (some mb), .map (some tb)]
  sk : SKU w sb base v p.M (p.stk.map (fun n : Nat => (n : Int))) p.ov
  ma : MQ eU w mb (p.ma.map mE)
  me : MQ eI w tb (p.me.map tE)
  d : pb ≠ sb ∧ pb ≠ mb ∧ pb ≠ tb ∧ sb ≠ mb ∧ sb ≠ tb ∧ mb ≠ tb ∧ v.ownBlock ≠ some pb ∧ v.ownBlock ≠ some mb ∧ v.ownBlock ≠ some tb
  ge : base ≤ pb ∧ base ≤ sb ∧ base ≤ mb ∧ base ≤ tb
/-- Its blocks. -/
def pBl (pb sb mb tb : Nat) (v : Value) (k : Nat) : Prop := k = pb ∨ sBl sb v k ∨ k = mb ∨ k = tb
/-- A paint and its blocks. -/
structure PN (w : World) (pb hb base : Nat) (G : Nat → Prop) (p : PSt) : Prop where
  ex : ∃ sb mb tb v, PX w pb hb base sb mb tb v p ∧ ∀ k, G k ↔ pBl pb sb mb tb v k
/-- What became of it. -/
structure PGo (w w' : World) (pb hb base : Nat) (G : Nat → Prop) (p : PSt) : Prop where
  ex : ∃ G', PN w' pb hb base G' p ∧ ∀ k, G' k → G k ∨ w.heap.size ≤ k
  kept : Kept w w' G

section
variable {w w' : World} {pb hb base sb mb tb : Nat} {v : Value} {p p' : PSt} {G S : Nat → Prop}
theorem PX.kept (x : PX w pb hb base sb mb tb v p) (hk : Kept w w' S) (hs : ∀ k, pBl pb sb mb tb v k → ¬ S k) : PX w' pb hb base sb mb tb v p :=
  ⟨x.box.kept hk (hs _ (Or.inl rfl)), x.sk.kept hk (fun k h => hs k (Or.inr (Or.inl h))), x.ma.kept hk (hs _ (Or.inr (Or.inr (Or.inl rfl)))), x.me.kept hk (hs _ (Or.inr (Or.inr (Or.inr rfl)))), x.d, x.ge⟩
theorem PX.below (x : PX w pb hb base sb mb tb v p) (hb' : Below w.heap.size w w') : PX w' pb hb base sb mb tb v p := x.kept (kept_of_below hb' (fun _ => False)) (fun _ _ => id)
theorem PX.lt (x : PX w pb hb base sb mb tb v p) : ∀ k, pBl pb sb mb tb v k → k < w.heap.size := by
  intro k hk
  rcases hk with rfl | hk | rfl | rfl
  · exact x.box.lt
  · exact x.sk.lt k hk
  · exact x.ma.lt
  · exact x.me.lt
theorem PX.gek (x : PX w pb hb base sb mb tb v p) : ∀ k, pBl pb sb mb tb v k → base ≤ k := by
  intro k hk
  rcases hk with rfl | (rfl | hk) | rfl | rfl
  · exact x.ge.1
  · exact x.ge.2.1
  · exact (own_lt x.sk.own k hk).1
  · exact x.ge.2.2.1
  · exact x.ge.2.2.2
theorem PX.pn (x : PX w pb hb base sb mb tb v p) : PN w pb hb base (pBl pb sb mb tb v) p := ⟨sb, mb, tb, v, x, fun _ => Iff.rfl⟩
theorem PN.kept (x : PN w pb hb base G p) (hk : Kept w w' S) (hs : ∀ k, G k → ¬ S k) : PN w' pb hb base G p := by
  obtain ⟨sb, mb, tb, v, hx, hG⟩ := x.ex
  exact ⟨sb, mb, tb, v, hx.kept hk (fun k h => hs k ((hG k).2 h)), hG⟩
theorem PN.below (x : PN w pb hb base G p) (hB : Below w.heap.size w w') : PN w' pb hb base G p := x.kept (kept_of_below hB (fun _ => False)) (fun _ _ => id)
theorem PN.lt (x : PN w pb hb base G p) : ∀ k, G k → k < w.heap.size := by
  obtain ⟨sb, mb, tb, v, hx, hG⟩ := x.ex
  exact fun k h => hx.lt k ((hG k).1 h)
theorem PN.ge (x : PN w pb hb base G p) : ∀ k, G k → base ≤ k := by
  obtain ⟨sb, mb, tb, v, hx, hG⟩ := x.ex
  exact fun k h => hx.gek k ((hG k).1 h)
theorem PN.stay (x : PN w pb hb base G p) (hB : Below w.heap.size w w') : PGo w w' pb hb base G p := ⟨⟨G, x.below hB, fun _ h => Or.inl h⟩, kept_of_below hB _⟩
theorem PGo.trans {w1 : World} {G1 : Nat → Prop} (h1 : ∀ k, G1 k → G k ∨ w.heap.size ≤ k) (k1 : Kept w w1 G) (h2 : PGo w1 w' pb hb base G1 p) : PGo w w' pb hb base G p := by
  obtain ⟨G2, hp, hG2⟩ := h2.ex
  refine ⟨⟨G2, hp, fun k hk => ?_⟩, k1.trans h2.kept (fun i hi e => ?_)⟩
  · rcases hG2 k hk with e | e
    · exact h1 k e
    · exact Or.inr (Nat.le_trans k1.size e)
  · rcases h1 i e with e | e
    · exact e
    · omega
theorem PX.fit (hG : ∀ k, G k ↔ pBl pb sb mb tb v k) (x : PGo w w' pb hb base (pBl pb sb mb tb v) p) : PGo w w' pb hb base G p := by
  have e : G = pBl pb sb mb tb v := funext fun k => propext (hG k)
  rw [e]
  exact x
theorem PX.c0 (x : PX w pb hb base sb mb tb v p) : w.cell? ⟨pb, 0, none⟩ = some (.pointer (some ⟨hb, 0, none⟩)) := x.box.cell 0 (by simp)
theorem PX.c1 (x : PX w pb hb base sb mb tb v p) : w.cell? ⟨pb, 1, none⟩ = some (.int .u64 (p.turns : Int)) := x.box.cell 1 (by simp)
theorem PX.c2 (x : PX w pb hb base sb mb tb v p) : w.cell? ⟨pb, 2, none⟩ = some (.pointer (some ⟨sb, 0, none⟩)) := x.box.cell 2 (by simp)
theorem PX.c3 (x : PX w pb hb base sb mb tb v p) : w.cell? ⟨pb, 3, none⟩ = some (.map (some mb)) := x.box.cell 3 (by simp)
theorem PX.c4 (x : PX w pb hb base sb mb tb v p) : w.cell? ⟨pb, 4, none⟩ = some (.map (some tb)) := x.box.cell 4 (by simp)
theorem zeroM (w : World) : (zeroValue 133).run Tryd.prog w = .ok (.agg #[.int .i64 0, .bool false]) w := by kernel_rfl
theorem zeroI (w : World) : (zeroValue 3).run Tryd.prog w = .ok (.int .i64 0) w := by kernel_rfl
/-- The mark that is looked up. -/
def markD (p : PSt) (s : Nat) : Nat × Bool := (getA p.ma s).getD (0, false)
theorem PX.look (x : PX w pb hb base sb mb tb v p) (s : Nat) : (Instr.lookup 84 (.map (some mb)) (.int .u64 (s : Int)) true).run Tryd.prog w = .ok (.tuple #[.agg #[.int .i64 ((markD p s).1 : Int), .bool (markD p s).2], .bool (getA p.ma s).isSome]) w := by
  have h := x.ma.look2 klU Tryd.underlying84 (zeroM w) s
  have e : lookQ (p.ma.map mE) s = (getA p.ma s).map mV := look_map mV p.ma s
  rw [e] at h
  unfold markD
  cases hg : getA p.ma s with
  | none => rw [hg] at h; exact h
  | some m => rw [hg] at h; exact h
theorem PX.look1 (x : PX w pb hb base sb mb tb v p) (s : Nat) : (Instr.lookup 84 (.map (some mb)) (.int .u64 (s : Int)) false).run Tryd.prog w = .ok (.agg #[.int .i64 ((markD p s).1 : Int), .bool (markD p s).2]) w := by
  have h := x.ma.look klU Tryd.underlying84 (zeroM w) s
  have e : lookQ (p.ma.map mE) s = (getA p.ma s).map mV := look_map mV p.ma s
  rw [e] at h
  unfold markD
  cases hg : getA p.ma s with
  | none => rw [hg] at h; exact h
  | some m => rw [hg] at h; exact h
theorem PX.lookT (x : PX w pb hb base sb mb tb v p) (a : Int) (n : Nat) : (Instr.lookup 85 (.map (some tb)) (.agg #[.int .i64 a, .int .u64 (n : Int)]) true).run Tryd.prog w = .ok (.tuple #[.int .i64 ((metR p (a, n)).1 : Int), .bool (metR p (a, n)).2]) w := by
  have h := x.me.look2 klI Tryd.underlying85 (zeroI w) (a, n)
  have e : lookQ (p.me.map tE) (a, n) = (getA p.me (a, n)).map tV := look_map tV p.me (a, n)
  rw [e] at h
  unfold metR
  cases hg : getA p.me (a, n) with
  | none => rw [hg] at h; exact h
  | some m => rw [hg] at h; exact h
/-- A mark is put. -/
theorem PX.putM (x : PX w pb hb base sb mb tb v p) (s r : Nat) (g : Bool) : ∃ o o', w.heap[mb]? = some o ∧ (∀ W : World, W.heap[mb]? = some o → (Instr.mapUpdate 84 (.map (some mb)) (.int .u64 (s : Int)) (.agg #[.int .i64 (r : Int), .bool g])).run Tryd.prog W = .ok () (ChangeMaps.setBlock W mb o')) ∧
    ∀ W : World, PX W pb hb base sb mb tb v p → PX (ChangeMaps.setBlock W mb o') pb hb base sb mb tb v { p with ma := putA p.ma s (r, g) } ∧ Kept W (ChangeMaps.setBlock W mb o') (fun k => k = mb) := by
  obtain ⟨o, o', h1, h2, h3⟩ := x.ma.upd klU Tryd.underlying84 s (mV (r, g))
  have e : putQ (p.ma.map mE) s (mV (r, g)) = (putA p.ma s (r, g)).map mE := put_map mV p.ma s (r, g)
  refine ⟨o, o', h1, h2, fun W y => ?_⟩
  have hk := kept_setBlock W mb o'
  have hm := h3 W y.ma.lt
  rw [e] at hm
  obtain ⟨d1, d2, d3, d4, d5, d6, d7, d8, d9⟩ := y.d
  refine ⟨⟨y.box.kept hk d2, y.sk.kept hk (fun k hq e => ?_), hm, y.me.kept hk (fun e => d6 e.symm), y.d, y.ge⟩, hk⟩
  have e' : k = mb := e
  subst e'
  rcases hq with hq | hq
  · exact d4 hq.symm
  · exact d8 hq
/-- A rank is put. -/
theorem PX.putT (x : PX w pb hb base sb mb tb v p) (a : Int) (n r : Nat) : ∃ o o', w.heap[tb]? = some o ∧ (∀ W : World, W.heap[tb]? = some o → (Instr.mapUpdate 85 (.map (some tb)) (.agg #[.int .i64 a, .int .u64 (n : Int)]) (.int .i64 (r : Int))).run Tryd.prog W = .ok () (ChangeMaps.setBlock W tb o')) ∧
    ∀ W : World, PX W pb hb base sb mb tb v p → PX (ChangeMaps.setBlock W tb o') pb hb base sb mb tb v { p with me := putA p.me (a, n) r } ∧ Kept W (ChangeMaps.setBlock W tb o') (fun k => k = tb) := by
  obtain ⟨o, o', h1, h2, h3⟩ := x.me.upd klI Tryd.underlying85 (a, n) (tV r)
  have e : putQ (p.me.map tE) (a, n) (tV r) = (putA p.me (a, n) r).map tE := put_map tV p.me (a, n) r
  refine ⟨o, o', h1, h2, fun W y => ?_⟩
  have hk := kept_setBlock W tb o'
  have hm := h3 W y.me.lt
  rw [e] at hm
  obtain ⟨d1, d2, d3, d4, d5, d6, d7, d8, d9⟩ := y.d
  refine ⟨⟨y.box.kept hk d3, y.sk.kept hk (fun k hq e => ?_), y.ma.kept hk d6, hm, y.d, y.ge⟩, hk⟩
  have e' : k = tb := e
  subst e'
  rcases hq with hq | hq
  · exact d5 hq.symm
  · exact d9 hq
end

end Go.Proofs.YtdafpfdmnccelaaDoor

namespace Go.Proofs.YtdafpfdmnccelaaDoor
open Go.RowKit

set_option maxRecDepth 20000 in
set_option maxHeartbeats 1000000 in
theorem names_any (a : Int) (n : Nat) (w : World) :
    Calls Tryd.prog 39 #[.agg #[.int .i64 a, .int .u64 (n : Int)]] w fun e w' => e = .returned (.bool (namesB (a, n))) ∧ Below w.heap.size w w' := by
  by_cases h1 : 1 ≤ a
  · by_cases h2 : a ≤ 64
    · by_cases h3 : 1 ≤ n
      · have h3i : (1 : Int) ≤ (n : Int) := by omega
        by_cases h4 : n ≤ 72057594037927935
        · have h4i : (n : Int) ≤ 72057594037927935 := by omega
          have e : namesB (a, n) = true := by simp [namesB, h1, h2, h3, h4]
          rw [e]
          clear e h3 h4
          go_enter Tryd.func39, Tryd.ntmps39
          go_wp2
          go_ret
          exact ⟨rfl, bel_alloc _ _⟩
        · have h4i : ¬ (n : Int) ≤ 72057594037927935 := by omega
          have h4d : decide ((n : Int) ≤ 72057594037927935) = false := decide_eq_false h4i
          have e : namesB (a, n) = false := by
            have : decide (n ≤ 72057594037927935) = false := decide_eq_false h4
            simp [namesB, this]
          rw [e]
          clear e h3 h4 h4i
          go_enter Tryd.func39, Tryd.ntmps39
          go_wp2
          go_ret
          exact ⟨rfl, bel_alloc _ _⟩
      · have h3i : ¬ (1 : Int) ≤ (n : Int) := by omega
        have e : namesB (a, n) = false := by simp [namesB, h3]
        rw [e]
        clear e h3
        go_enter Tryd.func39, Tryd.ntmps39
        go_wp2
        go_ret
        exact ⟨rfl, bel_alloc _ _⟩
    · have e : namesB (a, n) = false := by simp [namesB, h2]
      rw [e]
      clear e
      go_enter Tryd.func39, Tryd.ntmps39
      go_wp2
      go_ret
      exact ⟨rfl, bel_alloc _ _⟩
  · have e : namesB (a, n) = false := by simp [namesB, h1]
    rw [e]
    clear e
    go_enter Tryd.func39, Tryd.ntmps39
    go_wp2
    go_ret
    exact ⟨rfl, bel_alloc _ _⟩

section
variable {w : World} {pb hb base sb mb tb : Nat} {v : Value} {p : PSt} {F : Nat → Prop} {h : HSt}
set_option maxRecDepth 20000 in
set_option maxHeartbeats 1000000 in
theorem phas_any (x : PX w pb hb base sb mb tb v p) (y : HP w hb F h) (s : Nat) (hs : s < 18446744073709551616) :
    Calls Tryd.prog 67 #[.pointer (some ⟨pb, 0, none⟩), .int .u64 (s : Int)] w fun e w' => e = .returned (.bool (getC h.cs s).isSome) ∧ Below w.heap.size w w' := by
  have c0 := x.c0
  cases hg : getC h.cs s with
  | none =>
    have hO := y.objNo s hs hg
    unfold zO at hO
    clear x y hg
    go_enter Tryd.func67, Tryd.ntmps67
    go_wp2_with fail
    refine hO.mono ?_
    rintro e w1 ⟨rfl, hb1⟩
    clear hO c0
    go_wp2
    go_ret
    exact ⟨rfl, hb1.trans ((bel_alloc _ _).mono hb1.size)⟩
  | some o =>
    have hO := y.objOk s hs o hg
    unfold Pl.v at hO
    clear x y hg
    go_enter Tryd.func67, Tryd.ntmps67
    go_wp2_with fail
    refine hO.mono ?_
    rintro e w1 ⟨g1, g2, rfl, _, _, _, _, hb1⟩
    clear hO c0
    go_wp2
    go_ret
    exact ⟨rfl, hb1.trans ((bel_alloc _ _).mono hb1.size)⟩
end

end Go.Proofs.YtdafpfdmnccelaaDoor

namespace Go.Proofs.YtdafpfdmnccelaaDoor
open Go.RowKit

section
variable {w : World} {pb hb base sb mb tb : Nat} {v : Value} {p : PSt} {F : Nat → Prop} {h : HSt}
set_option maxRecDepth 20000 in
set_option maxHeartbeats 1000000 in
theorem mark_any (x : PX w pb hb base sb mb tb v p) (y : HP w hb F h) (s : Nat) (hs : s < 18446744073709551616) :
    Calls Tryd.prog 37 #[.pointer (some ⟨pb, 0, none⟩), .int .u64 (s : Int)] w fun e w' => e = .returned (.tuple #[.int .i64 ((markR h p s).1 : Int), .bool (markR h p s).2.1, .bool (markR h p s).2.2]) ∧ Below w.heap.size w w' := by
  have c3 := x.c3
  have hl := x.look s
  cases hm : getA p.ma s with
  | none =>
    have e : markR h p s = (0, false, false) := by
      unfold markR
      rw [hm]
      cases getC h.cs s <;> rfl
    rw [e]
    have e2 : markD p s = (0, false) := by unfold markD; rw [hm]; rfl
    rw [hm, e2] at hl
    simp only [Option.isSome_none] at hl
    clear x y e hm e2
    go_enter Tryd.func37, Tryd.ntmps37
    go_wp2_with fail
    go_ret3
    exact ⟨rfl, bel_alloc _ _⟩
  | some m =>
    obtain ⟨r, g⟩ := m
    have e2 : markD p s = (r, g) := by unfold markD; rw [hm]; rfl
    rw [hm, e2] at hl
    simp only [Option.isSome_some] at hl
    have hP := fun W (hB : Below w.heap.size w W) => phas_any (x.below hB) (y.below hB) s hs
    have e : markR h p s = if (getC h.cs s).isSome then (r, g, true) else (0, false, false) := by
      unfold markR
      rw [hm]
      cases getC h.cs s <;> rfl
    rw [e]
    generalize (getC h.cs s).isSome = bo at *
    have hA : ∀ o, Below w.heap.size w (w.alloc o) := fun o => bel_alloc w o
    clear x y e hm e2
    cases bo with
    | false =>
      go_enter Tryd.func37, Tryd.ntmps37
      go_wp2_with (go_at_call 67; refine (hP _ (hA _)).mono ?_; rintro e w1 ⟨rfl, hb1⟩)
      go_ret3
      exact ⟨rfl, (hA _).trans (hb1.mono (by simp))⟩
    | true =>
      have HN : Hid (∀ o w1, Below (w.alloc o).heap.size (w.alloc o) w1 → ∀ i, w1.cell? ⟨w.heap.size, i, none⟩ = (w.alloc o).cell? ⟨w.heap.size, i, none⟩) := fun o w1 hb i => hb.cell (p := ⟨w.heap.size, i, none⟩) (by simp)
      go_enter Tryd.func37, Tryd.ntmps37
      go_wp2_with (go_at_call 67; refine (hP _ (hA _)).mono ?_; rintro e w1 ⟨rfl, hb1⟩; have d0 := HN.out _ _ hb1 0; have d1 := HN.out _ _ hb1 1; simp at d0 d1; have HB : Hid _ := hidden ((hA _).trans (hb1.mono (by simp))); clear hb1 hP hA HN)
      go_quiet (fail)
      go_wp2
      go_ret3
      exact ⟨rfl, HB.out.trans ((below_drewN0 _ _).mono HB.out.size)⟩
end

end Go.Proofs.YtdafpfdmnccelaaDoor

namespace Go.Proofs.YtdafpfdmnccelaaDoor
open Go.RowKit

section
variable {w w' : World} {pb hb base sb mb tb : Nat} {v v' : Value} {p p' : PSt} {F : Nat → Prop} {h : HSt}
/-- The stack is another one. -/
theorem PX.stack (x : PX w pb hb base sb mb tb v p) {l : List Nat} {ov : Bool} (g : GoU w w' sb base v v' p.M (l.map (fun n : Nat => (n : Int))) ov) : PX w' pb hb base sb mb tb v' { p with stk := l, ov := ov } := by
  obtain ⟨d1, d2, d3, d4, d5, d6, d7, d8, d9⟩ := x.d
  have hlt := x.lt
  have hno : ∀ k, k < w.heap.size → v.ownBlock ≠ some k → v'.ownBlock ≠ some k := fun k hk hn e => by
    rcases g.m k e with e | e
    · exact hn e
    · omega
  have h1 := hlt pb (Or.inl rfl)
  have h2 := hlt mb (Or.inr (Or.inr (Or.inl rfl)))
  have h3 := hlt tb (Or.inr (Or.inr (Or.inr rfl)))
  refine ⟨x.box.kept g.k (fun e => ?_), g.x, x.ma.kept g.k (fun e => ?_), x.me.kept g.k (fun e => ?_), ⟨d1, d2, d3, d4, d5, d6, hno _ h1 d7, hno _ h2 d8, hno _ h3 d9⟩, x.ge⟩
  · rcases e with e | e
    · exact d1 e
    · exact d7 e
  · rcases e with e | e
    · exact d4 e.symm
    · exact d8 e
  · rcases e with e | e
    · exact d5 e.symm
    · exact d9 e
theorem PX.went (x : PX w' pb hb base sb mb tb v' p') (hk : Kept w w' (pBl pb sb mb tb v)) (hm : Moved w v v') : PGo w w' pb hb base (pBl pb sb mb tb v) p' := by
  refine ⟨⟨_, x.pn, fun k hk => ?_⟩, hk⟩
  rcases hk with hk | (hk | hk) | hk | hk
  · exact Or.inl (Or.inl hk)
  · exact Or.inl (Or.inr (Or.inl (Or.inl hk)))
  · rcases hm k hk with e | e
    · exact Or.inl (Or.inr (Or.inl (Or.inr e)))
    · exact Or.inr e
  · exact Or.inl (Or.inr (Or.inr (Or.inl hk)))
  · exact Or.inl (Or.inr (Or.inr (Or.inr hk)))
theorem PX.bs (x : PX w pb hb base sb mb tb v p) : base ≤ w.heap.size := by
  have h1 := x.ge.1
  have h2 := x.box.lt
  omega
/-- A serial is pushed. -/
theorem PX.pushed (x : PX w pb hb base sb mb tb v p) (s : Nat) :
    Calls Tryd.prog 68 #[.pointer (some ⟨sb, 0, none⟩), .int .u64 (s : Int)] w fun e w' => ∃ b v', e = .returned (.bool b) ∧ PX w' pb hb base sb mb tb v' (p.push s) ∧ Kept w w' (sBl sb v) ∧ Moved w v v' := by
  have hlen : (p.stk.map (fun n : Nat => (n : Int))).length = p.stk.length := List.length_map _
  have hfew := x.sk.few
  rw [List.length_map, List.length_map] at hfew
  unfold PSt.push
  by_cases hr : p.stk.length < p.M
  · rw [if_pos hr]
    refine (pushU_room x.sk (by rw [hlen]; exact hr) (s : Int) x.bs).mono ?_
    rintro e w' ⟨rfl, v', g⟩
    have e : p.stk.map (fun n : Nat => (n : Int)) ++ [(s : Int)] = (p.stk ++ [s]).map (fun n : Nat => (n : Int)) := by simp
    rw [e] at g
    exact ⟨true, v', rfl, x.stack g, g.k, g.m⟩
  · rw [if_neg hr]
    refine (pushU_full x.sk (by rw [hlen]; omega) (s : Int)).mono ?_
    rintro e w' ⟨rfl, g⟩
    exact ⟨false, v, rfl, x.stack g, g.k, g.m⟩

set_option maxRecDepth 20000 in
set_option maxHeartbeats 1000000 in
/-- It is marked anew. -/
theorem own_put (x : PX w pb hb base sb mb tb v p) (s r r0 : Nat) (g fl : Bool) (hl : (Instr.lookup 84 (.map (some mb)) (.int .u64 (s : Int)) true).run Tryd.prog w = .ok (.tuple #[.agg #[.int .i64 (r0 : Int), .bool g], .bool fl]) w)
    (hf : fl = false ∨ ¬ r0 ≤ r)
    (hP : ∀ W, Below w.heap.size w W → Calls Tryd.prog 67 #[.pointer (some ⟨pb, 0, none⟩), .int .u64 (s : Int)] W fun e w' => e = .returned (.bool true) ∧ Below W.heap.size W w') :
    Calls Tryd.prog 41 #[.pointer (some ⟨pb, 0, none⟩), .int .u64 (s : Int), .int .i64 (r : Int)] w fun e w' => e = .returned (.tuple #[]) ∧ PGo w w' pb hb base (pBl pb sb mb tb v) (if g then { p with ma := putA p.ma s (r, true) } else PSt.push { p with ma := putA p.ma s (r, true) } s) := by
  have c3 := x.c3
  have hA : ∀ o, Below w.heap.size w (w.alloc o) := fun o => bel_alloc w o
  have HX : Hid _ := hidden x
  have HN : Hid (∀ o w1, Below (w.alloc o).heap.size (w.alloc o) w1 → (∀ i, w1.cell? ⟨w.heap.size, i, none⟩ = (w.alloc o).cell? ⟨w.heap.size, i, none⟩) ∧ Below w.heap.size w w1 ∧ w.heap.size < w1.heap.size) := fun o w1 hb => ⟨fun i => hb.cell (p := ⟨w.heap.size, i, none⟩) (by simp), (hA o).trans (hb.mono (by simp)), by have := hb.size; simp at this; omega⟩
  have hf' : fl = false ∨ (fl = true ∧ ¬ r0 ≤ r) := by
    rcases hf with e | e
    · exact Or.inl e
    · cases fl
      · exact Or.inl rfl
      · exact Or.inr ⟨rfl, e⟩
  clear x hf
  go_enter Tryd.func41, Tryd.ntmps41
  go_upto_region 1 with fail
  go_cut [29] from 17 to 29 (fun t wc => t = .bool false ∧ Below w.heap.size w wc ∧ w.heap.size < wc.heap.size ∧ wc.cell? ⟨w.heap.size, 0, none⟩ = some (.int .i64 (r0 : Int)) ∧ wc.cell? ⟨w.heap.size, 1, none⟩ = some (.bool g))
  case first =>
    rcases hf' with rfl | ⟨rfl, hr⟩
    · go_wp2_with (go_at_call 67; refine (hP _ (hA _)).mono ?_; rintro e w1 ⟨rfl, hb1⟩; obtain ⟨d, bw, bs⟩ := HN.out _ _ hb1; have d0 := d 0; have d1 := d 1; clear d hb1; simp at d0 d1)
      go_meet
      exact ⟨rfl, bw, bs, d0, d1⟩
    · go_wp2_with (go_at_call 67; refine (hP _ (hA _)).mono ?_; rintro e w1 ⟨rfl, hb1⟩; obtain ⟨d, bw, bs⟩ := HN.out _ _ hb1; have d0 := d 0; have d1 := d 1; clear d hb1; simp at d0 d1)
      go_meet
      exact ⟨rfl, bw, bs, d0, d1⟩
  case rest =>
    obtain ⟨rfl, bw, bs, d0, d1⟩ := hcut
    have y := HX.out.below bw
    obtain ⟨o, o', ho, hU, hY⟩ := y.putM s r true
    obtain ⟨y3, k3⟩ := hY _ y
    have hU3 := hU _ ho
    have e3 := y.c3
    have hne : w.heap.size ≠ mb := by have := HX.out.ma.lt; omega
    have d2 := cell_kept d1 k3 (by exact hne)
    have bs3 := Nat.lt_of_lt_of_le bs k3.size
    have HY3 : Hid _ := hidden y3
    have HK3 : Hid _ := hidden ((kept_of_below bw (pBl pb sb mb tb v)).trans k3 (fun i _ e => Or.inr (Or.inr (Or.inl e))))
    have e2 := y3.c2
    clear hl hP HN hA c3 hf' hU ho hY y y3 k3 d0 d1 bs bw hne
    go_upto_region 3 with fail
    generalize ChangeMaps.setBlock _ mb o' = w3 at *
    clear hU3 e3
    cases g with
    | true =>
      go_wp2
      go_end0
      exact ⟨rfl, HY3.out.went HK3.out (Moved.refl _ _)⟩
    | false =>
      have hPu := HY3.out.pushed s
      go_wp2_with fail
      refine hPu.mono ?_
      rintro e w4 ⟨b, v4, rfl, y4, k4, m4⟩
      clear hPu
      have HG : Hid (PGo w w4 pb hb base (pBl pb sb mb tb v) _) := hidden (y4.went (HK3.out.trans k4 (fun i _ e => Or.inr (Or.inl e))) (fun k hk => by
        rcases m4 k hk with e | e
        · exact Or.inl e
        · exact Or.inr (Nat.le_trans HK3.out.size e)))
      clear y4 k4 m4
      go_wp2
      go_end0
      exact ⟨rfl, HG.out⟩

set_option maxRecDepth 20000 in
set_option maxHeartbeats 1000000 in
theorem own_stay (x : PX w pb hb base sb mb tb v p) (s r r0 : Nat) (g fl bo : Bool) (hl : (Instr.lookup 84 (.map (some mb)) (.int .u64 (s : Int)) true).run Tryd.prog w = .ok (.tuple #[.agg #[.int .i64 (r0 : Int), .bool g], .bool fl]) w)
    (hf : bo = false ∨ (fl = true ∧ r0 ≤ r))
    (hP : ∀ W, Below w.heap.size w W → Calls Tryd.prog 67 #[.pointer (some ⟨pb, 0, none⟩), .int .u64 (s : Int)] W fun e w' => e = .returned (.bool bo) ∧ Below W.heap.size W w') :
    Calls Tryd.prog 41 #[.pointer (some ⟨pb, 0, none⟩), .int .u64 (s : Int), .int .i64 (r : Int)] w fun e w' => e = .returned (.tuple #[]) ∧ Below w.heap.size w w' := by
  have c3 := x.c3
  have hA : ∀ o, Below w.heap.size w (w.alloc o) := fun o => bel_alloc w o
  have HN : Hid (∀ o w1, Below (w.alloc o).heap.size (w.alloc o) w1 → (∀ i, w1.cell? ⟨w.heap.size, i, none⟩ = (w.alloc o).cell? ⟨w.heap.size, i, none⟩) ∧ Below w.heap.size w w1 ∧ w.heap.size < w1.heap.size) := fun o w1 hb => ⟨fun i => hb.cell (p := ⟨w.heap.size, i, none⟩) (by simp), (hA o).trans (hb.mono (by simp)), by have := hb.size; simp at this; omega⟩
  clear x
  cases bo with
  | false =>
    go_enter Tryd.func41, Tryd.ntmps41
    go_wp2_with (go_at_call 67; refine (hP _ (hA _)).mono ?_; rintro e w1 ⟨rfl, hb1⟩; obtain ⟨d, bw, bs⟩ := HN.out _ _ hb1; clear d hb1)
    (try simp only [Exit.inBlock, Exit.then]); refine bodyPost_ret (results_none rfl _ _ _) rfl ?_
    exact ⟨rfl, bw⟩
  | true =>
    rcases hf with hf | ⟨rfl, hf⟩
    · cases hf
    have hr : r0 ≤ r := hf
    clear hf
    go_enter Tryd.func41, Tryd.ntmps41
    go_wp2_with (go_at_call 67; refine (hP _ (hA _)).mono ?_; rintro e w1 ⟨rfl, hb1⟩; obtain ⟨d, bw, bs⟩ := HN.out _ _ hb1; have d0 := d 0; clear d hb1; simp at d0)
    (try simp only [Exit.inBlock, Exit.then]); refine bodyPost_ret (results_none rfl _ _ _) rfl ?_
    exact ⟨rfl, bw⟩
theorem shadeOwn_any (x : PX w pb hb base sb mb tb v p) (y : HP w hb F h) (s : Nat) (hs : s < 18446744073709551616) (r : Nat) :
    Calls Tryd.prog 41 #[.pointer (some ⟨pb, 0, none⟩), .int .u64 (s : Int), .int .i64 (r : Int)] w fun e w' => e = .returned (.tuple #[]) ∧ PGo w w' pb hb base (pBl pb sb mb tb v) (p.own h s r) := by
  have hP := fun W (hB : Below w.heap.size w W) => phas_any (x.below hB) (y.below hB) s hs
  have hl := x.look s
  unfold PSt.own
  cases hbo : (getC h.cs s).isSome with
  | false =>
    rw [hbo] at hP
    rw [if_neg (by simp)]
    exact (own_stay x s r _ _ _ false hl (Or.inl rfl) hP).mono (fun _ _ ⟨h1, h2⟩ => ⟨h1, x.pn.stay h2⟩)
  | true =>
    rw [hbo] at hP
    rw [if_pos rfl]
    cases hm : getA p.ma s with
    | none =>
      have e2 : markD p s = (0, false) := by unfold markD; rw [hm]; rfl
      rw [hm, e2] at hl
      have := own_put x s r 0 false false hl (Or.inl rfl) hP
      simpa using this
    | some m =>
      obtain ⟨r0, g⟩ := m
      have e2 : markD p s = (r0, g) := by unfold markD; rw [hm]; rfl
      rw [hm, e2] at hl
      by_cases hr : r0 ≤ r
      · simp only [if_pos hr]
        exact (own_stay x s r r0 g true true hl (Or.inr ⟨rfl, hr⟩) hP).mono (fun _ _ ⟨h1, h2⟩ => ⟨h1, x.pn.stay h2⟩)
      · simp only [if_neg hr]
        exact own_put x s r r0 g true hl (Or.inr hr) hP

set_option maxRecDepth 20000 in
set_option maxHeartbeats 1000000 in
theorem meet_any (x : PX w pb hb base sb mb tb v p) (a : Int) (n r : Nat) :
    Calls Tryd.prog 42 #[.pointer (some ⟨pb, 0, none⟩), .agg #[.int .i64 a, .int .u64 (n : Int)], .int .i64 (r : Int)] w fun e w' => e = .returned (.tuple #[]) ∧ PGo w w' pb hb base (pBl pb sb mb tb v) (p.meet (a, n) r) := by
  have hB : ∀ o n, Below w.heap.size w ((w.alloc o).drewN n) := fun o n => (bel_alloc w o).trans ((below_drewN0 _ _).mono (by simp))
  have c4' := fun o n => (x.below (hB o n)).c4
  have hl' := fun o m => (x.below (hB o m)).lookT a n
  have HX : Hid _ := hidden x
  have hE : p.meet (a, n) r = if (metR p (a, n)).2 = true ∧ (metR p (a, n)).1 ≤ r then p else { p with me := putA p.me (a, n) r } := by
    unfold PSt.meet metR
    cases getA p.me (a, n) with
    | none => rfl
    | some r0 =>
      simp only [true_and]
      by_cases e : r < r0
      · rw [if_pos e, if_neg (by omega)]
      · rw [if_neg e, if_pos (by omega)]
  rw [hE]
  generalize metR p (a, n) = m at *
  obtain ⟨r0, g⟩ := m
  clear x hE
  by_cases hq : g = true ∧ r0 ≤ r
  · have hE : (if (r0, g).2 = true ∧ (r0, g).1 ≤ r then p else { p with me := putA p.me (a, n) r }) = p := if_pos hq
    rw [hE]
    clear hE
    obtain ⟨rfl, hr⟩ := hq
    have hd : ¬ r < r0 := by omega
    clear hr
    go_enter Tryd.func42, Tryd.ntmps42
    go_upto_region 1 with fail
    go_quiet (fail)
    go_wp2
    go_end0
    exact ⟨rfl, HX.out.pn.stay (hB _ _)⟩
  · have hE : (if (r0, g).2 = true ∧ (r0, g).1 ≤ r then p else { p with me := putA p.me (a, n) r }) = { p with me := putA p.me (a, n) r } := if_neg hq
    rw [hE]
    clear hE
    have hq' : g = false ∨ (g = true ∧ r < r0) := by
      cases g
      · exact Or.inl rfl
      · exact Or.inr ⟨rfl, by simp at hq; omega⟩
    clear hq
    go_enter Tryd.func42, Tryd.ntmps42
    go_upto_region 1 with fail
    go_cut [6, 7] from 8 to 16 (fun t u wc => t = .int .i64 (r0 : Int) ∧ u = .bool g ∧ ∃ m, wc = (w.alloc (.cells #[.int .i64 a, .int .u64 (n : Int)] 51)).drewN m)
    case first =>
      go_quiet (fail)
      go_wp2
      go_meet
      exact ⟨rfl, rfl, _, rfl⟩
    case rest =>
      obtain ⟨rfl, rfl, m, rfl⟩ := hcut
      have bw := hB (.cells #[.int .i64 a, .int .u64 (n : Int)] 51) m
      have d0 : ((w.alloc (.cells #[.int .i64 a, .int .u64 (n : Int)] 51)).drewN m).cell? ⟨w.heap.size, 0, none⟩ = some (.int .i64 a) := by simp
      have d1 : ((w.alloc (.cells #[.int .i64 a, .int .u64 (n : Int)] 51)).drewN m).cell? ⟨w.heap.size, 1, none⟩ = some (.int .u64 (n : Int)) := by simp
      have hz : w.heap.size < ((w.alloc (.cells #[.int .i64 a, .int .u64 (n : Int)] 51)).drewN m).heap.size := by simp
      clear c4' hl' hB
      generalize (w.alloc (.cells #[.int .i64 a, .int .u64 (n : Int)] 51)).drewN m = w1 at *
      have y := HX.out.below bw
      have hD : Below w1.heap.size w1 w1.drew := ⟨rfl, rfl, rfl, Nat.le_refl _, fun _ _ => rfl⟩
      obtain ⟨o, o', ho, hU, hY⟩ := y.putT a n r
      have hU1 := hU w1 ho
      have hU2 := hU w1.drew ho
      obtain ⟨y3, k3⟩ := hY _ (y.below hD)
      have e4 := y.c4
      have HG : Hid (PGo w (ChangeMaps.setBlock w1.drew tb o') pb hb base (pBl pb sb mb tb v) _) := hidden (y3.went ((kept_of_below (bw.trans (hD.mono bw.size)) _).trans k3 (fun i _ e => Or.inr (Or.inr (Or.inr e)))) (Moved.refl _ _))
      clear hU hY ho y y3 k3 hD bw HX
      rcases hq' with rfl | ⟨rfl, hr⟩
      · go_wp2
        go_region
        all_goals
          go_wp2
          go_end0
          exact ⟨rfl, HG.out⟩
      · go_wp2
        go_region
        all_goals
          go_wp2
          go_end0
          exact ⟨rfl, HG.out⟩
end

end Go.Proofs.YtdafpfdmnccelaaDoor

namespace Go.Proofs.YtdafpfdmnccelaaDoor
open Go.RowKit

section
variable {w w' : World} {pb hb base sb mb tb : Nat} {v v' : Value} {p p' : PSt} {F : Nat → Prop} {h : HSt}
theorem pnode_any (y : HP w hb F h) (m : Nat) :
    Calls Tryd.prog 40 #[.pointer (some ⟨hb, 0, none⟩)] (w.drewN m) fun e w' => e = .returned (.int .i64 (h.node : Int)) ∧ w' = w.drewN m := by
  obtain ⟨ab, mb, L, hx, _⟩ := y.ex
  exact (hnode_any (hx.below (below_drewN0 w m))).mono (fun _ _ ⟨h1, h2⟩ => ⟨h1, h2.symm⟩)

set_option maxRecDepth 20000 in
set_option maxHeartbeats 2000000 in
theorem shade_any (x : PX w pb hb base sb mb tb v p) (y : HP w hb F h) (a : Int) (n : Nat) (r : Int) :
    Calls Tryd.prog 13 #[.pointer (some ⟨pb, 0, none⟩), .agg #[.int .i64 a, .int .u64 (n : Int)], .int .i64 r] w fun e w' => e = .returned (.tuple #[]) ∧ PGo w w' pb hb base (pBl pb sb mb tb v) (p.shade h (a, n) r) := by
  have hN := fun W => names_any a n W
  have hS0 := fun (hn : n < 18446744073709551616) W (hB : Below w.heap.size w W) => shadeOwn_any (x.below hB) (y.below hB) n hn (clampR r)
  have hM := fun W (hB : Below w.heap.size w W) => meet_any (x.below hB) a n (clampR r)
  have hc0 := fun W (hB : Below w.heap.size w W) => (x.below hB).c0
  have hNo := fun W m (hB : Below w.heap.size w W) => pnode_any (y.below hB) m
  have HX : Hid _ := hidden x
  have HT : Hid (∀ W W' q, Below w.heap.size w W → PGo W W' pb hb base (pBl pb sb mb tb v) q → PGo w W' pb hb base (pBl pb sb mb tb v) q) := fun W W' q hB hg => PGo.trans (fun k hk => Or.inl hk) (kept_of_below hB _) hg
  have hcl : (clampR r : Int) = min (max r 0) 40 := by unfold clampR; omega
  have hE : p.shade h (a, n) r = if namesB (a, n) then (if a = (h.node : Int) then p.own h n (clampR r) else p.meet (a, n) (clampR r)) else p := rfl
  rw [hE]
  generalize clampR r = c at *
  have HC : Hid ((c : Int) = min (max r 0) 40) := hidden hcl
  clear hE hcl x y
  have hA : ∀ o, Below w.heap.size w (w.alloc o) := fun o => bel_alloc w o
  have HN1 : Hid (∀ o w1, Below (w.alloc o).heap.size (w.alloc o) w1 → (∀ i, w1.cell? ⟨w.heap.size, i, none⟩ = (w.alloc o).cell? ⟨w.heap.size, i, none⟩) ∧ Below w.heap.size w w1 ∧ w.heap.size < w1.heap.size) := fun o w1 hb => ⟨fun i => hb.cell (p := ⟨w.heap.size, i, none⟩) (by simp), (hA o).trans (hb.mono (by simp)), by have := hb.size; simp at this; omega⟩
  cases hb : namesB (a, n) with
  | false =>
    rw [if_neg (by simp)]
    rw [hb] at hN
    clear hS0 hM hc0 hNo hb
    go_enter Tryd.func13, Tryd.ntmps13
    go_upto_region 1 with fail
    go_cut [2] from 6 to 8 (fun t wc => t = .int .i64 (c : Int) ∧ wc = w.alloc (.cells #[.int .i64 a, .int .u64 (n : Int)] 51))
    case first =>
      clear hN HN1 hA HT HX
      by_cases h0 : r < 0
      · have e : min (max r 0) 40 = 0 := by omega
        go_wp2
        go_meet
        exact ⟨by rw [HC.out, e], rfl⟩
      by_cases h1 : r = 0
      · have e : min (max r 0) 40 = 0 := by omega
        have HE : Hid _ := hidden (HC.out.trans e)
        clear HC e
        subst h1
        go_wp2
        go_meet
        exact ⟨by rw [HE.out], rfl⟩
      by_cases h2 : r < 40
      · have e : min (max r 0) 40 = r := by omega
        have h3 : 0 < r := by omega
        have HE : Hid _ := hidden (HC.out.trans e)
        clear HC e h0 h1
        go_wp2
        go_meet
        exact ⟨by rw [HE.out], rfl⟩
      by_cases h3 : r = 40
      · have e : min (max r 0) 40 = 40 := by omega
        have HE : Hid _ := hidden (HC.out.trans e)
        clear HC e
        subst h3
        go_wp2
        go_meet
        exact ⟨by rw [HE.out], rfl⟩
      · have e : min (max r 0) 40 = 40 := by omega
        have h4 : 0 < r := by omega
        have h5 : 40 < r := by omega
        have HE : Hid _ := hidden (HC.out.trans e)
        clear HC e h0 h1 h2 h3
        go_wp2
        go_meet
        exact ⟨by rw [HE.out], rfl⟩
    case rest =>
      obtain ⟨rfl, rfl⟩ := hcut
      clear HC
      go_wp2_with (go_at_call 39; refine (hN _).mono ?_; rintro e w1 ⟨rfl, hb1⟩; obtain ⟨d, bw, bs⟩ := HN1.out _ _ hb1; clear d hb1)
      (try simp only [Exit.inBlock, Exit.then]); refine bodyPost_ret (results_none rfl _ _ _) rfl ?_
      exact ⟨rfl, HX.out.pn.stay bw⟩
  | true =>
    rw [if_pos rfl]
    rw [hb] at hN
    have hS := hS0 (by simp [namesB] at hb; omega)
    clear hb hS0
    have hnd : ∃ nd : Int, nd = (h.node : Int) := ⟨_, rfl⟩
    obtain ⟨nd, hnd⟩ := hnd
    rw [← hnd] at hNo ⊢
    by_cases hq : a = nd
    · rw [if_pos hq]
      clear hM
      clear hnd
      subst hq
      go_enter Tryd.func13, Tryd.ntmps13
      go_upto_region 1 with fail
      go_cut [2] from 6 to 8 (fun t wc => t = .int .i64 (c : Int) ∧ wc = w.alloc (.cells #[.int .i64 a, .int .u64 (n : Int)] 51))
      case first =>
        clear hN HN1 hA HT HX hS hc0 hNo
        by_cases h0 : r < 0
        · have e : min (max r 0) 40 = 0 := by omega
          go_wp2
          go_meet
          exact ⟨by rw [HC.out, e], rfl⟩
        by_cases h1 : r = 0
        · have e : min (max r 0) 40 = 0 := by omega
          have HE : Hid _ := hidden (HC.out.trans e)
          clear HC e
          subst h1
          go_wp2
          go_meet
          exact ⟨by rw [HE.out], rfl⟩
        by_cases h2 : r < 40
        · have e : min (max r 0) 40 = r := by omega
          have h3 : 0 < r := by omega
          have HE : Hid _ := hidden (HC.out.trans e)
          clear HC e h0 h1
          go_wp2
          go_meet
          exact ⟨by rw [HE.out], rfl⟩
        by_cases h3 : r = 40
        · have e : min (max r 0) 40 = 40 := by omega
          have HE : Hid _ := hidden (HC.out.trans e)
          clear HC e
          subst h3
          go_wp2
          go_meet
          exact ⟨by rw [HE.out], rfl⟩
        · have e : min (max r 0) 40 = 40 := by omega
          have h4 : 0 < r := by omega
          have h5 : 40 < r := by omega
          have HE : Hid _ := hidden (HC.out.trans e)
          clear HC e h0 h1 h2 h3
          go_wp2
          go_meet
          exact ⟨by rw [HE.out], rfl⟩
      case rest =>
        obtain ⟨rfl, rfl⟩ := hcut
        clear HC
        go_upto_region 4 with (go_at_call 39; refine (hN _).mono ?_; rintro e w1 ⟨rfl, hb1⟩; obtain ⟨d, bw, bs⟩ := HN1.out _ _ hb1; have d0 := d 0; have d1 := d 1; simp at d0 d1; clear d hb1)
        have c0 := fun m => hc0 _ (bw.trans ((below_drewN0 w1 m).mono bw.size))
        have hNo1 := fun m => hNo _ m bw
        have hS1 := fun m => hS _ (bw.trans ((below_drewN0 w1 m).mono bw.size))
        have HB : Hid _ := hidden bw
        have c00 := hc0 _ bw
        clear hN hS hc0 hNo bw HN1 hA
        go_cut [17] from 18 to 25 (fun t wc => t = .bool true ∧ ∃ m, wc = w1.drewN m)
        case first =>
          go_quiet (first | (go_at_call 40; exact Calls.quiet_of_same (hNo1 _)))
          go_wp2
          go_meet
          exact ⟨by first | rfl | simp, _, rfl⟩
        case rest =>
          obtain ⟨rfl, m, rfl⟩ := hcut
          go_wp2_with fail
          refine (hS1 _).mono ?_
          rintro e w2 ⟨rfl, hg⟩
          have HG : Hid _ := hidden (HT.out _ _ _ (HB.out.trans ((below_drewN0 w1 m).mono HB.out.size)) hg)
          clear hg hS1 hNo1 c0 c00
          go_wp2
          go_end0
          exact ⟨rfl, HG.out⟩
    · rw [if_neg hq]
      clear hS
      clear hnd
      go_enter Tryd.func13, Tryd.ntmps13
      go_upto_region 1 with fail
      go_cut [2] from 6 to 8 (fun t wc => t = .int .i64 (c : Int) ∧ wc = w.alloc (.cells #[.int .i64 a, .int .u64 (n : Int)] 51))
      case first =>
        clear hN HN1 hA HT HX hM hc0 hNo hq
        by_cases h0 : r < 0
        · have e : min (max r 0) 40 = 0 := by omega
          go_wp2
          go_meet
          exact ⟨by rw [HC.out, e], rfl⟩
        by_cases h1 : r = 0
        · have e : min (max r 0) 40 = 0 := by omega
          have HE : Hid _ := hidden (HC.out.trans e)
          clear HC e
          subst h1
          go_wp2
          go_meet
          exact ⟨by rw [HE.out], rfl⟩
        by_cases h2 : r < 40
        · have e : min (max r 0) 40 = r := by omega
          have h3 : 0 < r := by omega
          have HE : Hid _ := hidden (HC.out.trans e)
          clear HC e h0 h1
          go_wp2
          go_meet
          exact ⟨by rw [HE.out], rfl⟩
        by_cases h3 : r = 40
        · have e : min (max r 0) 40 = 40 := by omega
          have HE : Hid _ := hidden (HC.out.trans e)
          clear HC e
          subst h3
          go_wp2
          go_meet
          exact ⟨by rw [HE.out], rfl⟩
        · have e : min (max r 0) 40 = 40 := by omega
          have h4 : 0 < r := by omega
          have h5 : 40 < r := by omega
          have HE : Hid _ := hidden (HC.out.trans e)
          clear HC e h0 h1 h2 h3
          go_wp2
          go_meet
          exact ⟨by rw [HE.out], rfl⟩
      case rest =>
        obtain ⟨rfl, rfl⟩ := hcut
        clear HC
        go_upto_region 4 with (go_at_call 39; refine (hN _).mono ?_; rintro e w1 ⟨rfl, hb1⟩; obtain ⟨d, bw, bs⟩ := HN1.out _ _ hb1; have d0 := d 0; have d1 := d 1; simp at d0 d1; clear d hb1)
        have c0 := fun m => hc0 _ (bw.trans ((below_drewN0 w1 m).mono bw.size))
        have hNo1 := fun m => hNo _ m bw
        have hM1 := fun m => hM _ (bw.trans ((below_drewN0 w1 m).mono bw.size))
        have HB : Hid _ := hidden bw
        have c00 := hc0 _ bw
        clear hN hM hc0 hNo bw HN1 hA
        go_cut [17] from 18 to 25 (fun t wc => t = .bool false ∧ ∃ m, wc = w1.drewN m)
        case first =>
          go_quiet (first | (go_at_call 40; exact Calls.quiet_of_same (hNo1 _)))
          go_wp2
          go_meet
          exact ⟨by first | rfl | simp [hq], _, rfl⟩
        case rest =>
          obtain ⟨rfl, m, rfl⟩ := hcut
          go_wp2_with fail
          refine (hM1 _).mono ?_
          rintro e w2 ⟨rfl, hg⟩
          have HG : Hid _ := hidden (HT.out _ _ _ (HB.out.trans ((below_drewN0 w1 m).mono HB.out.size)) hg)
          clear hg hM1 hNo1 c0 c00
          go_wp2
          go_end0
          exact ⟨rfl, HG.out⟩
end

end Go.Proofs.YtdafpfdmnccelaaDoor

namespace Go.Proofs.YtdafpfdmnccelaaDoor
open Go.RowKit

section
variable {w w' : World} {pb hb base sb mb tb : Nat} {v v' : Value} {p p' : PSt} {F G : Nat → Prop} {h : HSt}
theorem all_step (h : HSt) (p : PSt) (l : List (Int × Nat)) (r i : Nat) (hi : i < l.length) : PSt.all h p (l.take (i + 1)) r = (PSt.all h p (l.take i) r).shade h l[i] (r : Int) := by
  unfold PSt.all
  rw [List.take_succ_eq_append_getElem hi, List.foldl_append]
  rfl
end

end Go.Proofs.YtdafpfdmnccelaaDoor

namespace Go.Proofs.YtdafpfdmnccelaaDoor
open Go.RowKit

set_option maxRecDepth 20000 in
set_option maxHeartbeats 400000 in
theorem pnew_nil (n : Int) (w : World) :
    Calls Tryd.prog 8 #[.pointer none, .int .i64 n] w fun e w' => e = .returned (.tuple #[.pointer none, .int .i64 1]) ∧ Below w.heap.size w w' := by
  by_cases h : n < 1 ∨ 64 < n
  · have hN := newU_no n h w
    clear h
    go_enter Tryd.func8, Tryd.ntmps8
    go_wp2_with fail
    refine hN.mono ?_
    rintro e _ ⟨rfl, rfl⟩
    go_wp2
    go_ret2
    exact ⟨rfl, Below.refl _ _⟩
  · obtain ⟨M, rfl⟩ : ∃ M : Nat, n = (M : Int) := ⟨n.toNat, by omega⟩
    have hN := newU_ok 0 M (by omega) (by omega) w
    clear h
    go_enter Tryd.func8, Tryd.ntmps8
    go_wp2_with fail
    refine hN.mono ?_
    rintro e w1 ⟨rfl, _, hb1⟩
    clear hN
    go_wp2
    go_ret2
    exact ⟨rfl, hb1⟩
set_option maxRecDepth 20000 in
set_option maxHeartbeats 400000 in
theorem pnew_no (hb : Nat) (n : Int) (h : n < 1 ∨ 64 < n) (w : World) :
    Calls Tryd.prog 8 #[.pointer (some ⟨hb, 0, none⟩), .int .i64 n] w fun e w' => e = .returned (.tuple #[.pointer none, .int .i64 1]) ∧ w = w' := by
  have hN := newU_no n h w
  clear h
  go_enter Tryd.func8, Tryd.ntmps8
  go_wp2_with fail
  refine hN.mono ?_
  rintro e _ ⟨rfl, rfl⟩
  clear hN
  go_wp2
  go_ret2
  exact ⟨rfl, rfl⟩
set_option maxRecDepth 20000 in
set_option maxHeartbeats 1000000 in
theorem pnew_ok (hb base M : Nat) (h1 : 1 ≤ M) (h2 : M ≤ 64) (w : World) (hbase : base ≤ w.heap.size) :
    Calls Tryd.prog 8 #[.pointer (some ⟨hb, 0, none⟩), .int .i64 (M : Int)] w fun e w' => ∃ pb G, e = .returned (.tuple #[.pointer (some ⟨pb, 0, none⟩), .int .i64 0]) ∧ PN w' pb hb base G (PSt.new M) ∧ (∀ k, G k → w.heap.size ≤ k) ∧ Below w.heap.size w w' := by
  have hN := newU_ok base M h1 h2 w
  have hmm := @run_makeMap Tryd.prog
  clear h1 h2
  go_enter Tryd.func8, Tryd.ntmps8
  go_wp2_with fail
  refine hN.mono ?_
  rintro e w1 ⟨rfl, x1, hb1⟩
  have HX : Hid _ := hidden x1
  have hz := x1.box.lt
  clear hN x1
  go_wp2
  go_ret2
  have b1 : Below w1.heap.size w1 (w1.alloc (.map #[] 0)) := bel_alloc _ _
  have b2 : Below (w1.alloc (.map #[] 0)).heap.size _ ((w1.alloc (.map #[] 0)).alloc (.map #[] 0)) := bel_alloc _ _
  have b3 : Below ((w1.alloc (.map #[] 0)).alloc (.map #[] 0)).heap.size _ (((w1.alloc (.map #[] 0)).alloc (.map #[] 0)).alloc (.cells #[.pointer (some ⟨hb, 0, none⟩), .int .u64 0, .pointer (some ⟨w.heap.size, 0, none⟩), .map (some w1.heap.size), .map (some (w1.heap.size + 1))] 87)) := bel_alloc _ _
  have b12 : Below w1.heap.size w1 ((w1.alloc (.map #[] 0)).alloc (.map #[] 0)) := b1.trans (b2.mono (by simp))
  have b13 := b12.trans (b3.mono (by simp; omega))
  have m1 : MQ eU (w1.alloc (.map #[] 0)) w1.heap.size [] := MQ.made eU w1
  have m2 : MQ eI ((w1.alloc (.map #[] 0)).alloc (.map #[] 0)) (w1.heap.size + 1) [] := by
    have := MQ.made eI (w1.alloc (.map #[] 0))
    simpa using this
  have hr : Row (((w1.alloc (.map #[] 0)).alloc (.map #[] 0)).alloc (.cells #[.pointer (some ⟨hb, 0, none⟩), .int .u64 0, .pointer (some ⟨w.heap.size, 0, none⟩), .map (some w1.heap.size), .map (some (w1.heap.size + 1))] 87)) (w1.heap.size + 2) 87 [.pointer (some ⟨hb, 0, none⟩), .int .u64 0, .pointer (some ⟨w.heap.size, 0, none⟩), .map (some w1.heap.size), .map (some (w1.heap.size + 1))] := by
    have := heap_alloc_new ((w1.alloc (.map #[] 0)).alloc (.map #[] 0)) (.cells #[.pointer (some ⟨hb, 0, none⟩), .int .u64 0, .pointer (some ⟨w.heap.size, 0, none⟩), .map (some w1.heap.size), .map (some (w1.heap.size + 1))] 87)
    have e : ((w1.alloc (.map #[] 0)).alloc (.map #[] 0)).heap.size = w1.heap.size + 2 := by simp
    rw [e] at this
    exact this
  have hx : PX (((w1.alloc (.map #[] 0)).alloc (.map #[] 0)).alloc (.cells #[.pointer (some ⟨hb, 0, none⟩), .int .u64 0, .pointer (some ⟨w.heap.size, 0, none⟩), .map (some w1.heap.size), .map (some (w1.heap.size + 1))] 87)) (w1.heap.size + 2) hb base w.heap.size w1.heap.size (w1.heap.size + 1) (.slice none 0 0) (PSt.new M) :=
    ⟨hr, HX.out.below b13, (m1.below b2).below b3, m2.below b3, ⟨by omega, by omega, by omega, by omega, by omega, by omega, (fun e => by cases e), (fun e => by cases e), (fun e => by cases e)⟩, ⟨by omega, by omega, by omega, by omega⟩⟩
  refine ⟨w1.heap.size + 2, _, rfl, hx.pn, fun k hk => ?_, hb1.trans (b13.mono hb1.size)⟩
  rcases hk with rfl | (rfl | hk) | rfl | rfl
  · omega
  · omega
  · cases hk
  · omega
  · omega

section
variable {w w' : World} {pb hb base sb mb tb : Nat} {v v' : Value} {p p' : PSt}
end

end Go.Proofs.YtdafpfdmnccelaaDoor
