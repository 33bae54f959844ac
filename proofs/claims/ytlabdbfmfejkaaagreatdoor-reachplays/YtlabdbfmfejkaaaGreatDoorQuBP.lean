import Derived.Test.YtlabdbfmfejkaaaGreatDoorReIP
import Derived.Test.YtlabdbfmfejkaaaGreatDoorGrMP
import Derived.Test.YtlabdbfmfejkaaaGreatDoorPick
import Derived.Deep.QuietTactic
import Derived.BigQuiet
import Derived.Test.YtlabdbfmfejkaaaGreatDoorPbJP
import Derived.Test.YtlabdbfmfejkaaaGreatDoorPbY0P
import Derived.Deep.CutRange
import Derived.Deep.CutBlock
/- The plain reacher in memory. Each of its blocks bears a label: 0 the reacher, 1 its row, 2 what waits, 3 the keys, 4 the Outs, 5 the list of the ended rows, 6 their Outs; 9: none of its. -/
/- A region that draws its order, whose operations only read, and whose callees read, too, or make blocks of their own: walked once, in the class of all worlds that are below as it was. -/
/- The plain reacher: isSuspect, put. -/
namespace Go.Proofs.YtlabdbfmfejkaaaGreatDoor
open Go.RowKit

/-- A plain reacher: its numbers, its lists. -/
structure QSt where
  sus : Int
  place : Nat
  under : Bool
  inn : Nat
  row : List Nat
  waits : List Nat
  outs : List (Int × Nat)
  ended : List (Nat × List (Int × Nat))
def QSt.put (s : QSt) (a : Nat) : QSt := if a ∈ s.row then s else { s with row := s.row ++ [a], waits := s.waits ++ [a] }
def QSt.look (h : HSt) (p : PSt) (s : QSt) (x : Int × Nat) : QSt :=
  if x.1 = (h.node : Int) then (if susO h p s.sus x.2 then s.put x.2 else s) else if susI p s.sus x then { s with outs := meetL s.outs x } else s
def QSt.all (h : HSt) (p : PSt) (s : QSt) (l : List (Int × Nat)) : QSt := l.foldl (fun s x => s.look h p x) s
def QSt.endS (s : QSt) : QSt := { s with under := false, row := [], waits := [], outs := [], ended := if s.under then s.ended ++ [(s.inn, s.outs)] else s.ended }
/-- The cells. -/
def rqV (rb qb : Nat) (s : QSt) (rv wv tv kv ov : Value) : List Value := [.pointer (some ⟨rb, 0, none⟩), .pointer (some ⟨qb, 0, none⟩), rv, .int .u64 (s.place : Int), .int .i64 s.sus, .bool s.under, .int .u64 (s.inn : Int), wv, tv, .int .i64 1048576, kv, ov]
structure RcQ (w : World) (B yb rb qb : Nat) (L : Nat → Nat) (s : QSt) (rv wv tv kv ov : Value) (ts : List ((Nat × List (Int × Nat)) × Value)) : Prop where
  box : Row w yb 50 (rqV rb qb s rv wv tv kv ov)
  rl : RL w B rv ts
  ed : ts.map (·.1) = s.ended
  wl : w.ownsRow B 44 1 wv s.row.length (s.row.map uV)
  tl : w.ownsRow B 44 1 tv s.waits.length (s.waits.map uV)
  kl : w.ownsRow B 44 1 kv s.outs.length (s.outs.map (fun x => uV (keyI x)))
  ol : OwI w B ov s.outs
  l0 : L yb = 0
  l1 : ∀ k, wv.ownBlock = some k → L k = 1
  l2 : ∀ k, tv.ownBlock = some k → L k = 2
  l3 : ∀ k, kv.ownBlock = some k → L k = 3
  l4 : ∀ k, ov.ownBlock = some k → L k = 4
  l5 : ∀ k, rv.ownBlock = some k → L k = 5
  l6 : ∀ e ∈ ts, ∀ k, e.2.ownBlock = some k → L k = 6
  lo : ∀ k, L k < 9 → B ≤ k ∧ k < w.heap.size
def QcN (w : World) (B yb rb qb : Nat) (L : Nat → Nat) (s : QSt) : Prop := ∃ rv wv tv kv ov ts, RcQ w B yb rb qb L s rv wv tv kv ov ts
/-- What became of it. -/
structure QcGo (w w' : World) (B yb rb qb : Nat) (L : Nat → Nat) (s : QSt) : Prop where
  ex : ∃ L', QcN w' B yb rb qb L' s ∧ ∀ k, L' k < 9 → L k < 9 ∨ w.heap.size ≤ k
  kept : Kept w w' (fun k => L k < 9)
/-- Another label for new blocks. -/
def relQ (w : World) (L : Nat → Nat) (f : Nat → Nat) (k : Nat) : Nat := if k < w.heap.size then L k else f k
section
variable {w w1 w' : World} {B yb rb qb : Nat} {L : Nat → Nat} {s s' : QSt} {rv wv tv kv ov rv' wv' tv' kv' ov' : Value} {ts ts' : List ((Nat × List (Int × Nat)) × Value)} {S : Nat → Prop} {f : Nat → Nat}
theorem relQ_old {k : Nat} (h : k < w.heap.size) : relQ w L f k = L k := if_pos h
theorem relQ_new {k : Nat} (h : w.heap.size ≤ k) : relQ w L f k = f k := if_neg (by omega)
theorem relQ_of {v v' : Value} {c k : Nat} (hl : ∀ k, v.ownBlock = some k → L k = c) (hlt : ∀ k, v.ownBlock = some k → k < w.heap.size) (n : ∀ k, v'.ownBlock = some k → v.ownBlock = some k ∨ (w.heap.size ≤ k ∧ f k = c)) (h : v'.ownBlock = some k) : relQ w L f k = c := by
  rcases n k h with a | ⟨a, b⟩
  · rw [relQ_old (hlt k a)]; exact hl k a
  · rw [relQ_new a]; exact b
theorem RcQ.bl (x : RcQ w B yb rb qb L s rv wv tv kv ov ts) : B ≤ yb ∧ yb < w.heap.size := x.lo yb (by rw [x.l0]; omega)
/-- It is another one; f: the labels of what is new. -/
theorem RcQ.upd (x : RcQ w B yb rb qb L s rv wv tv kv ov ts) (hk : Kept w w' S) (hS : ∀ k, k < w.heap.size → S k → L k < 9)
    (box : Row w' yb 50 (rqV rb qb s' rv' wv' tv' kv' ov')) (rl : RL w' B rv' ts') (ed : ts'.map (·.1) = s'.ended) (wl : w'.ownsRow B 44 1 wv' s'.row.length (s'.row.map uV)) (tl : w'.ownsRow B 44 1 tv' s'.waits.length (s'.waits.map uV)) (kl : w'.ownsRow B 44 1 kv' s'.outs.length (s'.outs.map (fun x => uV (keyI x)))) (ol : OwI w' B ov' s'.outs)
    (n1 : ∀ k, wv'.ownBlock = some k → wv.ownBlock = some k ∨ (w.heap.size ≤ k ∧ f k = 1)) (n2 : ∀ k, tv'.ownBlock = some k → tv.ownBlock = some k ∨ (w.heap.size ≤ k ∧ f k = 2)) (n3 : ∀ k, kv'.ownBlock = some k → kv.ownBlock = some k ∨ (w.heap.size ≤ k ∧ f k = 3)) (n4 : ∀ k, ov'.ownBlock = some k → ov.ownBlock = some k ∨ (w.heap.size ≤ k ∧ f k = 4)) (n5 : ∀ k, rv'.ownBlock = some k → rv.ownBlock = some k ∨ (w.heap.size ≤ k ∧ f k = 5))
    (n6 : ∀ e ∈ ts', ∀ k, e.2.ownBlock = some k → (∃ e0 ∈ ts, e0.2.ownBlock = some k) ∨ (w.heap.size ≤ k ∧ f k = 6)) : QcGo w w' B yb rb qb L s' := by
  have hs := hk.size
  have hBw : B ≤ w.heap.size := by have := x.bl; omega
  refine ⟨⟨relQ w L (fun k => if k < w'.heap.size then f k else 9), ⟨rv', wv', tv', kv', ov', ts', ⟨box, rl, ed, wl, tl, kl, ol, (relQ_old x.bl.2).trans x.l0, fun k e => ?_, fun k e => ?_, fun k e => ?_, fun k e => ?_, fun k e => ?_, fun e he k h => ?_, fun k e => ?_⟩⟩, fun k e => ?_⟩, hk.mono (fun k hl e => hS k hl e)⟩
  · exact relQ_of x.l1 (fun k e => (own_lt1 x.wl k e).2) (fun k e => (n1 k e).imp id (fun a => ⟨a.1, by rw [if_pos (own_lt1 wl k e).2]; exact a.2⟩)) e
  · exact relQ_of x.l2 (fun k e => (own_lt1 x.tl k e).2) (fun k e => (n2 k e).imp id (fun a => ⟨a.1, by rw [if_pos (own_lt1 tl k e).2]; exact a.2⟩)) e
  · exact relQ_of x.l3 (fun k e => (own_lt1 x.kl k e).2) (fun k e => (n3 k e).imp id (fun a => ⟨a.1, by rw [if_pos (own_lt1 kl k e).2]; exact a.2⟩)) e
  · exact relQ_of x.l4 (fun k e => (own_lt1 x.ol k e).2) (fun k e => (n4 k e).imp id (fun a => ⟨a.1, by rw [if_pos (own_lt1 ol k e).2]; exact a.2⟩)) e
  · exact relQ_of x.l5 (fun k e => (own_lt1 x.rl.ow k e).2) (fun k e => (n5 k e).imp id (fun a => ⟨a.1, by rw [if_pos (own_lt1 rl.ow k e).2]; exact a.2⟩)) e
  · rcases n6 e he k h with ⟨e0, h0, h1⟩ | ⟨a, b⟩
    · rw [relQ_old ((x.rl.sr e0 h0).ge k h1).2]
      exact x.l6 e0 h0 k h1
    · rw [relQ_new a, if_pos ((rl.sr e he).ge k h).2]
      exact b
  · by_cases hkw : k < w.heap.size
    · rw [relQ_old hkw] at e
      have := x.lo k e
      omega
    · rw [relQ_new (by omega)] at e
      by_cases h2 : k < w'.heap.size
      · omega
      · rw [if_neg h2] at e; omega
  · by_cases hkw : k < w.heap.size
    · rw [relQ_old hkw] at e
      exact Or.inl e
    · exact Or.inr (by omega)
theorem RcQ.kept (x : RcQ w B yb rb qb L s rv wv tv kv ov ts) (hk : Kept w w' S) (hs : ∀ k, L k < 9 → ¬ S k) : RcQ w' B yb rb qb L s rv wv tv kv ov ts :=
  ⟨x.box.kept hk (hs _ (by rw [x.l0]; omega)), ⟨own_kept x.rl.ow hk (fun k e => hs k (by rw [x.l5 k e]; omega)), fun e he => (x.rl.sr e he).kept hk (fun k h => hs k (by rw [x.l6 e he k h]; omega)), x.rl.ne⟩, x.ed, own_kept x.wl hk (fun k e => hs k (by rw [x.l1 k e]; omega)), own_kept x.tl hk (fun k e => hs k (by rw [x.l2 k e]; omega)), own_kept x.kl hk (fun k e => hs k (by rw [x.l3 k e]; omega)), x.ol.kept hk (fun k e => hs k (by rw [x.l4 k e]; omega)), x.l0, x.l1, x.l2, x.l3, x.l4, x.l5, x.l6, fun k e => ⟨(x.lo k e).1, Nat.lt_of_lt_of_le (x.lo k e).2 hk.size⟩⟩
theorem RcQ.below (x : RcQ w B yb rb qb L s rv wv tv kv ov ts) (hB : Below w.heap.size w w') : RcQ w' B yb rb qb L s rv wv tv kv ov ts := x.kept (kept_of_below hB (fun _ => False)) (fun _ _ => id)
theorem RcQ.wl_k (x : RcQ w B yb rb qb L s rv wv tv kv ov ts) (hk : Kept w w' S) (h : ∀ k, L k = 1 → ¬ S k) : w'.ownsRow B 44 1 wv s.row.length (s.row.map uV) := own_kept x.wl hk (fun k e => h k (x.l1 k e))
theorem RcQ.tl_k (x : RcQ w B yb rb qb L s rv wv tv kv ov ts) (hk : Kept w w' S) (h : ∀ k, L k = 2 → ¬ S k) : w'.ownsRow B 44 1 tv s.waits.length (s.waits.map uV) := own_kept x.tl hk (fun k e => h k (x.l2 k e))
theorem RcQ.kl_k (x : RcQ w B yb rb qb L s rv wv tv kv ov ts) (hk : Kept w w' S) (h : ∀ k, L k = 3 → ¬ S k) : w'.ownsRow B 44 1 kv s.outs.length (s.outs.map (fun x => uV (keyI x))) := own_kept x.kl hk (fun k e => h k (x.l3 k e))
theorem RcQ.ol_k (x : RcQ w B yb rb qb L s rv wv tv kv ov ts) (hk : Kept w w' S) (h : ∀ k, L k = 4 → ¬ S k) : OwI w' B ov s.outs := x.ol.kept hk (fun k e => h k (x.l4 k e))
theorem RcQ.rl_k (x : RcQ w B yb rb qb L s rv wv tv kv ov ts) (hk : Kept w w' S) (h : ∀ k, L k = 5 ∨ L k = 6 → ¬ S k) : RL w' B rv ts := ⟨own_kept x.rl.ow hk (fun k e => h k (Or.inl (x.l5 k e))), fun e he => (x.rl.sr e he).kept hk (fun k e' => h k (Or.inr (x.l6 e he k e'))), x.rl.ne⟩
theorem QcN.kept (x : QcN w B yb rb qb L s) (hk : Kept w w' S) (hs : ∀ k, L k < 9 → ¬ S k) : QcN w' B yb rb qb L s := by
  obtain ⟨_, _, _, _, _, _, x⟩ := x
  exact ⟨_, _, _, _, _, _, x.kept hk hs⟩
theorem QcN.below (x : QcN w B yb rb qb L s) (hB : Below w.heap.size w w') : QcN w' B yb rb qb L s := x.kept (kept_of_below hB (fun _ => False)) (fun _ _ => id)
theorem QcN.lo (x : QcN w B yb rb qb L s) : ∀ k, L k < 9 → B ≤ k ∧ k < w.heap.size := by
  obtain ⟨_, _, _, _, _, _, x⟩ := x
  exact x.lo
theorem QcN.stay (x : QcN w B yb rb qb L s) (hB : Below w.heap.size w w') : QcGo w w' B yb rb qb L s := ⟨⟨L, x.below hB, fun _ h => Or.inl h⟩, kept_of_below hB _⟩
theorem QcGo.trans (h1 : QcGo w w1 B yb rb qb L s') (h2 : ∀ L1, QcN w1 B yb rb qb L1 s' → QcGo w1 w' B yb rb qb L1 s) : QcGo w w' B yb rb qb L s := by
  obtain ⟨L1, x1, a1⟩ := h1.ex
  have h2 := h2 L1 x1
  obtain ⟨L2, x2, a2⟩ := h2.ex
  refine ⟨⟨L2, x2, fun k hk => ?_⟩, h1.kept.trans h2.kept (fun k hk e => ?_)⟩
  · rcases a2 k hk with a | a
    · exact a1 k a
    · exact Or.inr (Nat.le_trans h1.kept.size a)
  · rcases a1 k e with a | a
    · exact a
    · omega
theorem RcQ.c (x : RcQ w B yb rb qb L s rv wv tv kv ov ts) : w.cell? ⟨yb, 0, none⟩ = some (.pointer (some ⟨rb, 0, none⟩)) ∧ w.cell? ⟨yb, 1, none⟩ = some (.pointer (some ⟨qb, 0, none⟩)) ∧ w.cell? ⟨yb, 2, none⟩ = some rv ∧ w.cell? ⟨yb, 3, none⟩ = some (.int .u64 (s.place : Int)) ∧ w.cell? ⟨yb, 4, none⟩ = some (.int .i64 s.sus) ∧ w.cell? ⟨yb, 5, none⟩ = some (.bool s.under) ∧ w.cell? ⟨yb, 6, none⟩ = some (.int .u64 (s.inn : Int)) ∧ w.cell? ⟨yb, 7, none⟩ = some wv ∧ w.cell? ⟨yb, 8, none⟩ = some tv ∧ w.cell? ⟨yb, 9, none⟩ = some (.int .i64 1048576) ∧ w.cell? ⟨yb, 10, none⟩ = some kv ∧ w.cell? ⟨yb, 11, none⟩ = some ov :=
  ⟨x.box.cell 0 (by simp [rqV]), x.box.cell 1 (by simp [rqV]), x.box.cell 2 (by simp [rqV]), x.box.cell 3 (by simp [rqV]), x.box.cell 4 (by simp [rqV]), x.box.cell 5 (by simp [rqV]), x.box.cell 6 (by simp [rqV]), x.box.cell 7 (by simp [rqV]), x.box.cell 8 (by simp [rqV]), x.box.cell 9 (by simp [rqV]), x.box.cell 10 (by simp [rqV]), x.box.cell 11 (by simp [rqV])⟩
end
end Go.Proofs.YtlabdbfmfejkaaaGreatDoor

namespace Go.Proofs.YtlabdbfmfejkaaaGreatDoor
open Go.RowKit

/-- A world that is below as w was. -/
structure BelW (w : World) where
  W : World
  h : Below w.heap.size w W
instance (w : World) : Inhabited (BelW w) := ⟨⟨w, Below.refl _ _⟩⟩
theorem wp_region_below {P : Program} {id : Nat} {Q : Exit → Act → World → Prop} {a : Act} {w : World} {l : List Oper} (hm : P.follows .mixedOrders = true) (hB : Region.lexB .any l.toArray = true)
    (h : wpQuiet P l.toArray (fun w' => ∃ p : BelW w, w' = p.W) (fun a' => ∀ w', (∃ p : BelW w, w' = p.W) → Q .normal a' w') l a) : (Code.region id l.toArray true).wp P Q a w :=
  wp_region_quiet (C := fun w' => ∃ p : BelW w, w' = p.W) hm hB ⟨⟨w.drew, (Below.refl _ _).drew⟩, rfl⟩ (by simpa using h)
theorem calls_below_of {P : Program} {f : FuncId} {args : Array Value} {w : World} {p : BelW w} {v : Value}
    (h : Calls P f args p.W fun e w' => e = .returned v ∧ Below p.W.heap.size p.W w') : Calls P f args p.W fun e w'' => e = .returned v ∧ ∃ q : BelW w, w'' = q.W :=
  h.mono fun _ w' ⟨he, hb⟩ => ⟨he, ⟨w', p.h.trans (hb.mono p.h.size)⟩, rfl⟩
theorem BelW.cell {w : World} {a : Addr} {v : Value} (h : w.cell? a = some v) (p : BelW w) : p.W.cell? a = some v := (p.h.cell (cell_lt h)).trans h
end Go.Proofs.YtlabdbfmfejkaaaGreatDoor

namespace Go.Proofs.YtlabdbfmfejkaaaGreatDoor
open Go.RowKit

section
variable {w w1 w2 w' : World} {B yb rb qb : Nat} {L : Nat → Nat} {s s' : QSt} {rv wv tv kv ov v : Value} {ts : List ((Nat × List (Int × Nat)) × Value)} {S : Nat → Prop}
theorem QcGo.after {L1 : Nat → Nat} (h2 : QcGo w1 w' B yb rb qb L1 s) (k1 : Kept w w1 (fun k => L k < 9)) (a1 : ∀ k, L1 k < 9 → L k < 9 ∨ w.heap.size ≤ k) : QcGo w w' B yb rb qb L s := by
  obtain ⟨L2, x2, a2⟩ := h2.ex
  refine ⟨⟨L2, x2, fun k hk => ?_⟩, k1.trans h2.kept (fun k hk e => ?_)⟩
  · rcases a2 k hk with a | a
    · exact a1 k a
    · exact Or.inr (Nat.le_trans k1.size a)
  · rcases a1 k e with a | a
    · exact a
    · omega
/-- Its row is another list. -/
theorem RcQ.rowl (x : RcQ w B yb rb qb L s rv wv tv kv ov ts) (hb : Below w.heap.size w w1) (hk : Kept w1 w2 (fun k => wv.ownBlock = some k)) {l : List Nat} (ho : w2.ownsRow B 44 1 v l.length (l.map uV)) (hm : Moved w1 wv v) :
    QcGo w (w2.setCell ⟨yb, 7, none⟩ v) B yb rb qb L { s with row := l } ∧ w2.cell? ⟨yb, 7, none⟩ = some wv ∧ w2.frozen? ⟨yb, 7, none⟩ = false ∧ yb < w2.heap.size := by
  have b2 := (x.box.below hb).kept hk (fun e => by have := x.l1 _ e; rw [x.l0] at this; omega)
  have hks : Kept w2 (w2.setCell ⟨yb, 7, none⟩ v) (fun k => k = yb) := Kept.setCell _ _ _
  have hall : Kept w (w2.setCell ⟨yb, 7, none⟩ v) (fun k => L k = 0 ∨ L k = 1) := ((kept_of_below hb _).trans (hk.mono (fun k _ e => Or.inr (x.l1 k e))) (fun _ _ e => e)).trans (hks.mono (fun k _ e => by
    have e' : k = yb := e
    rw [e', x.l0]
    exact Or.inl rfl)) (fun _ _ e => e)
  have hsz := hb.size
  refine ⟨x.upd (f := fun _ => 1) hall (fun k _ e => by omega) (b2.set 7 v) (x.rl_k hall (fun k e => by omega)) x.ed (own_kept ho hks (fun k e e' => ?_)) (x.tl_k hall (fun k e => by omega)) (x.kl_k hall (fun k e => by omega)) (x.ol_k hall (fun k e => by omega)) (fun k e => (hm k e).imp id (fun a => ⟨by omega, rfl⟩)) (fun k e => Or.inl e) (fun k e => Or.inl e) (fun k e => Or.inl e) (fun k e => Or.inl e) (fun e he k h => Or.inl ⟨e, he, h⟩), b2.cell 7 (by simp [rqV]), b2.frozen 7, b2.lt⟩
  have e' : k = yb := e'
  subst e'
  rcases hm k e with a | a
  · have := x.l1 k a; rw [x.l0] at this; omega
  · have := x.bl.2; omega
/-- What waits is another list. -/
theorem RcQ.waitl (x : RcQ w B yb rb qb L s rv wv tv kv ov ts) (hb : Below w.heap.size w w1) (hk : Kept w1 w2 (fun k => tv.ownBlock = some k)) {l : List Nat} (ho : w2.ownsRow B 44 1 v l.length (l.map uV)) (hm : Moved w1 tv v) :
    QcGo w (w2.setCell ⟨yb, 8, none⟩ v) B yb rb qb L { s with waits := l } ∧ w2.cell? ⟨yb, 8, none⟩ = some tv ∧ w2.frozen? ⟨yb, 8, none⟩ = false ∧ yb < w2.heap.size := by
  have b2 := (x.box.below hb).kept hk (fun e => by have := x.l2 _ e; rw [x.l0] at this; omega)
  have hks : Kept w2 (w2.setCell ⟨yb, 8, none⟩ v) (fun k => k = yb) := Kept.setCell _ _ _
  have hall : Kept w (w2.setCell ⟨yb, 8, none⟩ v) (fun k => L k = 0 ∨ L k = 2) := ((kept_of_below hb _).trans (hk.mono (fun k _ e => Or.inr (x.l2 k e))) (fun _ _ e => e)).trans (hks.mono (fun k _ e => by
    have e' : k = yb := e
    rw [e', x.l0]
    exact Or.inl rfl)) (fun _ _ e => e)
  have hsz := hb.size
  refine ⟨x.upd (f := fun _ => 2) hall (fun k _ e => by omega) (b2.set 8 v) (x.rl_k hall (fun k e => by omega)) x.ed (x.wl_k hall (fun k e => by omega)) (own_kept ho hks (fun k e e' => ?_)) (x.kl_k hall (fun k e => by omega)) (x.ol_k hall (fun k e => by omega)) (fun k e => Or.inl e) (fun k e => (hm k e).imp id (fun a => ⟨by omega, rfl⟩)) (fun k e => Or.inl e) (fun k e => Or.inl e) (fun k e => Or.inl e) (fun e he k h => Or.inl ⟨e, he, h⟩), b2.cell 8 (by simp [rqV]), b2.frozen 8, b2.lt⟩
  have e' : k = yb := e'
  subst e'
  rcases hm k e with a | a
  · have := x.l2 k a; rw [x.l0] at this; omega
  · have := x.bl.2; omega
theorem map_snoc (l : List Nat) (a : Nat) : (l ++ [a]).map uV = l.map uV ++ [.int .u64 (a : Int)] := by rw [List.map_append]; rfl
set_option maxRecDepth 20000 in
set_option maxHeartbeats 1000000 in
theorem qput_any (x : QcN w B yb rb qb L s) (a : Nat) (h1 : s.row.length ≤ 100000) (h2 : s.waits.length ≤ 100000) :
    Calls Tryz.prog 40 #[.pointer (some ⟨yb, 0, none⟩), .int .u64 (a : Int)] w fun e w' => e = .returned (.tuple #[]) ∧ QcGo w w' B yb rb qb L (s.put a) := by
  have HN : Hid _ := hidden x
  obtain ⟨i0, hi0, hz0, hzs, hzb⟩ := info_parts Tryz.infoW
  obtain ⟨rv, wv, tv, kv, ov, ts, x⟩ := x
  obtain ⟨_, _, _, _, _, _, _, c7, _, _, _, _⟩ := x.c
  have hyl := x.bl.2
  have hBl : B ≤ w.heap.size := by have := x.bl; omega
  obtain ⟨wo, wc, hwv, hwc1, hwc2, _⟩ := own_slice x.wl
  have HCL : Hid (∀ i (hi : i < s.row.length), ∃ g, wo = some ⟨g, 0, none⟩ ∧ g < w.heap.size ∧ w.cell? ⟨g, i, none⟩ = some (.int .u64 (s.row[i] : Int))) := fun i hi => by
    obtain ⟨g, cap', e, _, h2, _, h3, _⟩ := ownc_cell x.wl (by omega)
    rw [hwv] at e
    simp only [Value.slice.injEq] at e
    refine ⟨g, e.1, h2, h3 i _ ?_⟩
    rw [List.getElem?_map, List.getElem?_eq_getElem hi]
    rfl
  subst hwv
  have HX : Hid _ := hidden x
  obtain ⟨n, hn⟩ : ∃ n, n = s.row.length := ⟨_, rfl⟩
  have HNL : Hid (n = s.row.length) := hn
  rw [← hn] at c7 hwc1 h1
  unfold maxLen at hwc2
  clear x hn
  go_enter Tryz.func40, Tryz.ntmps40
  go_wp2
  go_loopw [4] (fun t wr => ∃ i : Nat, i ≤ n ∧ t = .int .i64 (i : Int) ∧ wr = w ∧ ∀ j (hj : j < s.row.length), j < i → s.row[j] ≠ a) (fun t _ => n - (intOf t).toNat)
  case atStart => exact ⟨0, Nat.zero_le _, rfl, rfl, fun j _ h => absurd h (Nat.not_lt_zero _)⟩
  case round =>
    obtain ⟨i, hi, rfl, rfl, hno⟩ := hrel
    by_cases hlt : (i : Int) < (n : Int)
    · have hil : i < s.row.length := by have := HNL.out; omega
      obtain ⟨g, rfl, hgl, d0⟩ := HCL.out i hil
      by_cases he : s.row[i] = a
      · have HP : Hid (s.put a = s) := by
          have e : s.put a = s := by unfold QSt.put; rw [if_pos (by rw [← he]; exact List.getElem_mem hil)]
          exact e
        rw [he] at d0
        have hq : ((a : Int) == (a : Int)) = true := by simp
        clear hno
        go_wp2
        (try simp only [Exit.inBlock, Exit.then]); refine bodyPost_ret (results_none rfl _ _ _) rfl ?_
        rw [HP.out]
        exact ⟨rfl, HN.out.stay (Below.refl _ _)⟩
      · have HNO : Hid (∀ j (hj : j < s.row.length), j < i + 1 → s.row[j] ≠ a) := fun j hj h => by
          by_cases e : j = i
          · subst e; exact he
          · exact hno j hj (by omega)
        generalize s.row[i] = q at *
        have hq : ((q : Int) == (a : Int)) = false := by rw [beq_eq_false_iff_ne]; omega
        clear hno
        go_wp2
        go_roundw
        case rel => exact ⟨i + 1, by omega, by go_num, by first | trivial | rfl, HNO.out⟩
        case measure => simp [intOf]; omega
    · have HP : Hid (s.put a = { s with row := s.row ++ [a], waits := s.waits ++ [a] }) := by
        have e : s.put a = { s with row := s.row ++ [a], waits := s.waits ++ [a] } := by
          unfold QSt.put
          rw [if_neg]
          intro hm
          obtain ⟨j, hj, e⟩ := List.getElem_of_mem hm
          exact hno j hj (by have := HNL.out; omega) e
        exact e
      clear hno
      go_upto_region 4 with fail
      go_cut [] from 23 to 32 (fun wc => QcGo wr wc B yb rb qb L { s with row := s.row ++ [a] })
      case first =>
        have HB0 : Hid (∀ o, Below wr.heap.size wr (wr.alloc o)) := fun o => bel_alloc wr o
        have HWL : Hid (wr.ownsRow B 44 1 (.slice wo n wc) n (s.row.map uV)) := by
          have h := HX.out.wl
          rw [← HNL.out] at h
          exact h
        have HR : Hid (∀ o w5 v5, Kept (wr.alloc o) w5 (fun k => (Value.slice wo n wc).ownBlock = some k) → w5.ownsRow B 44 1 v5 (n + 1) (s.row.map uV ++ [.int .u64 (a : Int)]) → Moved (wr.alloc o) (.slice wo n wc) v5 → QcGo wr (w5.setCell ⟨yb, 7, none⟩ v5) B yb rb qb L { s with row := s.row ++ [a] } ∧ w5.cell? ⟨yb, 7, none⟩ = some (.slice wo n wc) ∧ w5.frozen? ⟨yb, 7, none⟩ = false ∧ yb < w5.heap.size) := fun o w5 v5 hk ho hm => by
          have hx := HX.out
          rw [← HNL.out] at hx
          have ho' : w5.ownsRow B 44 1 v5 (s.row ++ [a]).length ((s.row ++ [a]).map uV) := by
            rw [map_snoc, List.length_append, ← HNL.out]
            exact ho
          exact hx.rowl (HB0.out o) hk ho' hm
        go_wp2_with (at_builtin; refine wpList_append_sr rfl (.tmp 27) (.tmp 29) 45 rfl 44 i0 _ 1 8 Tryz.underlying45 hi0 hz0 hzs hzb rfl (by omega) B _ n (s.row.map uV) rfl (own_kept HWL.out (kept_of_below (HB0.out _) (fun _ => False)) (fun _ _ e => e)) _ 1 [.int .u64 (a : Int)] rfl (Sr.one1 (heap_alloc_new wr _) rfl (by simp [Value.oneCell'])) (by omega) (by omega) (by simp; omega) ?_; intro v5 w5 ho5 hk5 hm5; obtain ⟨hg5, q5, f5, l5⟩ := HR.out _ w5 v5 hk5 ho5 hm5; have HG5 : Hid _ := hidden hg5; obtain ⟨vo5, vc5, hv5⟩ := ownc_form ho5; subst hv5; clear ho5 hk5 hm5 hg5)
        go_meet
        exact HG5.out
      case rest =>
        obtain ⟨L1, ⟨rv1, wv1, tv1, kv1, ov1, ts1, x1⟩, a1⟩ := hcut.ex
        have HK1 : Hid _ := hidden hcut.kept
        have HA1 : Hid _ := hidden a1
        obtain ⟨_, _, _, _, _, _, _, _, c8, _, _, _⟩ := x1.c
        obtain ⟨tq, tc, htv, htc1, htc2, _⟩ := own_slice x1.tl
        unfold maxLen at htc2
        subst htv
        have hyl1 := x1.bl.2
        have hBl1 : B ≤ wc.heap.size := by have := x1.bl; omega
        obtain ⟨m, hm⟩ : ∃ m, m = s.waits.length := ⟨_, rfl⟩
        have HML : Hid (m = s.waits.length) := hm
        have HX1 : Hid _ := hidden x1
        simp only [← hm] at c8 htc1 h2
        clear x1 hm c7 hcut a1
        have HB0 : Hid (∀ o, Below wc.heap.size wc (wc.alloc o)) := fun o => bel_alloc wc o
        have HTL : Hid (wc.ownsRow B 44 1 (.slice tq m tc) m (s.waits.map uV)) := by
          have h := HX1.out.tl
          simp only [← HML.out] at h
          exact h
        have HR : Hid (∀ o w5 v5, Kept (wc.alloc o) w5 (fun k => (Value.slice tq m tc).ownBlock = some k) → w5.ownsRow B 44 1 v5 (m + 1) (s.waits.map uV ++ [.int .u64 (a : Int)]) → Moved (wc.alloc o) (.slice tq m tc) v5 → QcGo wc (w5.setCell ⟨yb, 8, none⟩ v5) B yb rb qb L1 { s with row := s.row ++ [a], waits := s.waits ++ [a] } ∧ w5.cell? ⟨yb, 8, none⟩ = some (.slice tq m tc) ∧ w5.frozen? ⟨yb, 8, none⟩ = false ∧ yb < w5.heap.size) := fun o w5 v5 hk ho hm => by
          have hx := HX1.out
          simp only [← HML.out] at hx
          have ho' : w5.ownsRow B 44 1 v5 (s.waits ++ [a]).length ((s.waits ++ [a]).map uV) := by
            rw [map_snoc, List.length_append, ← HML.out]
            exact ho
          exact hx.waitl (HB0.out o) hk ho' hm
        go_wp2_with (at_builtin; refine wpList_append_sr rfl (.tmp 37) (.tmp 39) 45 rfl 44 i0 _ 1 8 Tryz.underlying45 hi0 hz0 hzs hzb rfl (by omega) B _ m (s.waits.map uV) rfl (own_kept HTL.out (kept_of_below (HB0.out _) (fun _ => False)) (fun _ _ e => e)) _ 1 [.int .u64 (a : Int)] rfl (Sr.one1 (heap_alloc_new wc _) rfl (by simp [Value.oneCell'])) (by omega) (by omega) (by simp; omega) ?_; intro v5 w5 ho5 hk5 hm5; obtain ⟨hg5, q5, f5, l5⟩ := HR.out _ w5 v5 hk5 ho5 hm5; have HG5 : Hid _ := hidden hg5; obtain ⟨vo5, vc5, hv5⟩ := ownc_form ho5; subst hv5; clear ho5 hk5 hm5 hg5)
        go_end0
        rw [HP.out]
        exact ⟨rfl, HG5.out.after HK1.out HA1.out⟩
end
end Go.Proofs.YtlabdbfmfejkaaaGreatDoor
