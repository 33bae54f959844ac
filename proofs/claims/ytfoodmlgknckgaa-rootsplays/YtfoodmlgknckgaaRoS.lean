/- The law's steps; the plain IDs, of what is the same. -/
import Derived.Test.YtfoodmlgknckgaaRoK
import Derived.Test.YtfoodmlgknckgaaWsl
import Derived.Test.YtfoodmlgknckgaaPick
import Derived.Deep.QuietTactic
import Derived.BigQuiet
namespace Go.Proofs.Ytfoodmlgknckgaa
open Go.ChangeShapes Go.WideShapes Go.ChangeAt Go.RowKit Go.Deep

/-- A step. -/
structure StepR where
  m : Int
  s : Int
  xn : Int
  xs : Nat
  near : Bool
def cStepR (s : StepR) : List Value := [.int .i64 s.m, .int .i64 s.s, .int .i64 s.xn, .int .u64 (s.xs : Int), .bool s.near]
def StepR.Ok (s : StepR) : Prop := s.xs < 18446744073709551616
theorem list5 {α : Type} {l : List α} (h : l.length = 5) : ∃ a b c d e, l = [a, b, c, d, e] := by
  match l, h with
  | [a, b, c, d, e], _ => exact ⟨a, b, c, d, e, rfl⟩
theorem trod_u64 {H : Type} {enc : TypeId × Value → H} {W : World} {n : Nat} {u : List Value} {y : DataW H × List MemPlace} (h : DataW.trod enc Try.prog W 0 (fun _ => true) true n 28 u = some y) : ∃ x : Nat, u = [.int .u64 (x : Int)] ∧ x < 18446744073709551616 := by
  obtain ⟨x, h1, h2⟩ := trod_nat (K := .u64) rfl Try.underlying28 h
  have hm : IntKind.u64.max = 18446744073709551615 := rfl
  exact ⟨x, h1, by omega⟩
theorem ews_stepR {H : Type} {enc : TypeId × Value → H} {W : World} : ∀ n cs (y : DataW H × List MemPlace), DataW.trod enc Try.prog W 0 (fun _ => true) true n 39 cs = some y → ∃ x : StepR, cs = cStepR x ∧ x.Ok := by
  intro n cs y h
  obtain ⟨hlen, k, hf⟩ := trod_fields 5 Try.underlying39 (by kernel_rfl) h
  obtain ⟨v0, v1, v2, v3, v4, rfl⟩ := list5 hlen
  obtain ⟨y0, g0⟩ := hf 0 3 0 1 rfl (by kernel_rfl)
  obtain ⟨y1, g1⟩ := hf 1 3 1 1 rfl (by kernel_rfl)
  obtain ⟨y2, g2⟩ := hf 2 30 2 2 rfl (by kernel_rfl)
  obtain ⟨y3, g3⟩ := hf 3 4 4 1 rfl (by kernel_rfl)
  obtain ⟨_, k5, hf5⟩ := trod_fields 2 Try.underlying30 (by kernel_rfl) g2
  obtain ⟨y50, g50⟩ := hf5 0 3 0 1 rfl (by kernel_rfl)
  obtain ⟨y51, g51⟩ := hf5 1 28 1 1 rfl (by kernel_rfl)
  obtain ⟨z0, e0, _, _⟩ := DataW.trod_int Try.underlying3 g0
  obtain ⟨z1, e1, _, _⟩ := DataW.trod_int Try.underlying3 g1
  obtain ⟨z2, e2, _, _⟩ := DataW.trod_int Try.underlying3 g50
  obtain ⟨z3, e3, b3⟩ := trod_u64 g51
  obtain ⟨z4, e4, _⟩ := DataW.trod_bool Try.underlying4 g3
  simp only [List.drop_succ_cons, List.drop_zero, List.take_succ_cons, List.take_zero, List.cons.injEq, and_true] at e0 e1 e2 e3 e4
  subst e0 e1 e2 e3 e4
  exact ⟨⟨z0, z1, z2, z3, z4⟩, rfl, b3⟩
theorem WS.stepR {w : World} {ao : Option Addr} {n cap : Nat} {xs : List StepR} (h : WS w (.slice ao n cap) 5 cStepR xs) (i : Nat) (hi : i < xs.length) : ∃ b off, ao = some ⟨b, off, none⟩ ∧ b < w.heap.size ∧
    w.cell? ⟨b, off + i * 5, none⟩ = some (.int .i64 xs[i].m) ∧ w.cell? ⟨b, off + i * 5 + 1, none⟩ = some (.int .i64 xs[i].s) ∧ w.cell? ⟨b, off + i * 5 + 2, none⟩ = some (.int .i64 xs[i].xn) ∧ w.cell? ⟨b, off + i * 5 + 3, none⟩ = some (.int .u64 (xs[i].xs : Int)) ∧
    w.cell? ⟨b, off + i * 5 + 4, none⟩ = some (.bool xs[i].near) := by
  obtain ⟨b, off, h1, h2, h3⟩ := h.at i hi
  exact ⟨b, off, h1, h2, h3 0 _ rfl, h3 1 _ rfl, h3 2 _ rfl, h3 3 _ rfl, h3 4 _ rfl⟩

theorem OwI.at {w : World} {B : Nat} {v : Value} {l : List (Int × Nat)} (h : OwI w B v l) : ∃ ao c, v = .slice ao l.length c ∧ l.length ≤ c ∧ c ≤ maxLen ∧ ∀ k (hk : k < l.length), ∃ g, ao = some ⟨g, 0, none⟩ ∧ B ≤ g ∧ g < w.heap.size ∧ w.cell? ⟨g, k * 2, none⟩ = some (.int .i64 l[k].1) ∧ w.cell? ⟨g, k * 2 + 1, none⟩ = some (.int .u64 (l[k].2 : Int)) := by
  have hs := h.sr
  obtain ⟨ao, c, rfl, h1, h2, h3⟩ := h.slice
  refine ⟨ao, c, rfl, h1, h2, fun k hk => ?_⟩
  rcases h.2 with ⟨_, h0⟩ | ⟨g, cap, cur, he, hge, _, _⟩
  · omega
  · simp only [Value.slice.injEq] at he
    obtain ⟨rfl, _, rfl⟩ := he
    rcases hs.val with ⟨h0, _⟩ | ⟨ad, k', h0, hc⟩
    · cases h0
    · simp only [Value.slice.injEq, Option.some.injEq] at h0
      obtain ⟨rfl, _, rfl⟩ := h0
      obtain ⟨e0, e1⟩ := idsV_at l k hk
      have c0 := hc _ _ e0
      have c1 := hc _ _ e1
      rw [Addr.add_at, Nat.zero_add] at c0 c1
      exact ⟨g, rfl, hge, cell_lt c0, c0, c1⟩

set_option maxRecDepth 20000 in
set_option maxHeartbeats 2000000 in
theorem idsEq_any (xs : List (Int × Nat)) (v1 v2 : Value) (B1 B2 : Nat) (w : World) (ha : OwI w B1 v1 xs) (hb : OwI w B2 v2 xs) :
    Calls Try.prog 19 #[v1, v2] w fun e w' => e = .returned (.bool true) ∧ Below w.heap.size w w' := by
  have hg := guardID
  have he := eqID
  obtain ⟨a1, c1, rfl, hc1, hm1, ha⟩ := ha.at
  obtain ⟨a2, c2, rfl, hc2, hm2, hb⟩ := hb.at
  unfold maxLen at hm1 hm2
  have HA : Hid _ := hidden ha
  have HB : Hid _ := hidden hb
  clear ha hb
  go_enter Try.func19, Try.ntmps19
  go_wp2
  go_loopw [5] (fun i wr => ∃ k : Nat, k ≤ xs.length ∧ i = .int .i64 (k : Int) ∧ Below w.heap.size w wr) (fun i _ => xs.length - (intOf i).toNat)
  case atStart => exact ⟨0, Nat.zero_le _, rfl, Below.refl _ _⟩
  case round =>
    obtain ⟨k, hk, rfl, hbr⟩ := hrel
    have hzr := hbr.size
    by_cases hlt : k < xs.length
    · obtain ⟨g1, rfl, _, l1, p0, p1⟩ := HA.out k hlt
      obtain ⟨g2, rfl, _, l2, q0, q1⟩ := HB.out k hlt
      have p0 := (hbr.cell (p := ⟨g1, k * 2, none⟩) l1).trans p0
      have p1 := (hbr.cell (p := ⟨g1, k * 2 + 1, none⟩) l1).trans p1
      have q0 := (hbr.cell (p := ⟨g2, k * 2, none⟩) l2).trans q0
      have q1 := (hbr.cell (p := ⟨g2, k * 2 + 1, none⟩) l2).trans q1
      generalize xs[k] = x at *
      have hq1 : (x.1 == x.1) = true := beq_self_eq_true _
      have hq2 : ((x.2 : Int) == (x.2 : Int)) = true := beq_self_eq_true _
      go_wp2
      go_quiet (fail)
      go_wp2
      go_roundw
      case rel => exact ⟨k + 1, by omega, by go_num, hbr.trans ((below_drewN0 _ _).mono hzr)⟩
      case measure => simp [intOf]; omega
    · go_wp2
      go_ret
      exact ⟨rfl, hbr⟩

end Go.Proofs.Ytfoodmlgknckgaa
