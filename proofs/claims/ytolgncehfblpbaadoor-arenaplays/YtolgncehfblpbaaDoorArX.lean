/- ints; both arenas side by side; the law's steps. -/
import Derived.Test.YtolgncehfblpbaaDoorArW
import Derived.Test.YtolgncehfblpbaaDoorArS
import Derived.Test.YtolgncehfblpbaaDoorWsl
import Derived.Deep.QuietTactic
import Derived.BigQuiet
namespace Go.Proofs.YtolgncehfblpbaaDoor
open Go.ChangeShapes Go.WideShapes Go.ChangeAt Go.RowKit Go.Deep

theorem Row.cls {w : World} {g : Nat} {bs : List Bk} (h : Row w g 3 (bs.map cV)) (i : Nat) (hi : i < bs.length) : w.cell? ⟨g, i, none⟩ = some (.int .i64 (bs[i].c : Int)) := by
  rw [h.cell i (by simpa using hi), List.getElem_map]
  rfl

set_option maxRecDepth 20000 in
set_option maxHeartbeats 400000 in
theorem ints_same (g1 g2 : Nat) (bs : List Bk) (hl : bs.length ≤ 256) (w : World) (h1 : Row w g1 3 (bs.map cV)) (h2 : Row w g2 3 (bs.map cV)) :
    Calls Tryd.prog 26 #[.slice (some ⟨g1, 0, none⟩) bs.length bs.length, .slice (some ⟨g2, 0, none⟩) bs.length bs.length] w fun e w' => e = .returned (.bool true) ∧ Below w.heap.size w w' := by
  go_enter Tryd.func26, Tryd.ntmps26
  go_wp2
  go_loopw [5] (fun i wr => ∃ m : Nat, m ≤ bs.length ∧ i = .int .i64 (m : Int) ∧ Below w.heap.size w wr) (fun i _ => bs.length - (intOf i).toNat)
  case atStart => exact ⟨0, Nat.zero_le _, rfl, Below.refl _ _⟩
  case round =>
    obtain ⟨m, hm, rfl, hb⟩ := hrel
    by_cases hml : (m : Int) < (bs.length : Int)
    · have hm' : m < bs.length := by omega
      have d1 := (h1.below hb).cls m hm'
      have d2 := (h2.below hb).cls m hm'
      generalize bs[m] = x at *
      go_wp2
      go_quiet (fail)
      go_wp2
      go_roundw
      case rel => exact ⟨m + 1, by omega, by go_num, hb.trans ((below_drewN0 _ _).mono hb.size)⟩
      case measure => simp [intOf]; omega
    · go_wp2
      go_ret
      exact ⟨rfl, hb⟩

/-- A step. -/
structure StepA where
  what : Int
  n : Int
  near : Bool
def cStepA (s : StepA) : List Value := [.int .i64 s.what, .int .i64 s.n, .bool s.near]
theorem list3 {α : Type} {l : List α} (h : l.length = 3) : ∃ a b c, l = [a, b, c] := by
  match l, h with
  | [a, b, c], _ => exact ⟨a, b, c, rfl⟩
theorem ews_stepA {H : Type} {enc : TypeId × Value → H} {W : World} : ∀ n cs (y : DataW H × List MemPlace), DataW.trod enc Tryd.prog W 0 (fun _ => true) true n 39 cs = some y → ∃ x : StepA, cs = cStepA x ∧ x.n ≤ 9223372036854775807 := by
  intro n cs y h
  obtain ⟨hlen, k, hf⟩ := trod_fields 3 Tryd.underlying39 (by kernel_rfl) h
  obtain ⟨v0, v1, v2, rfl⟩ := list3 hlen
  obtain ⟨y0, g0⟩ := hf 0 3 0 1 rfl (by kernel_rfl)
  obtain ⟨y1, g1⟩ := hf 1 3 1 1 rfl (by kernel_rfl)
  obtain ⟨y2, g2⟩ := hf 2 4 2 1 rfl (by kernel_rfl)
  obtain ⟨z0, e0, _, _⟩ := DataW.trod_int Tryd.underlying3 g0
  obtain ⟨z1, e1, _, hw1⟩ := DataW.trod_int Tryd.underlying3 g1
  obtain ⟨z2, e2, _⟩ := DataW.trod_bool Tryd.underlying4 g2
  simp only [List.drop_succ_cons, List.drop_zero, List.take_succ_cons, List.take_zero, List.cons.injEq, and_true] at e0 e1 e2
  subst e0 e1 e2
  refine ⟨⟨z0, z1, z2⟩, rfl, ?_⟩
  simp only [Lit.wf, Bool.and_eq_true, decide_eq_true_eq] at hw1
  have hmx : IntKind.i64.max = 9223372036854775807 := rfl
  have := hw1.2
  show z1 ≤ _
  omega
theorem WS.stepA {w : World} {ao : Option Addr} {n cap : Nat} {xs : List StepA} (h : WS w (.slice ao n cap) 3 cStepA xs) (i : Nat) (hi : i < xs.length) : ∃ b off, ao = some ⟨b, off, none⟩ ∧ b < w.heap.size ∧
    w.cell? ⟨b, off + i * 3, none⟩ = some (.int .i64 xs[i].what) ∧ w.cell? ⟨b, off + i * 3 + 1, none⟩ = some (.int .i64 xs[i].n) ∧ w.cell? ⟨b, off + i * 3 + 2, none⟩ = some (.bool xs[i].near) := by
  obtain ⟨b, off, h1, h2, h3⟩ := h.at i hi
  exact ⟨b, off, h1, h2, h3 0 _ rfl, h3 1 _ rfl, h3 2 _ rfl⟩

theorem allocR_le {bs : List Bk} (hO : AO bs) (hl : bs.length ≤ 256) (s : Int) : (allocR bs s).1 ≤ 10000 := by
  unfold allocR
  split
  · omega
  · next hz =>
    cases hp : pickB (classN s) bs with
    | none => simp
    | some n =>
      obtain ⟨hn, _⟩ := pickB_lt hp
      have h1 := placeN_lt bs[n].t (hO _ (List.getElem_mem hn)).lt
      have h2 := (mul_small (placeN bs[n].t) (classN s) (by omega) (classN_ne hz).le).2
      simp only [getD_at hn]
      omega

/-- Both arenas: the program's of bs, the plain one of bs2; what was told. -/
structure PS (w wr : World) (g N : Nat) (bs bs2 : List Bk) (rb rc rt o : Nat) (va : Value) (tl : List Nat) : Prop where
  s : AS w wr g N bs
  r : RA wr rb rc rt bs2
  lo : g < rb ∧ g < rc ∧ g < rt
  hi : rb < o ∧ rc < o ∧ rt < o
  t : Ow wr o va tl
  sm : ∀ c ∈ tl, c ≤ 10000
section
variable {w wr w' : World} {g N : Nat} {bs bs2 bs' : List Bk} {rb rc rt o : Nat} {va va' : Value} {tl : List Nat}
theorem PS.read (h : PS w wr g N bs bs2 rb rc rt o va tl) (hb : Below wr.heap.size wr w') : PS w w' g N bs bs2 rb rc rt o va tl :=
  ⟨h.s.read hb, h.r.below hb, h.lo, h.hi, h.t.below hb, h.sm⟩
theorem PS.arena (h : PS w wr g N bs bs2 rb rc rt o va tl) (hs : AS w w' g N bs') (hk : Kept wr w' (fun k => k = g)) : PS w w' g N bs' bs2 rb rc rt o va tl := by
  obtain ⟨l1, l2, l3⟩ := h.lo
  obtain ⟨h1, h2, h3⟩ := h.hi
  exact ⟨hs, h.r.kept hk (by show ¬ (rb = g); omega) (by show ¬ (rc = g); omega) (by show ¬ (rt = g); omega), h.lo, h.hi, h.t.kept hk (fun k hk => by have := (h.t.ge k hk).1; show ¬ (k = g); omega), h.sm⟩
theorem PS.ref (h : PS w wr g N bs bs2 rb rc rt o va tl) (hr : RA w' rb rc rt bs') (hk : Kept wr w' (fun k => k = rc ∨ k = rt)) : PS w w' g N bs bs' rb rc rt o va tl := by
  obtain ⟨l1, l2, l3⟩ := h.lo
  obtain ⟨h1, h2, h3⟩ := h.hi
  exact ⟨h.s.keep hk (fun k hk e => by have e' : k = rc ∨ k = rt := e; omega), hr, h.lo, h.hi, h.t.kept hk (fun k hk e => by have := (h.t.ge k hk).1; have e' : k = rc ∨ k = rt := e; omega), h.sm⟩
theorem PS.push (h : PS w wr g N bs bs2 rb rc rt o va tl) (c : Nat) (hc : c ≤ 10000) (ho : Ow w' o va' (tl ++ [c])) (hk : Kept wr w' (fun k => va.ownBlock = some k)) : PS w w' g N bs bs2 rb rc rt o va' (tl ++ [c]) := by
  obtain ⟨l1, l2, l3⟩ := h.lo
  obtain ⟨h1, h2, h3⟩ := h.hi
  refine ⟨h.s.keep hk (fun k hk e => by have := (h.t.ge k e).1; omega), h.r.kept hk (fun e => by have := (h.t.ge rb e).1; omega) (fun e => by have := (h.t.ge rc e).1; omega) (fun e => by have := (h.t.ge rt e).1; omega), h.lo, h.hi, ho, fun d hd => ?_⟩
  rw [List.mem_append, List.mem_singleton] at hd
  rcases hd with hd | rfl
  · exact h.sm d hd
  · exact hc
end

set_option maxRecDepth 20000 in
set_option maxHeartbeats 400000 in
theorem arenaPlays_no (n : Int) (h : n < 16 ∨ 4096 < n ∨ n % 16 ≠ 0) (hlo : -9223372036854775808 ≤ n) (hhi : n ≤ 9223372036854775807) (v : Value) (w : World) (hT : TB w) :
    Calls Tryd.prog 5 #[.int .i64 n, v] w fun e w' => e = .returned (.bool true) ∧ Below w.heap.size w w' := by
  have hN := fun w => new_no n h w
  by_cases h1 : n < 16
  · go_enter Tryd.func5, Tryd.ntmps5
    go_wp2_with (first
      | (go_at_call 9; refine (hN _).mono ?_; rintro e _ ⟨rfl, rfl⟩)
      | (go_at_call 10; refine (known_any _ hT).mono ?_; rintro e w1 ⟨rfl, hb1⟩))
    go_ret
    exact ⟨rfl, hb1⟩
  by_cases h2 : 4096 < n
  · go_enter Tryd.func5, Tryd.ntmps5
    go_wp2_with (first
      | (go_at_call 9; refine (hN _).mono ?_; rintro e _ ⟨rfl, rfl⟩)
      | (go_at_call 10; refine (known_any _ hT).mono ?_; rintro e w1 ⟨rfl, hb1⟩))
    go_ret
    exact ⟨rfl, hb1⟩
  obtain ⟨m, rfl⟩ : ∃ m : Nat, n = (m : Int) := ⟨n.toNat, by omega⟩
  have hb : ((m : Int) % 16 != 0) = true := by rw [bne_iff_ne]; omega
  clear h
  go_enter Tryd.func5, Tryd.ntmps5
  go_wp2_with (first
    | (go_at_call 9; refine (hN _).mono ?_; rintro e _ ⟨rfl, rfl⟩)
    | (go_at_call 10; refine (known_any _ hT).mono ?_; rintro e w1 ⟨rfl, hb1⟩))
  go_ret
  exact ⟨rfl, hb1⟩

end Go.Proofs.YtolgncehfblpbaaDoor
