import Derived.Test.YtdafpfdmnccelaaDoorHpQP
import Derived.Test.YtdafpfdmnccelaaDoorWsl
/- Next. -/
/- Next and Object of a heap that is all that is new; the law's steps. -/
namespace Go.Proofs.YtdafpfdmnccelaaDoor
open Go.RowKit

/-- Of the keys ks that are not to come any more: the least above s, or none. -/
def Best (ks : List Nat) (left : Lit → Bool) (s lo : Nat) (fb : Bool) : Prop :=
  (fb = false ∧ lo = 0 ∧ ∀ k ∈ ks, left (kL k) = false → k ≤ s) ∨ (fb = true ∧ lo ∈ ks ∧ s < lo ∧ ∀ k ∈ ks, left (kL k) = false → s < k → lo ≤ k)
theorem strike_at {left : Lit → Bool} {k j : Nat} (h : (left (kL j) && !(kL j).sameKey (kL k)) = false) : left (kL j) = false ∨ j = k := by
  cases hl : left (kL j)
  · exact Or.inl rfl
  · rw [hl] at h
    simp only [Bool.true_and, Bool.not_eq_false'] at h
    exact Or.inr (kL_inj (WideAt.sameKey_eq h))
theorem Best.skip {ks : List Nat} {left : Lit → Bool} {s lo k : Nat} {fb : Bool} (h : Best ks left s lo fb) (hk : k ≤ s ∨ (fb = true ∧ lo ≤ k)) : Best ks (fun z => left z && !z.sameKey (kL k)) s lo fb := by
  rcases h with ⟨h1, h2, h3⟩ | ⟨h1, h2, h3, h4⟩
  · refine Or.inl ⟨h1, h2, fun j hj hl => ?_⟩
    rcases strike_at hl with e | e
    · exact h3 j hj e
    · rcases hk with hk | hk
      · omega
      · rw [h1] at hk; cases hk.1
  · refine Or.inr ⟨h1, h2, h3, fun j hj hl hs => ?_⟩
    rcases strike_at hl with e | e
    · exact h4 j hj e hs
    · omega
theorem Best.take {ks : List Nat} {left : Lit → Bool} {s lo k : Nat} {fb : Bool} (h : Best ks left s lo fb) (hm : k ∈ ks) (hk : s < k) (hf : fb = false ∨ k < lo) : Best ks (fun z => left z && !z.sameKey (kL k)) s k true := by
  refine Or.inr ⟨rfl, hm, hk, fun j hj hl hs => ?_⟩
  rcases strike_at hl with e | e
  · rcases h with ⟨h1, h2, h3⟩ | ⟨h1, h2, h3, h4⟩
    · have := h3 j hj e
      omega
    · have := h4 j hj e hs
      rcases hf with hf | hf
      · rw [h1] at hf; cases hf
      · omega
  · omega
theorem nextR_none {cs : List Oc} {s : Nat} (h : ∀ o ∈ cs, o.s ≤ s) : nextR cs s = (0, false) := by
  unfold nextR
  have : cs.find? (fun o => decide (s < o.s)) = none := by
    rw [List.find?_eq_none]
    intro o ho
    have := h o ho
    simp
    omega
  rw [this]
theorem nextR_some {cs : List Oc} (hs : cs.Pairwise (fun a b => a.s < b.s)) {s : Nat} {o : Oc} (ho : o ∈ cs) (h1 : s < o.s) (h2 : ∀ p ∈ cs, s < p.s → o.s ≤ p.s) : nextR cs s = (o.s, true) := by
  unfold nextR
  cases hf : cs.find? (fun o => decide (s < o.s)) with
  | none =>
    rw [List.find?_eq_none] at hf
    have := hf o ho
    simp at this
    omega
  | some p =>
    have hp := List.mem_of_find?_eq_some hf
    have hps : s < p.s := by simpa using List.find?_some hf
    have h3 := h2 p hp hps
    have h4 : p.s ≤ o.s := by
      rw [List.find?_eq_some_iff_append] at hf
      obtain ⟨_, la, lb, e, ha⟩ := hf
      rw [e] at hs ho
      rw [List.pairwise_append, List.pairwise_cons] at hs
      rcases List.mem_append.1 ho with ho | ho
      · have := ha o ho
        simp at this
        omega
      · rcases List.mem_cons.1 ho with rfl | ho
        · exact Nat.le_refl _
        · have := hs.2.1.1 o ho
          omega
    have : p.s = o.s := by omega
    simp only [this]
theorem Best.end {cs : List Oc} (hs : cs.Pairwise (fun a b => a.s < b.s)) {left : Lit → Bool} {s lo : Nat} {fb : Bool} (h : Best (cs.map (·.s)) left s lo fb) (hl : ∀ kl, left kl = false) : nextR cs s = (lo, fb) := by
  rcases h with ⟨rfl, rfl, h3⟩ | ⟨rfl, h2, h3, h4⟩
  · exact nextR_none (fun o ho => h3 o.s (List.mem_map.2 ⟨o, ho, rfl⟩) (hl _))
  · obtain ⟨o, ho, rfl⟩ := List.mem_map.1 h2
    exact nextR_some hs ho h3 (fun p hp hp' => h4 p.s (List.mem_map.2 ⟨p, hp, rfl⟩) (hl _) hp')

section
variable {w : World} {hb ab mb : Nat} {h : HSt} {L : List Pl}
set_option maxRecDepth 20000 in
set_option maxHeartbeats 1000000 in
theorem hnext_any (x : HX w hb ab mb h L) (s : Nat) :
    Calls Tryd.prog 23 #[.pointer (some ⟨hb, 0, none⟩), .int .u64 (s : Int)] w fun e w' => e = .returned (.tuple #[.int .u64 ((nextR h.cs s).1 : Int), .bool (nextR h.cs s).2]) ∧ Below w.heap.size w w' := by
  have c4 := x.c4
  obtain ⟨D, hD, hsz, hat⟩ := x.mp.ex
  have hkeys : (L.map Pl.e).map (·.1) = h.cs.map (·.s) := by
    rw [List.map_map, ← x.cs, List.map_map]
    rfl
  have HMem : Hid (∀ (k : Nat) (y : DataW Value), (∀ zd, D.atKey (kL k) zd = y) → k ∈ h.cs.map (·.s)) := fun k y hy => by
    have h1 := Maps.has_true_of_atKey hy
    rw [MP.has hat] at h1
    obtain ⟨v, hv⟩ := Option.isSome_iff_exists.1 h1
    rw [← hkeys]
    exact List.mem_map.2 ⟨_, lookE_mem hv, rfl⟩
  have HHas : Hid (∀ k ∈ h.cs.map (·.s), Maps.has D (kL k) = true) := fun k hk => by
    rw [MP.has hat]
    cases hl : lookE (L.map Pl.e) k with
    | some v => rfl
    | none =>
      rw [← hkeys] at hk
      obtain ⟨p, hp, e⟩ := List.mem_map.1 hk
      exact absurd e (lookE_none hl p hp)
  have HEnd : Hid (∀ left lo fb, Best (h.cs.map (·.s)) left s lo fb → (∀ kl, left kl = false) → nextR h.cs s = (lo, fb)) := fun left lo fb hb hl => hb.end x.ok.srt hl
  generalize (L.map Pl.e).length = n at *
  generalize h.cs.map (·.s) = ks at *
  clear hkeys hat hsz
  have hbm := x.mp.lt
  go_enter Tryd.func23, Tryd.ntmps23
  go_wp2_with (first
    | (at_range; refine wpList_range_own _ rfl _ 117 rfl 39 66 lawU Tryd.underlying117 _ mb n D rfl hD ?_; intro w0 hrg0 hg0 hs0)
    | go_in)
  go_frame
  go_loopw [6, 7] (fun l f wr => ∃ (left : Lit → Bool) (cnt lo : Nat) (fb : Bool), l = .int .u64 (lo : Int) ∧ f = .bool fb ∧ wr.ranges Tryd.prog 39 heldR mb w.heap.size n D left cnt ∧ Best ks left s lo fb ∧ Below w.heap.size w wr)
    (fun _ _ wr => wr.rangeLeft mb w.heap.size)
  case atStart => exact ⟨_, _, 0, false, rfl, rfl, hrg0, Or.inl ⟨rfl, rfl, fun k hk hl => by rw [HHas.out k hk] at hl; cases hl⟩, ⟨hg0.os, hg0.tape, hg0.output, hg0.size, fun k hk => hg0.block k hk (by simp)⟩⟩
  case round =>
    obtain ⟨left, cnt, lo, fb, rfl, rfl, hrg, hbest, hbl⟩ := hrel
    clear hrg0 hg0 hs0
    go_wp2_with (first
      | (at_next; refine wpList_next_ranges _ rfl _ rfl 39 lawU heldR (fun z : Int => Value.int .u64 z) (fun z : Value => z) (fun key kl hk => by obtain ⟨z, rfl, _⟩ := Maps.keyOf_int_inv Tryd.underlying39 hk; exact ⟨z, rfl⟩) (fun v y _ => ⟨v, rfl⟩) mb w.heap.size n D left cnt rfl hrg ?_ ?_)
      | go_in)
    · intro _ hl0
      have HE : Hid _ := hidden (HEnd.out left lo fb hbest hl0)
      go_wp2
      go_ret2
      rw [HE.out]
      exact ⟨rfl, hbl⟩
    · intro z c kl yd yp w1 cnt1 hkey hlk hv hat hrg1 hlt hg1 hs1 hen
      obtain ⟨z', ez, rfl, hwz⟩ := Maps.keyOf_int_inv Tryd.underlying39 hkey
      simp only [Value.int.injEq, true_and] at ez
      subst ez
      obtain ⟨k, rfl, hk64⟩ := wf_nat (K := .u64) rfl hwz
      have hm := HMem.out k _ hat
      have hbl1 : Below w.heap.size w w1 := hbl.trans ⟨hg1.os, hg1.tape, hg1.output, hg1.size, fun j hj => hg1.block j (Nat.lt_of_lt_of_le hj hbl.size) (by simp; omega)⟩
      have HSk : Hid (k ≤ s ∨ (fb = true ∧ lo ≤ k) → Best ks (fun z => left z && !z.sameKey (kL k)) s lo fb) := fun e => hbest.skip e
      have HTk : Hid (s < k → (fb = false ∨ k < lo) → Best ks (fun z => left z && !z.sameKey (kL k)) s k true) := fun e1 e2 => hbest.take hm e1 e2
      have HR1 : Hid _ := hidden hrg1
      have HME : Hid (w1.rangeLeft mb w.heap.size < wr.rangeLeft mb w.heap.size) := by
        have e : w1.rangeLeft mb w.heap.size < wr.rangeLeft mb w.heap.size := by rw [hrg1.left_eq, hrg.left_eq]; exact hlt
        exact e
      clear hbest hrg1 hrg hlt hg1 hs1 hat hv hlk hkey hwz hm hbl HMem HEnd HHas
      by_cases h1 : (s : Int) < (k : Int)
      · cases fb with
        | false =>
          go_wp2
          go_roundw
          case rel => exact ⟨_, cnt1, k, true, rfl, rfl, HR1.out, HTk.out (by omega) (Or.inl rfl), hbl1⟩
          case measure => exact HME.out
        | true =>
          by_cases h2 : (k : Int) < (lo : Int)
          · go_wp2
            go_roundw
            case rel => exact ⟨_, cnt1, k, true, rfl, rfl, HR1.out, HTk.out (by omega) (Or.inr (by omega)), hbl1⟩
            case measure => exact HME.out
          · go_wp2
            go_roundw
            case rel => exact ⟨_, cnt1, lo, true, rfl, rfl, HR1.out, HSk.out (Or.inr ⟨rfl, by omega⟩), hbl1⟩
            case measure => exact HME.out
      · go_wp2
        go_roundw
        case rel => exact ⟨_, cnt1, lo, fb, rfl, rfl, HR1.out, HSk.out (Or.inl (by omega)), hbl1⟩
        case measure => exact HME.out
end

end Go.Proofs.YtdafpfdmnccelaaDoor

namespace Go.Proofs.YtdafpfdmnccelaaDoor
open Go.ChangeShapes Go.WideShapes Go.ChangeAt Go.RowKit Go.Deep

section
variable {w : World} {hb : Nat} {h : HSt} {F : Nat → Prop}
theorem HP.next (x : HP w hb F h) (s : Nat) :
    Calls Tryd.prog 23 #[.pointer (some ⟨hb, 0, none⟩), .int .u64 (s : Int)] w fun e w' => e = .returned (.tuple #[.int .u64 ((nextR h.cs s).1 : Int), .bool (nextR h.cs s).2]) ∧ Below w.heap.size w w' := by
  obtain ⟨ab, mb, L, hx, hF⟩ := x.ex
  exact hnext_any hx s
theorem HP.objNo (x : HP w hb F h) (s : Nat) (hs : s < 18446744073709551616) (hg : getC h.cs s = none) :
    Calls Tryd.prog 24 #[.pointer (some ⟨hb, 0, none⟩), .int .u64 (s : Int)] w fun e w' => e = .returned (.tuple #[zO, .bool false]) ∧ Below w.heap.size w w' := by
  obtain ⟨ab, mb, L, hx, hF⟩ := x.ex
  exact hobj_no hx s hs hg
theorem HP.objOk (x : HP w hb F h) (s : Nat) (hs : s < 18446744073709551616) (o : Oc) (hg : getC h.cs s = some o) :
    Calls Tryd.prog 24 #[.pointer (some ⟨hb, 0, none⟩), .int .u64 (s : Int)] w fun e w' => ∃ g1 g2, e = .returned (.tuple #[Pl.v ⟨o, 0, g1, g2⟩, .bool true]) ∧ Row w' g1 51 (idsV o.rf) ∧ Row w' g2 39 (o.vl.map uV) ∧ w.heap.size ≤ g1 ∧ g1 < g2 ∧ Below w.heap.size w w' := by
  obtain ⟨ab, mb, L, hx, hF⟩ := x.ex
  exact hobj_ok hx s hs o hg
end
section
variable {w0 w w' : World} {B hb : Nat} {h h' : HSt} {X : Nat → Prop}
theorem HH.next (x : HH w0 B w hb h X) (s : Nat) :
    Calls Tryd.prog 23 #[.pointer (some ⟨hb, 0, none⟩), .int .u64 (s : Int)] w fun e w' => e = .returned (.tuple #[.int .u64 ((nextR h.cs s).1 : Int), .bool (nextR h.cs s).2]) ∧ HH w0 B w' hb h X ∧ Below w.heap.size w w' := by
  obtain ⟨F, hp, _⟩ := x.ex
  exact (hp.next s).mono (fun _ _ ⟨h1, h2⟩ => ⟨h1, x.read h2, h2⟩)
theorem HH.objOk (x : HH w0 B w hb h X) (s : Nat) (hs : s < 18446744073709551616) (o : Oc) (hg : getC h.cs s = some o) :
    Calls Tryd.prog 24 #[.pointer (some ⟨hb, 0, none⟩), .int .u64 (s : Int)] w fun e w' => ∃ g1 g2, e = .returned (.tuple #[Pl.v ⟨o, 0, g1, g2⟩, .bool true]) ∧ Row w' g1 51 (idsV o.rf) ∧ Row w' g2 39 (o.vl.map uV) ∧ w.heap.size ≤ g1 ∧ g1 < g2 ∧ Below w.heap.size w w' := by
  obtain ⟨F, hp, _⟩ := x.ex
  exact hp.objOk s hs o hg
end
theorem makeR_bad {h : HSt} {r v : Int} (hE : ¬ (h.makeR r v).2 = 0) : (h.makeR r v).1 = 0 := by
  unfold HSt.makeR at hE ⊢
  by_cases h1 : 0 ≤ r ∧ r ≤ 7 ∧ 0 ≤ v ∧ v ≤ 7
  · rw [if_pos h1] at hE ⊢
    by_cases h2 : h.most ≤ h.cs.length
    · rw [if_pos h2]
    rw [if_neg h2] at hE ⊢
    by_cases h3 : 72057594037927935 ≤ h.last
    · rw [if_pos h3]
    rw [if_neg h3] at hE ⊢
    by_cases h4 : (allocR h.bs (1 + r + v)).2 = 0
    · rw [if_pos h4] at hE
      exact absurd rfl hE
    · rw [if_neg h4]
  · rw [if_neg h1]
theorem nextR_get {cs : List Oc} {s : Nat} (h : (nextR cs s).2 = true) : (getC cs (nextR cs s).1).isSome = true := by
  unfold nextR at h ⊢
  cases hf : cs.find? (fun o => decide (s < o.s)) with
  | none => rw [hf] at h; cases h
  | some o =>
    have hm := List.mem_of_find?_eq_some hf
    simp only
    cases hg : getC cs o.s with
    | some p => rfl
    | none => exact absurd rfl (getC_none hg o hm)
theorem nextR_le {h : HSt} (H : h.Ok) (s : Nat) : (nextR h.cs s).1 ≤ 72057594037927935 := by
  unfold nextR
  cases hf : h.cs.find? (fun o => decide (s < o.s)) with
  | none => simp
  | some o =>
    have := H.le o (List.mem_of_find?_eq_some hf)
    have := H.last
    simp only
    omega

/-- A step. -/
structure StepH where
  what : Int
  a : Int
  b : Int
  ser : Nat
  v : Nat
  xn : Int
  xs : Nat
  near : Bool
def cStepH (s : StepH) : List Value := [.int .i64 s.what, .int .i64 s.a, .int .i64 s.b, .int .u64 (s.ser : Int), .int .u64 (s.v : Int), .int .i64 s.xn, .int .u64 (s.xs : Int), .bool s.near]
def StepH.Ok (s : StepH) : Prop := s.ser < 18446744073709551616 ∧ s.v < 18446744073709551616 ∧ s.xs < 18446744073709551616
theorem list8 {α : Type} {l : List α} (h : l.length = 8) : ∃ a b c d e f g i, l = [a, b, c, d, e, f, g, i] := by
  match l, h with
  | [a, b, c, d, e, f, g, i], _ => exact ⟨a, b, c, d, e, f, g, i, rfl⟩
theorem list2 {α : Type} {l : List α} (h : l.length = 2) : ∃ a b, l = [a, b] := by
  match l, h with
  | [a, b], _ => exact ⟨a, b, rfl⟩
theorem trod_u64 {H : Type} {enc : TypeId × Value → H} {W : World} {n : Nat} {u : List Value} {y : DataW H × List MemPlace} (h : DataW.trod enc Tryd.prog W 0 (fun _ => true) true n 39 u = some y) : ∃ x : Nat, u = [.int .u64 (x : Int)] ∧ x < 18446744073709551616 := by
  obtain ⟨x, h1, h2⟩ := trod_nat (K := .u64) rfl Tryd.underlying39 h
  have hm : IntKind.u64.max = 18446744073709551615 := rfl
  exact ⟨x, h1, by omega⟩
theorem WS.stepH {w : World} {ao : Option Addr} {n cap : Nat} {xs : List StepH} (h : WS w (.slice ao n cap) 8 cStepH xs) (i : Nat) (hi : i < xs.length) : ∃ b off, ao = some ⟨b, off, none⟩ ∧ b < w.heap.size ∧
    w.cell? ⟨b, off + i * 8, none⟩ = some (.int .i64 xs[i].what) ∧ w.cell? ⟨b, off + i * 8 + 1, none⟩ = some (.int .i64 xs[i].a) ∧ w.cell? ⟨b, off + i * 8 + 2, none⟩ = some (.int .i64 xs[i].b) ∧ w.cell? ⟨b, off + i * 8 + 3, none⟩ = some (.int .u64 (xs[i].ser : Int)) ∧
    w.cell? ⟨b, off + i * 8 + 4, none⟩ = some (.int .u64 (xs[i].v : Int)) ∧ w.cell? ⟨b, off + i * 8 + 5, none⟩ = some (.int .i64 xs[i].xn) ∧ w.cell? ⟨b, off + i * 8 + 6, none⟩ = some (.int .u64 (xs[i].xs : Int)) ∧ w.cell? ⟨b, off + i * 8 + 7, none⟩ = some (.bool xs[i].near) := by
  obtain ⟨b, off, h1, h2, h3⟩ := h.at i hi
  exact ⟨b, off, h1, h2, h3 0 _ rfl, h3 1 _ rfl, h3 2 _ rfl, h3 3 _ rfl, h3 4 _ rfl, h3 5 _ rfl, h3 6 _ rfl, h3 7 _ rfl⟩

end Go.Proofs.YtdafpfdmnccelaaDoor
