import Derived.Test.YtcpegfjjdojinaaWMsg
import Derived.ProofKit
import Derived.SizedLaws
import Derived.Deep.SlicePairs
/- A message that came in: from its reading to what it holds. -/
/- The form's own reach, of a message. -/
namespace Go.Proofs.Ytcpegfjjdojinaa
open Go.ChangeShapes Go.WideShapes Go.ChangeAt Go.RowKit

theorem u64_in {n : Int} (h : (Lit.int .u64 n).wf = true) : ∃ k : Nat, n = (k : Int) ∧ U64 k := by
  have h1 : IntKind.u64.min = 0 := rfl
  have h2 : IntKind.u64.max = 18446744073709551615 := rfl
  simp only [Lit.wf, Bool.and_eq_true, decide_eq_true_eq] at h
  exact ⟨n.toNat, by omega, by unfold U64; omega⟩
theorem i64_in {n : Int} (h : (Lit.int .i64 n).wf = true) : I64 n := by
  have h1 : IntKind.i64.min = -9223372036854775808 := rfl
  have h2 : IntKind.i64.max = 9223372036854775807 := rfl
  simp only [Lit.wf, Bool.and_eq_true, decide_eq_true_eq] at h
  exact ⟨by omega, by omega⟩

theorem list_with {α : Type} {p : Nat → α → Prop} : ∀ n, (∀ i, i < n → ∃ x, p i x) → ∃ l : List α, l.length = n ∧ ∀ i (hi : i < l.length), p i l[i] := by
  intro n
  induction n with
  | zero => intro _; exact ⟨[], rfl, fun i hi => by simp at hi⟩
  | succ n ih =>
    intro h
    obtain ⟨l, hl, hp⟩ := ih (fun i hi => h i (by omega))
    obtain ⟨x, hx⟩ := h n (by omega)
    refine ⟨l ++ [x], by simp [hl], fun i hi => ?_⟩
    by_cases hil : i < l.length
    · rw [List.getElem_append_left hil]; exact hp i hil
    · have : i = l.length := by simp at hi; omega
      subst this
      simp only [List.getElem_append_right (Nat.le_refl _), Nat.sub_self, List.getElem_cons_zero]
      rw [hl]; exact hx

/-- What the reading of a slice says of how long it is. -/
def Long {H : Type} (d : DataW H) (n : Nat) : Prop := (d = .nil ∧ n = 0) ∨ ∃ elems spare, d = .slice elems spare ∧ elems.length = n

variable {H : Type} {enc : TypeId × Value → H} {W : World}

theorem open_us {v : Value} {fuel : Nat} {x : DataW H × List MemPlace} (h : DataW.trod enc Try.prog W 0 (fun _ => true) true fuel 26 [v] = some x) :
    ∃ (xs : List Nat) (ao : Option Addr) (cap : Nat), v = .slice ao xs.length cap ∧ Us W ao xs ∧ (ao = none → cap = 0) ∧ (∀ y ∈ xs, U64 y) ∧ Long x.1 xs.length := by
  rcases open_ints Try.underlying26 Try.underlying22 (by kernel_rfl) h with ⟨hcs, hx⟩ | ⟨a, len, cap, zs, hcs, _, hl, hm, hz, hx, hcell, hwz⟩
  · simp at hcs
    subst hcs hx
    exact ⟨[], none, 0, rfl, fun h => absurd rfl h, fun _ => rfl, (fun y hy => by simp at hy), Or.inl ⟨rfl, rfl⟩⟩
  · simp at hcs
    subst hcs hx
    simp only [if_true] at hz
    have hat : ∀ i, i < len → ∃ n : Nat, zs.getD i 0 = (n : Int) ∧ U64 n := by
      intro i hi
      have hzi : i < zs.length := by omega
      have := u64_in (hwz zs[i] (List.getElem_mem hzi))
      simpa [List.getD_eq_getElem?_getD, List.getElem?_eq_getElem hzi] using this
    obtain ⟨xs, hxl, hxs⟩ := list_with len hat
    refine ⟨xs, some a, cap, by rw [hxl], fun hne => ?_, (fun h => by cases h), ?_, Or.inr ⟨_, _, rfl, by simp [lits]; omega⟩⟩
    · have hpos : 0 < xs.length := List.length_pos_iff.2 hne
      obtain ⟨b, off, spot⟩ := a
      have h0 := hcell 0 (by omega)
      have hspot : spot = none := by simpa [Addr.add] using World.cell?_spot h0
      subst hspot
      rw [Addr.add_at] at h0
      refine ⟨b, off, rfl, World.block_lt_of_cell? W _ h0, fun i hi => ?_⟩
      have hc2 := hcell i (by omega)
      rw [Addr.add_at, (hxs i hi).1] at hc2
      exact hc2
    · intro y hy
      obtain ⟨i, hi, rfl⟩ := List.getElem_of_mem hy
      exact (hxs i hi).2

theorem open_ids {v : Value} {fuel : Nat} {x : DataW H × List MemPlace} (h : DataW.trod enc Try.prog W 0 (fun _ => true) true fuel 25 [v] = some x) :
    ∃ (xs : List (Int × Nat)) (ao : Option Addr) (cap : Nat), v = .slice ao xs.length cap ∧ IDs W ao xs ∧ (ao = none → cap = 0) ∧ (∀ y ∈ xs, I64 y.1 ∧ U64 y.2) ∧ Long x.1 xs.length := by
  rcases Go.Deep.open_slice_pairs Try.underlying25 Try.underlying24 (by kernel_rfl) rfl rfl (by kernel_rfl) (by kernel_rfl) h with ⟨hcs, hx⟩ | ⟨a, len, cap, m, n, V0, V1, D0, D1, P0, P1, hcs, _, hl, hm, hmm, hx, hel⟩
  · simp at hcs
    subst hcs hx
    exact ⟨[], none, 0, rfl, fun h => absurd rfl h, fun _ => rfl, (fun y hy => by simp at hy), Or.inl ⟨rfl, rfl⟩⟩
  · simp at hcs
    subst hcs hx
    simp only [if_true] at hmm
    have hat : ∀ i, i < len → ∃ y : Int × Nat, (I64 y.1 ∧ U64 y.2) ∧ W.cell? (a.add (i * 2)) = some (.int .i64 y.1) ∧ W.cell? (a.add (i * 2 + 1)) = some (.int .u64 (y.2 : Int)) := by
      intro i hi
      obtain ⟨h0, h1, h2, h3⟩ := hel i (by omega)
      obtain ⟨z0, e0, _, w0⟩ := DataW.trod_int Try.underlying3 h2
      obtain ⟨z1, e1, _, w1⟩ := DataW.trod_int Try.underlying22 h3
      simp only [List.cons.injEq, and_true] at e0 e1
      rw [e0] at h0
      rw [e1] at h1
      obtain ⟨k, rfl, hk⟩ := u64_in w1
      exact ⟨(z0, k), ⟨i64_in w0, hk⟩, h0, h1⟩
    obtain ⟨xs, hxl, hxs⟩ := list_with len hat
    refine ⟨xs, some a, cap, by rw [hxl], fun hne => ?_, (fun h => by cases h), ?_, Or.inr ⟨_, _, rfl, by simp [hxl]⟩⟩
    · have hpos : 0 < xs.length := List.length_pos_iff.2 hne
      obtain ⟨b, off, spot⟩ := a
      have h0 := (hxs 0 hpos).2.1
      have hspot : spot = none := by simpa [Addr.add] using World.cell?_spot h0
      subst hspot
      rw [Addr.add_at] at h0
      refine ⟨b, off, rfl, World.block_lt_of_cell? W _ h0, fun i hi => ?_⟩
      obtain ⟨_, h1, h2⟩ := hxs i hi
      rw [Addr.add_at] at h1 h2
      exact ⟨h1, by rw [Nat.add_assoc]; exact h2⟩
    · intro y hy
      obtain ⟨i, hi, rfl⟩ := List.getElem_of_mem hy
      exact (hxs i hi).1

theorem cells_int : Try.prog.cellsOf 3 = 1 := by kernel_rfl
theorem cells_u64 : Try.prog.cellsOf 22 = 1 := by kernel_rfl
theorem cells_id : Try.prog.cellsOf 24 = 2 := by kernel_rfl
theorem cells_ids : Try.prog.cellsOf 25 = 1 := by kernel_rfl
theorem cells_us : Try.prog.cellsOf 26 = 1 := by kernel_rfl
theorem cells_msg : Try.prog.cellsOf 28 = 19 := by kernel_rfl

theorem one_i64 {v : Value} {n : Nat} {x : DataW H × List MemPlace} (h : DataW.trod enc Try.prog W 0 (fun _ => true) true n 3 [v] = some x) : ∃ z, v = .int .i64 z ∧ I64 z := by
  obtain ⟨z, e, _, w⟩ := DataW.trod_int Try.underlying3 h
  simp only [List.cons.injEq, and_true] at e
  exact ⟨z, e, i64_in w⟩
theorem one_u64 {v : Value} {n : Nat} {x : DataW H × List MemPlace} (h : DataW.trod enc Try.prog W 0 (fun _ => true) true n 22 [v] = some x) : ∃ k : Nat, v = .int .u64 (k : Int) ∧ U64 k := by
  obtain ⟨z, e, _, w⟩ := DataW.trod_int Try.underlying22 h
  simp only [List.cons.injEq, and_true] at e
  obtain ⟨k, rfl, hk⟩ := u64_in w
  exact ⟨k, e, hk⟩

set_option maxHeartbeats 2000000 in
set_option maxRecDepth 20000 in
theorem open_msg {base : Nat} {v : Value} {d : DataW H} {p : List MemPlace} (hv : Value.okWide Try.prog W .any base 28 v) (h : DataW.Trod enc Try.prog W 0 (fun _ => true) true 28 v d p) :
    ∃ (m : Msg) (ro lo : Option Addr) (rc lc : Nat), v = m.v ro lo rc lc ∧ m.Ok ∧ IDs W ro m.refs ∧ (ro = none → rc = 0) ∧ Us W lo m.list ∧ (lo = none → lc = 0) ∧
      ∃ parts : List (DataW H), d = .agg parts ∧ (∃ d9, parts[9]? = some d9 ∧ Long d9 m.refs.length) ∧ (∃ d17, parts[17]? = some d17 ∧ Long d17 m.list.length) := by
  obtain ⟨cs, rfl, hsz⟩ := okWide_struct Try.underlying28 hv
  obtain ⟨fuel, hf0⟩ := h
  obtain ⟨xs, k, _, hxy, hlen, hxl, hf⟩ := DataW.trod_struct Try.underlying28 hf0
  rw [cells_msg] at hlen
  have hcl : cs.toList.length = 19 := hlen
  obtain ⟨cl, hcs⟩ : ∃ cl : List Value, cs = cl.toArray := ⟨cs.toList, by simp⟩
  subst hcs
  simp only [Value.cells] at hf hcl
  clear hlen hsz hf0 hv
  match cl, hcl, xs, hxl with
  | [v0, v1, v2, v3, v4, v5, v6, v7, v8, v9, v10, v11, v12, v13, v14, v15, v16, v17, v18], _, [y0, y1, y2, y3, y4, y5, y6, y7, y8, y9, y10, y11, y12, y13, y14, y15, y16, y17], _ =>
    have g0 : DataW.trod enc Try.prog W 0 (fun _ => true) true k 3 [v0] = some y0 := by have := hf 0 _ rfl; simpa [cells_int] using this
    have g1 : DataW.trod enc Try.prog W 0 (fun _ => true) true k 3 [v1] = some y1 := by have := hf 1 _ rfl; simpa [cells_int] using this
    have g2 : DataW.trod enc Try.prog W 0 (fun _ => true) true k 3 [v2] = some y2 := by have := hf 2 _ rfl; simpa [cells_int] using this
    have g3 : DataW.trod enc Try.prog W 0 (fun _ => true) true k 22 [v3] = some y3 := by have := hf 3 _ rfl; simpa [cells_u64] using this
    have g4 : DataW.trod enc Try.prog W 0 (fun _ => true) true k 22 [v4] = some y4 := by have := hf 4 _ rfl; simpa [cells_u64] using this
    have g5 : DataW.trod enc Try.prog W 0 (fun _ => true) true k 3 [v5] = some y5 := by have := hf 5 _ rfl; simpa [cells_int] using this
    have g6 : DataW.trod enc Try.prog W 0 (fun _ => true) true k 3 [v6] = some y6 := by have := hf 6 _ rfl; simpa [cells_int] using this
    have g7 : DataW.trod enc Try.prog W 0 (fun _ => true) true k 3 [v7] = some y7 := by have := hf 7 _ rfl; simpa [cells_int] using this
    have g8 : DataW.trod enc Try.prog W 0 (fun _ => true) true k 24 [v8, v9] = some y8 := by have := hf 8 _ rfl; simpa [cells_id] using this
    have g9 : DataW.trod enc Try.prog W 0 (fun _ => true) true k 25 [v10] = some y9 := by have := hf 9 _ rfl; simpa [cells_ids] using this
    have g10 : DataW.trod enc Try.prog W 0 (fun _ => true) true k 22 [v11] = some y10 := by have := hf 10 _ rfl; simpa [cells_u64] using this
    have g11 : DataW.trod enc Try.prog W 0 (fun _ => true) true k 3 [v12] = some y11 := by have := hf 11 _ rfl; simpa [cells_int] using this
    have g12 : DataW.trod enc Try.prog W 0 (fun _ => true) true k 22 [v13] = some y12 := by have := hf 12 _ rfl; simpa [cells_u64] using this
    have g13 : DataW.trod enc Try.prog W 0 (fun _ => true) true k 3 [v14] = some y13 := by have := hf 13 _ rfl; simpa [cells_int] using this
    have g14 : DataW.trod enc Try.prog W 0 (fun _ => true) true k 22 [v15] = some y14 := by have := hf 14 _ rfl; simpa [cells_u64] using this
    have g15 : DataW.trod enc Try.prog W 0 (fun _ => true) true k 3 [v16] = some y15 := by have := hf 15 _ rfl; simpa [cells_int] using this
    have g16 : DataW.trod enc Try.prog W 0 (fun _ => true) true k 22 [v17] = some y16 := by have := hf 16 _ rfl; simpa [cells_u64] using this
    have g17 : DataW.trod enc Try.prog W 0 (fun _ => true) true k 26 [v18] = some y17 := by have := hf 17 _ rfl; simpa [cells_us] using this
    clear hf
    obtain ⟨z0, rfl, w0⟩ := one_i64 g0
    obtain ⟨z1, rfl, w1⟩ := one_i64 g1
    obtain ⟨z2, rfl, w2⟩ := one_i64 g2
    obtain ⟨z3, rfl, w3⟩ := one_u64 g3
    obtain ⟨z4, rfl, w4⟩ := one_u64 g4
    obtain ⟨z5, rfl, w5⟩ := one_i64 g5
    obtain ⟨z6, rfl, w6⟩ := one_i64 g6
    obtain ⟨z7, rfl, w7⟩ := one_i64 g7
    obtain ⟨z10, rfl, w10⟩ := one_u64 g10
    obtain ⟨z11, rfl, w11⟩ := one_i64 g11
    obtain ⟨z12, rfl, w12⟩ := one_u64 g12
    obtain ⟨z13, rfl, w13⟩ := one_i64 g13
    obtain ⟨z14, rfl, w14⟩ := one_u64 g14
    obtain ⟨z15, rfl, w15⟩ := one_i64 g15
    obtain ⟨z16, rfl, w16⟩ := one_u64 g16
    obtain ⟨q0, q1, k8, _, _, r0, r1⟩ := trod_struct2 Try.underlying24 g8
    obtain ⟨zn, rfl, wn⟩ := one_i64 (v := v8) (x := q0) (n := k8) (by simpa [cells_int] using r0)
    obtain ⟨zs, rfl, ws⟩ := one_u64 (v := v9) (x := q1) (n := k8) (by simpa [cells_u64] using r1)
    obtain ⟨rs, ro, rc, rfl, hrs, hr0, hrk, hrL⟩ := open_ids g9
    obtain ⟨ls, lo, lc, rfl, hls, hl0, hlk, hlL⟩ := open_us g17
    refine ⟨{ kind := z0, frm := z1, to := z2, call := z3, floor := z4, op := z5, fld := z6, item := z7, tn := zn, ts := zs, refs := rs, val := z10, code := z11, seq := z12, vou := z13, at_ := z14, dist := z15, stamp := z16, list := ls }, ro, lo, rc, lc, rfl, ⟨w0, w1, w2, w3, w4, w5, w6, w7, wn, ws, hrk, w10, w11, w12, w13, w14, w15, w16, hlk⟩, hrs, hr0, hls, hl0, ?_⟩
    simp only [Prod.mk.injEq] at hxy
    exact ⟨_, hxy.1, ⟨y9.1, rfl, hrL⟩, ⟨y17.1, rfl, hlL⟩⟩

end Go.Proofs.Ytcpegfjjdojinaa

namespace Go.Proofs.Ytcpegfjjdojinaa
open Go.ChangeShapes Go.WideShapes Go.ChangeAt Go.RowKit

theorem bytes_id : Try.prog.bytesOf 24 = 16 := by kernel_rfl
theorem bytes_u64 : Try.prog.bytesOf 22 = 8 := by kernel_rfl

/-- The form's own reach, of a message's lists. -/
theorem msg_reach {H : Type} {ts : List TypeId} {ds : List (DataW H)} (h : (DataW.weightsEach Try.prog ts ds).all (· ≤ reachBytes) = true) {j : Nat} {parts : List (DataW H)} (ht : ts[j]? = some 28) (hd : ds[j]? = some (.agg parts)) {n9 n17 : Nat}
    (h9 : ∃ d9, parts[9]? = some d9 ∧ Long d9 n9) (h17 : ∃ d17, parts[17]? = some d17 ∧ Long d17 n17) : n9 ≤ 8796093022208 ∧ n17 ≤ 17592186044416 := by
  have hmem := DataW.weights_mem_each (P := Try.prog) ht hd
  simp only [DataW.weights, Try.underlying28] at hmem
  have hall := List.all_eq_true.2 fun n hn => (List.all_eq_true.1 h) n (hmem n hn)
  constructor
  · obtain ⟨d9, hp, ⟨_, rfl⟩ | ⟨elems, spare, rfl, he⟩⟩ := h9
    · omega
    · have := sized_slice hall (j := 9) (t := 25) rfl hp Try.underlying25
      rw [bytes_id] at this
      simp only [reachBytes] at this
      omega
  · obtain ⟨d17, hp, ⟨_, rfl⟩ | ⟨elems, spare, rfl, he⟩⟩ := h17
    · omega
    · have := sized_slice hall (j := 17) (t := 26) rfl hp Try.underlying26
      rw [bytes_u64] at this
      simp only [reachBytes] at this
      omega

end Go.Proofs.Ytcpegfjjdojinaa

