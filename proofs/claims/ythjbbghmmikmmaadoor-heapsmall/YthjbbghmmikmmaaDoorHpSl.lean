/- HeapSmall, walked. -/
import Derived.Test.YthjbbghmmikmmaaDoorHpPl
namespace Go.Proofs.YthjbbghmmikmmaaDoor
open Go.RowKit

/-- 'append(v, u...)' onto a row that is its owner's; of the sizes alone the bytes are bound. -/
theorem wpList_append_big {P : Program} {w : World} {ops : Array Oper} {rest : List Oper} {o : Oper} {a : Act} {Q : Exit → Act → World → Prop} (hgd : o.guard = none) (s x : Operand) (t : TypeId)
    (ho : o.op = .call { callee := .builtin .append, args := #[s, x], argTypes := #[t, t] })
    (e : TypeId) (i : TypeInfo) (z : Value) (c bytes : Nat) (ht : P.underlying t = some (.slice e)) (hi : P.info? e = some i) (hz : i.zero = some z)
    (hsize : i.size = c) (hby : i.bytes = bytes) (hzs : z.cells.size = c) (hc0 : 0 < c) (base : Nat) (v : Value) (n : Nat) (xs : List Value) (hs : a.eval s = v) (hown : w.ownsRow base e c v n xs)
    (u : Value) (m : Nat) (news : List Value) (hx : a.eval x = u) (hr : Sr w u c m news) (hml : n + m ≤ 140737488355328) (hbb : (n + m) * bytes ≤ 140737488355328) (hbase : base ≤ w.heap.size)
    (h : ∀ v' w', w'.ownsRow base e c v' (n + m) (xs ++ news) → Kept w w' (fun k => v.ownBlock = some k) → wpList P ops Q rest (a.put o.dst v') w') :
    wpList P ops Q (o :: rest) a w := by
  refine wpList_plain hgd fun K hK => ?_
  obtain ⟨v', w', h1, h2, h3⟩ : ∃ v' w', (Builtin.append_ #[t, t] o.type #[v, u]).run P w = .ok v' w' ∧ w'.ownsRow base e c v' (n + m) (xs ++ news) ∧ Kept w w' (fun k => v.ownBlock = some k) := by
    rcases hr.val with ⟨rfl, rfl⟩ | ⟨ad, k, rfl, hc⟩
    · have hx : news = [] := List.eq_nil_of_length_eq_zero (by simpa using hr.len)
      subst hx
      exact ⟨v, w, run_append_owned_none (P := P) (w := w) base t o.type e i c ht hi v n xs hown, by simpa using hown, Kept.refl _ _⟩
    · obtain ⟨v', w', h1, h2, h3, h4, h5⟩ := run_append_own_at (P := P) w base t o.type e i z c bytes ht hi hz hsize hby hzs hc0 v n xs hown ad m k news hr.len hc hr.one (by unfold maxLen; omega) hbb hbase
      exact ⟨v', w', h1, h2, Kept.grown h3⟩
  unfold Oper.wp execOp
  simp only [ho, resolve, invoke, builtin, Sem.run_bind, Sem.run_pure, Result.andThen_ok, List.map_toArray, List.map_cons, List.map_nil, hs, hx, h1]
  exact hK _ _ (h v' w' h2 h3)

theorem flat8_len (l : List StepH) : (l.flatMap cStepH).length = l.length * 8 := by
  induction l with
  | nil => rfl
  | cons x l ih =>
    rw [List.flatMap_cons, List.length_append, ih, List.length_cons]
    show 8 + l.length * 8 = _
    omega
theorem flat8_at : ∀ (l : List StepH) (i r : Nat) (hi : i < l.length) (_ : r < 8), (l.flatMap cStepH)[i * 8 + r]? = (cStepH l[i])[r]?
  | x :: l, 0, r, _, hr => by
    rw [List.flatMap_cons, List.getElem?_append_left (by show 0 * 8 + r < 8; omega)]
    simp
  | x :: l, i + 1, r, hi, hr => by
    rw [List.flatMap_cons, List.getElem?_append_right (by show 8 ≤ (i + 1) * 8 + r; omega)]
    have := flat8_at l i r (by simpa using hi) hr
    have e : (i + 1) * 8 + r - (cStepH x).length = i * 8 + r := by show (i + 1) * 8 + r - 8 = _; omega
    rw [e, this]
    rfl
def StepH.on (s : StepH) : StepH := { s with near := true }
theorem flat8_set : ∀ (l : List StepH) (k : Nat) (hk : k < l.length), (l.flatMap cStepH).set (k * 8 + 7) (.bool true) = (l.set k l[k].on).flatMap cStepH
  | x :: l, 0, _ => by
    rw [List.flatMap_cons, List.set_append_left _ _ (by show 0 * 8 + 7 < 8; omega)]
    rfl
  | x :: l, k + 1, hk => by
    rw [List.flatMap_cons, List.set_append_right _ _ (by show 8 ≤ (k + 1) * 8 + 7; omega)]
    have e : (k + 1) * 8 + 7 - (cStepH x).length = k * 8 + 7 := by show (k + 1) * 8 + 7 - 8 = _; omega
    rw [e, flat8_set l k (by simpa using hk)]
    rfl
theorem one8 (l : List StepH) : ∀ u ∈ l.flatMap cStepH, u.oneCell' = true := by
  intro u hu
  obtain ⟨s, _, hs⟩ := List.mem_flatMap.1 hu
  simp only [cStepH, List.mem_cons, List.not_mem_nil, or_false] at hs
  rcases hs with rfl | rfl | rfl | rfl | rfl | rfl | rfl | rfl <;> rfl
theorem WS.sr8 {w : World} {v : Value} {xs : List StepH} (h : WS w v 8 cStepH xs) : Sr w v 8 xs.length (xs.flatMap cStepH) := by
  obtain ⟨ao, cap, rfl, h1, h2, h3⟩ := h.ex
  refine ⟨flat8_len xs, ?_, one8 xs⟩
  cases ao with
  | none =>
    have hc := h2 rfl
    have hx : xs.length = 0 := by omega
    rw [hc, hx]
    exact Or.inl ⟨rfl, rfl⟩
  | some ad =>
    refine Or.inr ⟨ad, cap, rfl, fun j u hu => ?_⟩
    have hj := (List.getElem?_eq_some_iff.1 hu).1
    rw [flat8_len] at hj
    obtain ⟨b, off, e, _, hc⟩ := h3 (fun e => by subst e; simp at hj)
    cases e
    have hi : j / 8 < xs.length := by omega
    have hm : j / 8 * 8 + j % 8 = j := by omega
    have := flat8_at xs (j / 8) (j % 8) hi (by omega)
    rw [hm, hu] at this
    rw [Addr.add_at]
    have := hc (j / 8) hi (j % 8) u this.symm
    rwa [Nat.add_assoc, hm] at this

/-- The copy, while it is written. -/
structure OS (B : Nat) (w : World) (ao : Option Addr) (n cap : Nat) (ys : List StepH) : Prop where
  len : ys.length = n
  room : n ≤ cap
  nul : ao = none → cap = 0
  row : 0 < n → ∃ g cl, ao = some ⟨g, 0, none⟩ ∧ B ≤ g ∧ Row w g 41 cl ∧ cl.take (n * 8) = ys.flatMap cStepH
  ok : ∀ y ∈ ys, y.Ok
theorem take_at {cl : List Value} {n : Nat} {ys : List StepH} (hlen : ys.length = n) (ht : cl.take (n * 8) = ys.flatMap cStepH) (i j : Nat) (hi : i < ys.length) {u : Value} (hu : (cStepH ys[i])[j]? = some u) : cl[i * 8 + j]? = some u := by
  have hj : j < 8 := (List.getElem?_eq_some_iff.1 hu).1
  have h1 := flat8_at ys i j hi hj
  rw [← ht, List.getElem?_take_of_lt (by omega), hu] at h1
  exact h1
theorem OS.ws {B : Nat} {w : World} {ao : Option Addr} {n cap : Nat} {ys : List StepH} (h : OS B w ao n cap ys) : WS w (.slice ao n cap) 8 cStepH ys := by
  refine ⟨ao, cap, by rw [h.len], by rw [h.len]; exact h.room, h.nul, fun hne => ?_⟩
  have hn : 0 < n := by
    have : ys.length ≠ 0 := fun e => hne (List.eq_nil_of_length_eq_zero e)
    have := h.len
    omega
  obtain ⟨g, cl, e, _, hr, ht⟩ := h.row hn
  exact ⟨g, 0, e, hr.lt, fun i hi j u hu => by
    rw [Nat.zero_add]
    exact hr.at _ _ (take_at h.len ht i j hi hu)⟩
theorem OS.set {B : Nat} {w : World} {g n cap : Nat} {ys : List StepH} (h : OS B w (some ⟨g, 0, none⟩) n cap ys) (k : Nat) (hk : k < n) : ∃ ys', OS B (w.setCell ⟨g, k * 8 + 7, none⟩ (.bool true)) (some ⟨g, 0, none⟩) n cap ys' ∧ B ≤ g := by
  obtain ⟨g', cl, e, hB, hr, ht⟩ := h.row (by omega)
  cases e
  have hl := h.len
  refine ⟨ys.set k (ys[k]'(by omega)).on, ⟨by rw [List.length_set]; exact h.len, h.room, h.nul, fun _ => ⟨g, _, rfl, hB, hr.set _ _, ?_⟩, fun y hy => ?_⟩, hB⟩
  · rw [List.take_set, ht, flat8_set ys k (by omega)]
  · rcases List.mem_or_eq_of_mem_set hy with h1 | h1
    · exact h.ok y h1
    · rw [h1]
      exact h.ok (ys[k]'(by omega)) (List.getElem_mem _)
theorem OS.start {B : Nat} {w : World} {v : Value} {xs : List StepH} (h : w.ownsRow B 41 8 v xs.length (xs.flatMap cStepH)) (hR : ∀ x ∈ xs, x.Ok) : ∃ ao cap, v = .slice ao xs.length cap ∧ OS B w ao xs.length cap xs := by
  obtain ⟨_, ⟨e, h0⟩ | ⟨g, cap, cur, e, hb, hg, hn, hm, hs, ht⟩⟩ := h
  · exact ⟨none, 0, by rw [e, h0], rfl, by omega, fun _ => rfl, fun h => by omega, hR⟩
  · refine ⟨_, _, e, rfl, hn, fun h => (by cases h), fun _ => ⟨g, cur.toList, rfl, hb, ?_, ht⟩, hR⟩
    unfold Row
    rw [hg]

set_option maxRecDepth 20000 in
set_option maxHeartbeats 4000000 in
theorem heapSmall_any (bl ob : Int) (xs : List StepH) (v : Value) (w : World) (hT : TB w) (hv : WS w v 8 cStepH xs) (hR : ∀ x ∈ xs, x.Ok) (hreach : xs.length * 64 ≤ 140737488351232) :
    Calls Tryd.prog 5 #[.int .i64 bl, .int .i64 ob, v] w fun e w' => e = .returned (.bool true) ∧ Below w.heap.size w w' := by
  have hA : ∀ o, Below w.heap.size w (w.alloc o) := fun o => (Below.refl _ _).alloc (Nat.le_refl _) o
  have hsr := fun o => (hv.below (hA o)).sr8
  obtain ⟨ao, cap, rfl, _, _⟩ := hv.slice
  obtain ⟨i, hi, hz0, hz1, hz2⟩ := info_parts (show (Tryd.prog.info? 41).map (fun i => (i.zero, i.size, i.bytes)) = some (some (.agg #[.int .i64 0, .int .i64 0, .int .i64 0, .int .u64 0, .int .u64 0, .int .i64 0, .int .u64 0, .bool false]), 8, 64) by kernel_rfl)
  have hE1 : (w.alloc (.cells #[] 41)).heap[w.heap.size]? = some (.cells #[] 41 (0, 0)) := heap_alloc_new w _
  have hx63 : (xs.length : Int) ≤ 140737488351232 := by omega
  clear hv
  go_enter Tryd.func5, Tryd.ntmps5
  go_wp2_with (at_builtin; refine wpList_append_big rfl (.tmp 9) (.tmp 10) 36 rfl 41 i _ 8 64 Tryd.underlying36 hi hz0 hz1 hz2 rfl (by omega) w.heap.size (.slice (some ⟨w.heap.size, 0, none⟩) 0 0) 0 [] rfl (own_nil hE1 (Nat.le_refl _)) _ xs.length _ rfl (hsr _) (by omega) (by omega) (by simp) ?_; intro v8 w8 ho8 hk8)
  rw [Nat.zero_add, List.nil_append] at ho8
  obtain ⟨ao8, cap8, hv8, os8⟩ := OS.start ho8 hR
  subst hv8
  have b8 : Below w.heap.size w w8 := (hA _).trans (hk8.below (by simp) (fun j hj e => by simp only [Value.ownBlock, Option.some.injEq] at e; omega))
  clear ho8 hk8 hsr hE1 hi hz0 hz1 hz2 hR
  generalize xs.length = n at *
  generalize hG : w.heap.size = g0 at *
  have hc8 := os8.room
  go_wp2
  go_loopw [8] (fun i wr => ∃ (k : Nat) (ys : List StepH), k ≤ n ∧ i = .int .i64 (k : Int) ∧ OS g0 wr ao8 n cap8 ys ∧ Below g0 w wr) (fun i _ => n - (intOf i).toNat)
  case atStart => exact ⟨0, xs, Nat.zero_le _, rfl, os8, b8⟩
  case round =>
    clear os8 b8
    obtain ⟨k, ys, hk, rfl, os, hbr⟩ := hrel
    have hzr : g0 ≤ wr.heap.size := by rw [← hG]; exact hbr.size
    by_cases hlt : k < n
    · have hki : (k : Int) < (n : Int) := by omega
      obtain ⟨g, cl, hao, hBg, hr, ht⟩ := os.row (by omega)
      subst hao
      obtain ⟨ys', os', _⟩ := os.set k hlt
      have hc := hr.at _ _ (take_at os.len ht k 7 (by have := os.len; omega) (show (cStepH _)[7]? = some _ from rfl))
      have hf := hr.frozen (k * 8 + 7)
      have HO : Hid _ := hidden os'
      have HB : Hid (Below g0 w (wr.setCell ⟨g, k * 8 + 7, none⟩ (.bool true))) := hbr.trans ((Kept.setCell wr ⟨g, k * 8 + 7, none⟩ (.bool true)).below hzr (fun i hi e => by have e' : i = g := e; omega))
      generalize (ys[k]'(by have := os.len; omega)).near = nr at *
      clear os os' hr ht hT
      go_wp2
      go_roundw
      case rel => exact ⟨k + 1, ys', by omega, by go_num, HO.out, HB.out⟩
      case measure => simp [intOf]; omega
    · have hki : ¬ (k : Int) < (n : Int) := by omega
      have hTr : TB wr := hT.below (by rw [hG]; exact hbr)
      have hws := os.ws
      have hok := os.ok
      have hp6 := pickN_lt bl 6 (by omega)
      have hq12 := pickN_lt ob 12 (by omega)
      have hP : Calls Tryd.prog 4 #[.int .i64 1, .int .i64 (16 * (1 + (pickN bl 6 : Int))), .int .i64 (1 + (pickN ob 12 : Int)), .int .u64 0, .slice ao8 n cap8] wr fun e w' => e = .returned (.bool true) ∧ Below wr.heap.size wr w' := heapPlays_any 1 _ _ 0 ys _ wr hTr hws hok
      clear os hws hok hTr hT
      go_wp2_with fail
      refine (pick_any bl 6 (by omega) (by omega) _).mono ?_
      rintro e _ ⟨rfl, rfl⟩
      go_wp2_with fail
      refine (pick_any ob 12 (by omega) (by omega) _).mono ?_
      rintro e _ ⟨rfl, rfl⟩
      generalize pickN bl 6 = p at *
      generalize pickN ob 12 = q at *
      go_wp2_with (go_at_call 4; refine hP.mono ?_; rintro e w9 ⟨rfl, hb9⟩)
      go_ret
      exact ⟨rfl, by rw [hG]; exact hbr.trans (hb9.mono hzr)⟩

end Go.Proofs.YthjbbghmmikmmaaDoor
