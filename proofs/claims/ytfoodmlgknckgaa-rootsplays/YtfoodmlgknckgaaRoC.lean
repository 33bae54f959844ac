/- Of, All, Count. -/
import Derived.Test.YtfoodmlgknckgaaRoB
namespace Go.Proofs.Ytfoodmlgknckgaa
open Go.RowKit

/-- A list of IDs of the call's own. -/
def OwI (w : World) (base : Nat) (v : Value) (l : List (Int × Nat)) : Prop := w.ownsRow base 30 2 v l.length (idsV l)
theorem OwI.nil (w : World) (base : Nat) : OwI w base (.slice none 0 0) [] := ⟨rfl, Or.inl ⟨rfl, rfl⟩⟩
theorem OwI.kept {w w' : World} {base : Nat} {v : Value} {l : List (Int × Nat)} {P : Nat → Prop} (h : OwI w base v l) (hk : Kept w w' P) (hs : ∀ k, v.ownBlock = some k → ¬ P k) : OwI w' base v l := own_kept h hk hs
theorem OwI.below {w w' : World} {base : Nat} {v : Value} {l : List (Int × Nat)} (h : OwI w base v l) (hb : Below w.heap.size w w') : OwI w' base v l := h.kept (kept_of_below hb (fun _ => False)) (fun _ _ => id)
theorem OwI.sr {w : World} {base : Nat} {v : Value} {l : List (Int × Nat)} (h : OwI w base v l) : Sr w v 2 l.length (idsV l) := own_sr h (idsV_one l)
theorem OwI.slice {w : World} {base : Nat} {v : Value} {l : List (Int × Nat)} (h : OwI w base v l) : ∃ ao cap, v = .slice ao l.length cap ∧ l.length ≤ cap ∧ cap ≤ maxLen ∧ (ao = none → cap = 0) := own_slice h
theorem OwI.ge {w : World} {base : Nat} {v : Value} {l : List (Int × Nat)} (h : OwI w base v l) : ∀ k, v.ownBlock = some k → base ≤ k ∧ k < w.heap.size := by
  intro k hk
  rcases h.2 with ⟨rfl, _⟩ | ⟨g, cap, cur, rfl, h2, h3, _⟩
  · cases hk
  · have e : g = k := by simpa [Value.ownBlock] using hk
    subst e
    exact ⟨h2, (Array.getElem?_eq_some_iff.1 h3).1⟩
theorem OwI.mono {w : World} {base base' : Nat} {v : Value} {l : List (Int × Nat)} (h : OwI w base v l) (hb : base' ≤ base) : OwI w base' v l := by
  refine ⟨h.1, ?_⟩
  rcases h.2 with h1 | ⟨g, cap, cur, rfl, h2, h3⟩
  · exact Or.inl h1
  · exact Or.inr ⟨g, cap, cur, rfl, Nat.le_trans hb h2, h3⟩
/-- One ID in a block, as append lays it. -/
theorem sr_id (w : World) (a : Int) (n : Nat) (T : TypeId) : Sr (w.alloc (.cells #[.int .i64 a, .int .u64 (n : Int)] T)) (.slice (some ⟨w.heap.size, 0, none⟩) 1 1) 2 [(a, n)].length (idsV [(a, n)]) := by
  have h := heap_alloc_new w (.cells #[.int .i64 a, .int .u64 (n : Int)] T)
  refine ⟨rfl, Or.inr ⟨⟨w.heap.size, 0, none⟩, 1, rfl, fun j u hu => ?_⟩, idsV_one _⟩
  rw [Addr.add_at, Nat.zero_add, cell_of_row _ _ _ _ _ _ h]
  have e : (idsV [(a, n)]) = [.int .i64 a, .int .u64 (n : Int)] := rfl
  rw [e] at hu
  simpa using hu
theorem sr_id2 (w : World) (o : Obj) (a : Int) (n : Nat) (T : TypeId) : Sr ((w.alloc o).alloc (.cells #[.int .i64 a, .int .u64 (n : Int)] T)) (.slice (some ⟨w.heap.size + 1, 0, none⟩) 1 1) 2 [(a, n)].length (idsV [(a, n)]) := by
  have h := sr_id (w.alloc o) a n T
  simpa using h
theorem wpList_owI {w : World} {ops : Array Oper} {rest : List Oper} {o : Oper} {a : Act} {Q : Exit → Act → World → Prop} (hgd : o.guard = none) (s x : Operand)
    (ho : o.op = .call { callee := .builtin .append, args := #[s, x], argTypes := #[31, 31] })
    (base : Nat) (v : Value) (l : List (Int × Nat)) (hs : a.eval s = v) (hown : OwI w base v l)
    (u : Value) (m : List (Int × Nat)) (hx : a.eval x = u) (hr : Sr w u 2 m.length (idsV m)) (h63 : l.length + m.length ≤ 1000000000) (hbase : base ≤ w.heap.size)
    (h : ∀ v' w', OwI w' base v' (l ++ m) → Kept w w' (fun k => v.ownBlock = some k) → Moved w v v' → wpList Try.prog ops Q rest (a.put o.dst v') w') :
    wpList Try.prog ops Q (o :: rest) a w := by
  obtain ⟨i, hi, hz0, hz1, hz2⟩ := info_parts Try.infoID
  refine wpList_append_sr hgd s x 31 ho 30 i _ 2 16 Try.underlying31 hi hz0 hz1 hz2 rfl (by omega) base v l.length (idsV l) hs hown u m.length (idsV m) hx hr h63 (by omega) hbase ?_
  intro v' w' h1 h2 h3
  exact h v' w' (by unfold OwI; rw [List.length_append, idsV_app]; exact h1) h2 h3

theorem keep_yes {r : Rw} {k : Nat} (h : k < r.length) (hn : noneI r[k] = false) : keepR (r.take (k + 1)) = keepR (r.take k) ++ [r[k]] := by
  unfold keepR
  rw [List.take_succ_eq_append_getElem h, List.filter_append]
  simp [hn]
theorem keep_no {r : Rw} {k : Nat} (h : k < r.length) (hn : noneI r[k] = true) : keepR (r.take (k + 1)) = keepR (r.take k) := by
  unfold keepR
  rw [List.take_succ_eq_append_getElem h, List.filter_append]
  simp [hn]
theorem keep_len (r : Rw) : (keepR r).length ≤ r.length := List.length_filter_le _ _

section
variable {w : World} {rb tb cap K : Nat} {gs : List Nat} {S : List Rw}
set_option maxRecDepth 20000 in
set_option maxHeartbeats 400000 in
theorem of_no (x : RX w rb tb cap gs K S) (m : Int) (h : m < 0 ∨ (S.length : Int) ≤ m) :
    Calls Try.prog 10 #[.pointer (some ⟨rb, 0, none⟩), .int .i64 m] w fun e w' => e = .returned (.slice none 0 0) ∧ w = w' := by
  have hR := row_no x m h
  clear x h
  go_enter Try.func10, Try.ntmps10
  go_wp2_with (go_at_call 24; refine hR.mono ?_; rintro e _ ⟨rfl, rfl⟩)
  go_loop [5, 12] (fun v i => v = .slice none 0 0 ∧ i = .int .i64 0) (fun _ _ => 0)
  case atStart => exact ⟨rfl, rfl⟩
  case round =>
    obtain ⟨rfl, rfl⟩ := hrel
    go_wp2
    go_ret
    exact ⟨rfl, rfl⟩
set_option maxRecDepth 20000 in
set_option maxHeartbeats 1000000 in
theorem of_ok (x : RX w rb tb cap gs K S) (m : Nat) (h : m < S.length) :
    Calls Try.prog 10 #[.pointer (some ⟨rb, 0, none⟩), .int .i64 (m : Int)] w fun e w' => ∃ v, e = .returned v ∧ OwI w' w.heap.size v (keepR S[m]) ∧ Below w.heap.size w w' := by
  obtain ⟨g, hg, c1, hr, hl⟩ := x.at m h
  have hR := row_ok x m g h hg
  have hf := x.few
  have hgl := hr.lt
  have hge := guardID
  have hee := eqID
  generalize S[m] = r at *
  clear x hg c1
  generalize hG : w.heap.size = B at *
  go_enter Try.func10, Try.ntmps10
  go_wp2_with (go_at_call 24; refine hR.mono ?_; rintro e _ ⟨rfl, rfl⟩)
  go_loopw [5, 12] (fun v i wr => ∃ k : Nat, k ≤ K ∧ i = .int .i64 (k : Int) ∧ OwI wr B v (keepR (r.take k)) ∧ Below B w wr) (fun _ i _ => K - (intOf i).toNat)
  case atStart => exact ⟨0, Nat.zero_le _, rfl, OwI.nil _ _, Below.refl _ _⟩
  case round =>
    obtain ⟨k, hk, rfl, ho, hb⟩ := hrel
    have hz : B ≤ wr.heap.size := by have := hb.size; omega
    have hlen := keep_len (r.take k)
    simp only [List.length_take] at hlen
    by_cases hlt : k < K
    · obtain ⟨e0, e1⟩ := idsV_at r k (by omega)
      have hrr : Row wr g 30 (idsV r) := hr.kept (Kept.mono (S := fun _ => False) ⟨hb.os, hb.tape, hb.output, by omega, fun q hq _ => hb.block q (by omega)⟩ (fun _ _ e => e)) id
      have d0 := hrr.at _ _ e0
      have d1 := hrr.at _ _ e1
      have ky := keep_yes (r := r) (k := k) (by omega)
      have kn := keep_no (r := r) (k := k) (by omega)
      have HK : Hid (k + 1 ≤ K) := hlt
      generalize hX : r[k] = y at *
      cases hn : noneI y with
      | true =>
        have HE : Hid _ := hidden (kn hn)
        have hq : (y.1 == 0 && ((y.2 : Int) == 0)) = true := hn
        have HO : Hid _ := hidden ho
        have HB : Hid _ := hidden hb
        clear ky kn hn hrr e0 e1 hX ho hb hR hr hlen
        go_wp2
        go_roundw
        case rel => exact ⟨k + 1, HK.out, by go_num, by rw [HE.out]; exact HO.out.below (bel_alloc _ _), HB.out.trans ((bel_alloc _ _).mono hz)⟩
        case measure => have := HK.out; simp [intOf]; omega
      | false =>
        have HE : Hid _ := hidden (ky hn)
        have hq : (y.1 == 0 && ((y.2 : Int) == 0)) = false := hn
        have HO : Hid _ := hidden ho
        have HB : Hid _ := hidden hb
        have HL : Hid _ := hidden hlen
        clear ky kn hn hrr e0 e1 hX ho hb hR hr hlen
        go_wp2_with (at_builtin; refine wpList_owI rfl (.tmp 19) (.tmp 21) rfl B _ (keepR (r.take k)) rfl ((HO.out.below (bel_alloc _ _)).below (bel_alloc _ _)) _ [(y.1, y.2)] rfl (sr_id2 _ _ y.1 y.2 _) (by have := HL.out; simp; omega) (by simp; omega) ?_; intro v5 w5 ho5 hk5 hm5)
        have HR : Hid _ := hidden (And.intro ho5 hk5)
        clear ho5 hk5 hm5
        go_roundw
        case rel =>
          obtain ⟨ho5, hk5⟩ := HR.out
          refine ⟨k + 1, HK.out, by go_num, by rw [HE.out]; exact ho5, ?_⟩
          have h2 := (bel_alloc wr (.cells #[.int .i64 y.1, .int .u64 (y.2 : Int)] 30)).trans ((bel_alloc (wr.alloc (.cells #[.int .i64 y.1, .int .u64 (y.2 : Int)] 30)) (.cells #[.int .i64 y.1, .int .u64 (y.2 : Int)] 30)).mono (by simp))
          exact (HB.out.trans (h2.mono hz)).trans (hk5.below (Nat.le_trans hz h2.size) (fun q hq e => by have := (HO.out.ge q e).1; omega))
        case measure => have := HK.out; simp [intOf]; omega
    · have hkK : k = K := by omega
      rw [List.take_of_length_le (by omega)] at ho
      go_wp2
      go_ret
      exact ⟨_, rfl, ho, hb⟩
theorem of_any (x : RX w rb tb cap gs K S) (m : Int) :
    Calls Try.prog 10 #[.pointer (some ⟨rb, 0, none⟩), .int .i64 m] w fun e w' => ∃ v, e = .returned v ∧ OwI w' w.heap.size v (ofR S m) ∧ Below w.heap.size w w' := by
  unfold ofR
  by_cases hm : m < 0 ∨ (S.length : Int) ≤ m
  · rw [rowR_no S m hm]
    refine (of_no x m hm).mono ?_
    rintro e w' ⟨rfl, rfl⟩
    exact ⟨_, rfl, OwI.nil _ _, Below.refl _ _⟩
  · obtain ⟨i, rfl⟩ : ∃ i : Nat, m = (i : Int) := ⟨m.toNat, by omega⟩
    have hi : i < S.length := by omega
    rw [rowR_nat S i hi]
    exact of_ok x i hi

theorem all_len (x : RX w rb tb cap gs K S) (k : Nat) : (allR (S.take k)).length ≤ 32 := by
  have h : ∀ (L : List Rw), (∀ r ∈ L, r.length ≤ 8) → (allR L).length ≤ L.length * 8 := by
    intro L
    induction L with
    | nil => intro _; simp [allR]
    | cons r L ih =>
      intro hL
      have h1 := ih (fun r hr => hL r (List.mem_cons_of_mem _ hr))
      have h2 := hL r List.mem_cons_self
      have h3 := keep_len r
      unfold allR at h1 ⊢
      rw [List.flatMap_cons, List.length_append, List.length_cons]
      omega
  have h1 := h (S.take k) (fun r hr => by have := x.wid r (List.mem_of_mem_take hr); have := x.few; omega)
  have h2 := x.few
  have h3 : (S.take k).length ≤ S.length := List.length_take_le' _ _
  omega

set_option maxRecDepth 20000 in
set_option maxHeartbeats 1000000 in
theorem all_any (x : RX w rb tb cap gs K S) :
    Calls Try.prog 11 #[.pointer (some ⟨rb, 0, none⟩)] w fun e w' => ∃ v, e = .returned v ∧ OwI w' w.heap.size v (allR S) ∧ Below w.heap.size w w' := by
  have c0 := x.box
  have hf := x.few
  unfold maxLen at hf
  have hal := all_len x
  have hOf := fun W (hW : Below w.heap.size w W) m (hm : m < S.length) => of_ok (x.below hW) m hm
  have hal1 : ∀ k (h : k < S.length), allR (S.take (k + 1)) = allR (S.take k) ++ keepR S[k] := fun k h => by
    unfold allR
    rw [List.take_succ_eq_append_getElem h, List.flatMap_append]
    simp
  have hall : allR (S.take S.length) = allR S := by rw [List.take_of_length_le (Nat.le_refl _)]
  clear x
  generalize hG : w.heap.size = B at *
  obtain ⟨N, hN⟩ : ∃ N, N = S.length := ⟨_, rfl⟩
  rw [← hN] at c0 hf hall
  have HN : Hid (N = S.length) := hN
  clear hN
  go_enter Try.func11, Try.ntmps11
  go_wp2
  go_loopw [3, 10] (fun v i wr => ∃ k : Nat, k ≤ N ∧ i = .int .i64 (k : Int) ∧ OwI wr B v (allR (S.take k)) ∧ Below B w wr) (fun _ i _ => N - (intOf i).toNat)
  case atStart => exact ⟨0, Nat.zero_le _, rfl, OwI.nil _ _, Below.refl _ _⟩
  case round =>
    obtain ⟨k, hk, rfl, ho, hb⟩ := hrel
    have hz : B ≤ wr.heap.size := by have := hb.size; omega
    have hlen := hal k
    by_cases hlt : k < N
    · have hkS : k < S.length := by have := HN.out; omega
      have hO := hOf wr hb k hkS
      have h1 := hal1 k hkS
      have h2 := hal (k + 1)
      rw [h1, List.length_append] at h2
      generalize S[k] = r at *
      have HK : Hid (k + 1 ≤ N) := hlt
      have HE : Hid _ := hidden h1
      have HL : Hid _ := hidden h2
      have HO : Hid _ := hidden ho
      have HB : Hid _ := hidden hb
      clear hal hal1 hall h1 h2 hOf ho hb hlen hkS
      go_wp2_with (first
        | (go_at_call 10; refine hO.mono ?_; rintro e w1 ⟨v1, rfl, o1, b1⟩)
        | (at_builtin; refine wpList_owI rfl (.tmp 13) (.tmp 16) rfl B _ (allR (S.take k)) rfl (HO.out.below b1) _ (keepR r) rfl o1.sr (by have := HL.out; omega) (Nat.le_trans hz b1.size) ?_; intro v5 w5 ho5 hk5 hm5; have HR : Hid _ := hidden (And.intro b1 (And.intro ho5 hk5)); clear b1 o1 ho5 hk5 hm5))
      go_roundw
      case rel =>
        obtain ⟨b1, ho5, hk5⟩ := HR.out
        refine ⟨k + 1, HK.out, by go_num, by rw [HE.out]; exact ho5, ?_⟩
        exact (HB.out.trans (b1.mono hz)).trans (hk5.below (Nat.le_trans hz b1.size) (fun q hq e => by have := (HO.out.ge q e).1; omega))
      case measure => have := HK.out; simp [intOf]; omega
    · have hkK : k = N := by omega
      rw [hkK, hall] at ho
      clear hal hal1 hOf hkK hlen hall
      go_wp2
      go_ret
      exact ⟨_, rfl, ho, hb⟩

theorem cnt_take (S : List Rw) (x : Int × Nat) (k : Nat) (h : k < S.length) : cntR (S.take (k + 1)) x = cntR (S.take k) x + S[k].countP (fun y => sameI y x) := by
  unfold cntR
  rw [List.take_succ_eq_append_getElem h, List.map_append, List.sum_append]
  simp
theorem cntp_take (r : Rw) (x : Int × Nat) (k : Nat) (h : k < r.length) : (r.take (k + 1)).countP (fun y => sameI y x) = (r.take k).countP (fun y => sameI y x) + (if sameI r[k] x then 1 else 0) := by
  rw [List.take_succ_eq_append_getElem h, List.countP_append]
  simp [List.countP_cons]
theorem cnt_len (x : RX w rb tb cap gs K S) (y : Int × Nat) (k : Nat) : cntR (S.take k) y ≤ 32 := by
  have h : ∀ (L : List Rw), (∀ r ∈ L, r.length ≤ 8) → cntR L y ≤ L.length * 8 := by
    intro L
    induction L with
    | nil => intro _; simp [cntR]
    | cons r L ih =>
      intro hL
      have h1 := ih (fun r hr => hL r (List.mem_cons_of_mem _ hr))
      have h2 := hL r List.mem_cons_self
      have h3 := List.countP_le_length (p := fun z => sameI z y) (l := r)
      unfold cntR at h1 ⊢
      rw [List.map_cons, List.sum_cons, List.length_cons]
      omega
  have h1 := h (S.take k) (fun r hr => by have := x.wid r (List.mem_of_mem_take hr); have := x.few; omega)
  have h2 := x.few
  have h3 : (S.take k).length ≤ S.length := List.length_take_le' _ _
  omega

set_option maxRecDepth 20000 in
set_option maxHeartbeats 1000000 in
theorem count_any (x : RX w rb tb cap gs K S) (a : Int) (n : Nat) :
    Calls Try.prog 12 #[.pointer (some ⟨rb, 0, none⟩), .agg #[.int .i64 a, .int .u64 (n : Int)]] w fun e w' => e = .returned (.int .i64 (cntR S (a, n) : Int)) ∧ Below w.heap.size w w' := by
  have hf := x.few
  unfold maxLen at hf
  have hB0 := bel_alloc w (.cells #[.int .i64 a, .int .u64 (n : Int)] 30)
  have q0 : Row (w.alloc (.cells #[.int .i64 a, .int .u64 (n : Int)] 30)) w.heap.size 30 [.int .i64 a, .int .u64 (n : Int)] := heap_alloc_new w _
  have x0 := x.below hB0
  have hcl := cnt_len x (a, n)
  have hct := cnt_take S (a, n)
  have hall : cntR (S.take S.length) (a, n) = cntR S (a, n) := by rw [List.take_of_length_le (Nat.le_refl _)]
  obtain ⟨N, hN⟩ : ∃ N, N = S.length := ⟨_, rfl⟩
  have c0 := x.box
  have l0 := cell_lt c0
  rw [← hN] at c0 hf hall
  have hge := guardID
  have hee := eqID
  have HN : Hid (N = S.length) := hN
  have HX : Hid _ := hidden x0
  have HQ : Hid _ := hidden q0
  have HB0 : Hid _ := hidden hB0
  have HL : Hid _ := hidden hcl
  have HC : Hid _ := hidden hct
  have HA : Hid _ := hidden hall
  clear x hN x0 q0 hB0 hcl hct hall
  go_enter Try.func12, Try.ntmps12
  go_wp2
  go_loopw [5, 15] (fun v i wr => ∃ k : Nat, k ≤ N ∧ i = .int .i64 (k : Int) ∧ v = .int .i64 (cntR (S.take k) (a, n) : Int) ∧ Below (w.alloc (.cells #[.int .i64 a, .int .u64 (n : Int)] 30)).heap.size (w.alloc (.cells #[.int .i64 a, .int .u64 (n : Int)] 30)) wr) (fun _ i _ => N - (intOf i).toNat)
  case atStart => exact ⟨0, Nat.zero_le _, rfl, rfl, Below.refl _ _⟩
  case round =>
    clear c0 l0
    obtain ⟨w1, hw1⟩ : ∃ x, x = wr := ⟨_, rfl⟩
    subst hw1
    obtain ⟨k, hk, rfl, rfl, hb⟩ := hrel
    by_cases hlt : k < N
    · have hkS : k < S.length := by have := HN.out; omega
      have x1 := HX.out.below hb
      obtain ⟨g, hg, c1, hr, hl⟩ := x1.at k hkS
      have hC := HC.out k hkS
      have hL0 := HL.out k
      have hL1 := HL.out (k + 1)
      rw [hC] at hL1
      have HK : Hid (k + 1 ≤ N) := hlt
      generalize S[k] = r at *
      have HE : Hid _ := hidden hC
      have HL1 : Hid _ := hidden hL1
      have HR : Hid _ := hidden hr
      have HB : Hid _ := hidden hb
      have HLn : Hid _ := hidden hl
      generalize cntR (S.take k) (a, n) = M at *
      have hgl := hr.lt
      clear x1 hg hC hL1 hr hb hl hkS
      go_wp2
      go_loopw [5, 21] (fun v i wr' => ∃ j : Nat, j ≤ K ∧ i = .int .i64 (j : Int) ∧ v = .int .i64 ((M + (r.take j).countP (fun y => sameI y (a, n)) : Nat) : Int) ∧ Below w1.heap.size w1 wr') (fun _ i _ => K - (intOf i).toNat)
      case atStart => exact ⟨0, Nat.zero_le _, rfl, rfl, Below.refl _ _⟩
      case round =>
        obtain ⟨j, hj, rfl, rfl, hb2⟩ := hrel
        clear c1 hgl
        have hz2 := hb2.size
        have hbz := HB.out.size
        simp at hbz
        by_cases hjt : j < K
        · have hjr : j < r.length := by have := HLn.out; omega
          obtain ⟨e0, e1⟩ := idsV_at r j hjr
          have hr2 := HR.out.below hb2
          have d0 := hr2.at _ _ e0
          have d1 := hr2.at _ _ e1
          have hq2 := (HQ.out.below HB.out).below hb2
          have b0 := hq2.cell 0 (by simp)
          have b1 := hq2.cell 1 (by simp)
          simp only [List.getElem_cons_succ, List.getElem_cons_zero] at b0 b1
          have hct := cntp_take r (a, n) j hjr
          have hcl : (r.take j).countP (fun y => sameI y (a, n)) ≤ K := by
            have h1 := List.countP_le_length (p := fun y => sameI y (a, n)) (l := r.take j)
            have h2 : (r.take j).length ≤ j := List.length_take_le _ _
            omega
          have HJ : Hid (j + 1 ≤ K) := hjt
          generalize r[j] = y at *
          generalize (r.take j).countP (fun y => sameI y (a, n)) = C at *
          have hgl := hr2.lt
          have hql := hq2.lt
          have HB2 : Hid _ := hidden hb2
          clear hr2 hq2 e0 e1 hjr hb2
          cases hs : sameI y (a, n) with
          | true =>
            rw [hs, if_pos rfl] at hct
            have HCt : Hid _ := hidden hct
            have hq : (y.1 == a && ((y.2 : Int) == (n : Int))) = true := hs
            clear hct hs
            go_wp2
            go_roundw
            case rel => exact ⟨j + 1, HJ.out, by go_num, by rw [HCt.out]; go_num, HB2.out.trans ((bel_alloc _ _).mono hz2)⟩
            case measure => have := HJ.out; simp [intOf]; omega
          | false =>
            rw [hs, if_neg (by simp)] at hct
            have HCt : Hid _ := hidden hct
            have hq : (y.1 == a && ((y.2 : Int) == (n : Int))) = false := hs
            clear hct hs
            go_wp2
            go_roundw
            case rel => exact ⟨j + 1, HJ.out, by go_num, by rw [HCt.out, Nat.add_zero], HB2.out.trans ((bel_alloc _ _).mono hz2)⟩
            case measure => have := HJ.out; simp [intOf]; omega
        · have hM : (r.take j).countP (fun y => sameI y (a, n)) = r.countP (fun y => sameI y (a, n)) := by
            rw [List.take_of_length_le (by have := HLn.out; omega)]
          rw [hM, ← HE.out]
          have HB2 : Hid _ := hidden hb2
          clear hM hb2
          go_wp2
          go_roundw
          case rel => exact ⟨k + 1, HK.out, by go_num, rfl, HB.out.trans (HB2.out.mono HB.out.size)⟩
          case measure => have := HK.out; simp [intOf]; omega
    · have hkN : k = N := by omega
      rw [hkN, HA.out]
      have HB : Hid _ := hidden hb
      clear hkN hb
      go_wp2
      go_ret
      exact ⟨rfl, HB0.out.trans (HB.out.mono HB0.out.size)⟩
end

end Go.Proofs.Ytfoodmlgknckgaa
