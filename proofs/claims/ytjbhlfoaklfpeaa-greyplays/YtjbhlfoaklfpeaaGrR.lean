/- The plain stack: Push, Pop. -/
import Derived.Test.YtjbhlfoaklfpeaaGrK
namespace Go.Proofs.Ytjbhlfoaklfpeaa
open Go.RowKit

@[reducible] def SKR (w : World) (sb base : Nat) (v : Value) (M : Nat) (xs : List Int) (ov : Bool) : Prop := SK w sb base 39 3 v M (xs.map (Value.int .i64)) ov
@[reducible] def GoR (w w' : World) (sb base : Nat) (v v' : Value) (M : Nat) (xs : List Int) (ov : Bool) : Prop := Go1 w w' sb base 39 3 v v' M (xs.map (Value.int .i64)) ov
theorem own_mono1 {w : World} {b b' n : Nat} {E : TypeId} {v : Value} {l : List Value} (h : w.ownsRow b E 1 v n l) (hb : b' ≤ b) : w.ownsRow b' E 1 v n l := by
  refine ⟨h.1, ?_⟩
  rcases h.2 with h1 | ⟨g, cap, cur, rfl, h2, h3⟩
  · exact Or.inl h1
  · exact Or.inr ⟨g, cap, cur, rfl, Nat.le_trans hb h2, h3⟩
theorem own_empty1 {w : World} {g base : Nat} {E : TypeId} (h : w.heap[g]? = some (.cells #[] E (0, 0))) (hb : base ≤ g) : w.ownsRow base E 1 (.slice (some ⟨g, 0, none⟩) 0 0) 0 [] :=
  ⟨by simp, Or.inr ⟨_, 0, #[], rfl, hb, h, Nat.le_refl _, Nat.zero_le _, by simp, by simp⟩⟩

section
variable {w : World} {sb base : Nat} {v : Value} {M : Nat} {xs : List Int} {ov : Bool}
set_option maxRecDepth 20000 in
set_option maxHeartbeats 400000 in
theorem rpush_full (x : SKR w sb base v M xs ov) (h : xs.length = M) (a : Int) :
    Calls Try.prog 22 #[.pointer (some ⟨sb, 0, none⟩), .int .i64 a] w fun e w' => e = .returned (.bool false) ∧ GoR w w' sb base v v M xs true := by
  subst h
  have c0 := x.c0
  have c1 := x.c1
  have c2 := x.c2
  have f2 := x.box.frozen 2
  have hf := x.few
  have HX : Hid (∀ w', Below w.heap.size w w' → _) := hidden (fun w' (hb : Below w.heap.size w w') => x.over true hb)
  obtain ⟨ao, cap, rfl, _⟩ := x.slice
  rw [List.length_map] at c1
  clear x
  generalize xs.length = n at *
  go_enter Try.func22, Try.ntmps22
  go_wp2
  go_quiet (fail)
  go_wp2
  go_ret
  exact ⟨rfl, HX.out _ (below_drewN0 _ _)⟩
set_option maxRecDepth 20000 in
set_option maxHeartbeats 1000000 in
theorem rpush_room (x : SKR w sb base v M xs ov) (h : xs.length < M) (a : Int) (hbase : base ≤ w.heap.size) :
    Calls Try.prog 22 #[.pointer (some ⟨sb, 0, none⟩), .int .i64 a] w fun e w' => e = .returned (.bool true) ∧ ∃ v', GoR w w' sb base v v' M (xs ++ [a]) ov := by
  have c0 := x.c0
  have c1 := x.c1
  have hl := x.box.lt
  have hf := x.few
  have hno : ¬ ((M : Int) ≤ (xs.length : Int)) := by omega
  have hnd : decide ((M : Int) ≤ (xs.length : Int)) = false := decide_eq_false hno
  obtain ⟨ao, cap, hv, _⟩ := x.slice
  obtain ⟨i, hi, hz0, hz1, hz2⟩ := info_parts Try.infoI
  have HT : Hid (∀ v1 w1, w1.ownsRow w.heap.size 3 1 v1 ((xs.map (Value.int .i64)).length + 1) (xs.map (Value.int .i64) ++ [Value.int .i64 a]) → Below w.heap.size w w1 → GoR w (w1.setCell ⟨sb, 1, none⟩ v1) sb base v v1 M (xs ++ [a]) ov ∧ w1.cell? ⟨sb, 1, none⟩ = some v ∧ w1.frozen? ⟨sb, 1, none⟩ = false) := by
    intro v1 w1 ho1 hb1
    have e : (xs ++ [a]).map (Value.int .i64) = xs.map (Value.int .i64) ++ [Value.int .i64 a] := by simp
    have r1 := x.box.below hb1
    refine ⟨?_, r1.cell 1 (by simp), r1.frozen 1⟩
    unfold GoR
    rw [e]
    have ho2 : w1.ownsRow w.heap.size 3 1 v1 (xs.map (Value.int .i64) ++ [Value.int .i64 a]).length (xs.map (Value.int .i64) ++ [Value.int .i64 a]) := by rw [List.length_append]; exact ho1
    refine x.turn (kept_of_below hb1 _) (own_mono1 ho2 hbase) (fun k hk => Or.inr (own_lt ho2 k hk).1) (fun u hu => ?_) (by simp; omega)
    rw [List.mem_append, List.mem_singleton] at hu
    rcases hu with hu | rfl
    · exact x.one u hu
    · rfl
  have HSR : Hid _ := hidden (own_sr x.own x.one)
  have HL : Hid ((xs.map (Value.int .i64)).length = xs.length) := List.length_map _
  clear x
  rw [List.length_map] at hv
  subst hv
  have hnat : xs.length ≤ 64 := by omega
  clear h hf
  have HL64 : Hid ((xs.map (Value.int .i64)).length ≤ 64) := by
    have h : (xs.map (Value.int .i64)).length ≤ 64 := by rw [HL.out]; exact hnat
    exact h
  generalize xs.map (Value.int .i64) = ls at *
  generalize xs.length = n at *
  clear HL
  go_enter Try.func22, Try.ntmps22
  go_wp2
  go_cut [14] from 5 to 14 (fun t wc => t = .bool false ∧ Below w.heap.size w wc)
  case first =>
    go_quiet (fail)
    go_wp2
    go_meet
    exact ⟨congrArg Value.bool (decide_eq_false (by omega)), below_drewN0 _ _⟩
  case rest =>
    obtain ⟨rfl, hbc⟩ := hcut
    have d1 := (hbc.cell (p := ⟨sb, 1, none⟩) hl).trans c1
    have HB : Hid _ := hidden hbc
    have hbz := hbc.size
    have hlc : sb < wc.heap.size := by omega
    clear c0 c1 hbc
    go_wp2_with (first
      | (at_builtin; refine wpList_append_sr rfl (.tmp 19) (.tmp 23) 36 rfl 3 i (.int .i64 0) 1 8 Try.underlying36 hi hz0 hz1 hz2 rfl (by omega) w.heap.size (.slice (some ⟨wc.heap.size, 0, none⟩) 0 0) 0 [] (by rfl) (own_empty1 (heap_alloc_new wc _) hbz) (.slice ao n cap) ls.length ls (by rfl) (HSR.out.below (HB.out.trans ((bel_alloc _ _).mono hbz))) (by have := HL64.out; omega) (by omega) (by simp; omega) ?_; intro v5 w5 ho5 hk5 hm5; rw [Nat.zero_add, List.nil_append] at ho5; have hb5 := (HB.out.trans ((bel_alloc _ _).mono hbz)).trans (hk5.below (by simp; omega) (fun q hq e => by simp [Value.ownBlock] at e; omega)); have HO5 : Hid _ := hidden ho5; have HB5 : Hid _ := hidden hb5; have hz5 := hb5.size; obtain ⟨ao5, n5, c5, hv5⟩ := own_form ho5; subst hv5; clear ho5 hb5 hk5 hm5)
      | (at_builtin; refine wpList_append_sr rfl (.tmp 24) (.tmp 26) 36 rfl 3 i (.int .i64 0) 1 8 Try.underlying36 hi hz0 hz1 hz2 rfl (by omega) w.heap.size (.slice ao5 n5 c5) ls.length ls (by rfl) (own_kept HO5.out (kept_of_below (bel_alloc _ _) (fun _ => False)) (fun _ _ => id)) (.slice (some ⟨w5.heap.size, 0, none⟩) 1 1) 1 [Value.int .i64 a] (by rfl) (sr_val _ _ rfl _) (by have := HL64.out; omega) (by omega) (by simp; omega) ?_; intro v6 w6 ho6 hk6 hm6; have hb6 := (HB5.out.trans ((bel_alloc _ _).mono hz5)).trans (hk6.below (by simp; omega) (fun q hq e => by rcases HO5.out.2 with ⟨h0, _⟩ | ⟨g', _, _, h0, h1', _⟩; (cases h0; cases e); (cases h0; simp [Value.ownBlock] at e; omega))); obtain ⟨g6, e5, e6⟩ := HT.out v6 w6 ho6 hb6; have HG : Hid _ := hidden g6; obtain ⟨ao6, n6, c6, hv6⟩ := own_form ho6; subst hv6; clear g6 ho6 hb6 hk6 hm6))
    go_ret
    exact ⟨rfl, _, HG.out⟩
set_option maxRecDepth 20000 in
set_option maxHeartbeats 400000 in
theorem rpop_none (x : SKR w sb base v M [] ov) :
    Calls Try.prog 18 #[.pointer (some ⟨sb, 0, none⟩)] w fun e w' => e = .returned (.tuple #[.int .i64 0, .bool false]) ∧ w = w' := by
  have c1 := x.c1
  obtain ⟨ao, cap, rfl, _⟩ := x.slice
  rw [List.map_nil, List.length_nil] at c1
  clear x
  go_enter Try.func18, Try.ntmps18
  go_wp2
  go_ret2
  exact ⟨rfl, rfl⟩
set_option maxRecDepth 20000 in
set_option maxHeartbeats 1000000 in
theorem rpop_some {a : Int} (x : SKR w sb base v M (xs ++ [a]) ov) :
    Calls Try.prog 18 #[.pointer (some ⟨sb, 0, none⟩)] w fun e w' => e = .returned (.tuple #[.int .i64 a, .bool true]) ∧ ∃ v', GoR w w' sb base v v' M xs ov := by
  have x' : SK w sb base 39 3 v M (xs.map (Value.int .i64) ++ [Value.int .i64 a]) ov := by
    have : (xs ++ [a]).map (Value.int .i64) = xs.map (Value.int .i64) ++ [Value.int .i64 a] := by simp
    rw [← this]
    exact x
  obtain ⟨g, cap, hv, h1, h2, hgs, hgl, c, f, hT⟩ := x'.top
  have hf := x'.few
  have c1 := x'.c1
  have f1 := x'.box.frozen 1
  rw [hv] at c1
  have HT : Hid _ := hidden hT
  simp only [List.length_map, List.length_append, List.length_cons, List.length_nil] at h1 c f c1 hf
  unfold maxLen at h2
  clear x x' hT
  have HN : Hid ((xs.map (Value.int .i64)).length = xs.length) := List.length_map _
  rw [HN.out] at HT
  clear HN
  obtain ⟨l, hl⟩ : ∃ l, l = xs.map (Value.int .i64) := ⟨_, rfl⟩
  have hn64 : xs.length + 1 ≤ 64 := by omega
  unfold GoR
  rw [← hl] at HT ⊢
  clear hl hf hv f
  generalize xs.length = n at *
  go_enter Try.func18, Try.ntmps18
  go_upto_region 3 with fail
  go_cut [2] from 11 to 22 (fun t wc => t = .int .i64 a ∧ wc = w.drew)
  case first =>
    go_region
    all_goals
      go_wp2
      go_meet
      exact ⟨rfl, rfl⟩
  case rest =>
    obtain ⟨rfl, rfl⟩ := hcut
    have d1 : w.drew.cell? ⟨sb, 1, none⟩ = _ := c1
    have e1 : w.drew.frozen? ⟨sb, 1, none⟩ = false := f1
    have hG := HT.out w.drew.drew (((Kept.drew w).trans (Kept.drew w.drew) (fun _ _ e => e)).mono (fun _ _ e => e.elim)) (Or.inl rfl)
    have HG : Hid (Go1 w (w.drew.drew.setCell ⟨sb, 1, none⟩ (.slice (some ⟨g, 0, none⟩) n cap)) sb base _ _ v _ M l ov) := hG
    clear hG HT c1 f1 c
    go_upto_region 4 with fail
    go_cut [2] from 23 to 36 (fun t wc => t = .int .i64 a ∧ wc = (w.drew.setCell ⟨sb, 1, none⟩ (.slice (some ⟨g, 0, none⟩) n cap)).drew)
    case first =>
      go_region
      all_goals
        go_wp2
        go_meet
        exact ⟨rfl, rfl⟩
    case rest =>
      obtain ⟨rfl, rfl⟩ := hcut
      go_wp2
      go_ret2
      exact ⟨rfl, _, HG.out⟩
end

end Go.Proofs.Ytjbhlfoaklfpeaa
