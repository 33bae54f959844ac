/- shadeOwn, meet, Shade. -/
import Derived.Test.YtbgaejjoomnklaaDoorPaB
namespace Go.Proofs.YtbgaejjoomnklaaDoor
open Go.RowKit

section
variable {w w' : World} {pb hb base sb mb tb : Nat} {v v' : Value} {p p' : PSt} {F : Nat → Prop} {h : HSt}
/-- The stack is another one. -/
theorem PX.stack (x : PX w pb hb base sb mb tb v p) {l : List Nat} {ov : Bool} (g : GoU w w' sb base v v' p.M (l.map (fun n : Nat => (n : Int))) ov) : PX w' pb hb base sb mb tb v' { p with stk := l, ov := ov } := by
  obtain ⟨d1, d2, d3, d4, d5, d6, d7, d8, d9⟩ := x.d
  have hlt := x.lt
  have hno : ∀ k, k < w.heap.size → v.ownBlock ≠ some k → v'.ownBlock ≠ some k := fun k hk hn e => by
    rcases g.m k e with e | e
    · exact hn e
    · omega
  have h1 := hlt pb (Or.inl rfl)
  have h2 := hlt mb (Or.inr (Or.inr (Or.inl rfl)))
  have h3 := hlt tb (Or.inr (Or.inr (Or.inr rfl)))
  refine ⟨x.box.kept g.k (fun e => ?_), g.x, x.ma.kept g.k (fun e => ?_), x.me.kept g.k (fun e => ?_), ⟨d1, d2, d3, d4, d5, d6, hno _ h1 d7, hno _ h2 d8, hno _ h3 d9⟩, x.ge⟩
  · rcases e with e | e
    · exact d1 e
    · exact d7 e
  · rcases e with e | e
    · exact d4 e.symm
    · exact d8 e
  · rcases e with e | e
    · exact d5 e.symm
    · exact d9 e
theorem PX.went (x : PX w' pb hb base sb mb tb v' p') (hk : Kept w w' (pBl pb sb mb tb v)) (hm : Moved w v v') : PGo w w' pb hb base (pBl pb sb mb tb v) p' := by
  refine ⟨⟨_, x.pn, fun k hk => ?_⟩, hk⟩
  rcases hk with hk | (hk | hk) | hk | hk
  · exact Or.inl (Or.inl hk)
  · exact Or.inl (Or.inr (Or.inl (Or.inl hk)))
  · rcases hm k hk with e | e
    · exact Or.inl (Or.inr (Or.inl (Or.inr e)))
    · exact Or.inr e
  · exact Or.inl (Or.inr (Or.inr (Or.inl hk)))
  · exact Or.inl (Or.inr (Or.inr (Or.inr hk)))
theorem PX.bs (x : PX w pb hb base sb mb tb v p) : base ≤ w.heap.size := by
  have h1 := x.ge.1
  have h2 := x.box.lt
  omega
/-- A serial is pushed. -/
theorem PX.pushed (x : PX w pb hb base sb mb tb v p) (s : Nat) :
    Calls Tryd.prog 53 #[.pointer (some ⟨sb, 0, none⟩), .int .u64 (s : Int)] w fun e w' => ∃ b v', e = .returned (.bool b) ∧ PX w' pb hb base sb mb tb v' (p.push s) ∧ Kept w w' (sBl sb v) ∧ Moved w v v' := by
  have hlen : (p.stk.map (fun n : Nat => (n : Int))).length = p.stk.length := List.length_map _
  have hfew := x.sk.few
  rw [List.length_map, List.length_map] at hfew
  unfold PSt.push
  by_cases hr : p.stk.length < p.M
  · rw [if_pos hr]
    refine (pushU_room x.sk (by rw [hlen]; exact hr) (s : Int) x.bs).mono ?_
    rintro e w' ⟨rfl, v', g⟩
    have e : p.stk.map (fun n : Nat => (n : Int)) ++ [(s : Int)] = (p.stk ++ [s]).map (fun n : Nat => (n : Int)) := by simp
    rw [e] at g
    exact ⟨true, v', rfl, x.stack g, g.k, g.m⟩
  · rw [if_neg hr]
    refine (pushU_full x.sk (by rw [hlen]; omega) (s : Int)).mono ?_
    rintro e w' ⟨rfl, g⟩
    exact ⟨false, v, rfl, x.stack g, g.k, g.m⟩

set_option maxRecDepth 20000 in
set_option maxHeartbeats 1000000 in
/-- It is marked anew. -/
theorem own_put (x : PX w pb hb base sb mb tb v p) (s r r0 : Nat) (g fl : Bool) (hl : (Instr.lookup 84 (.map (some mb)) (.int .u64 (s : Int)) true).run Tryd.prog w = .ok (.tuple #[.agg #[.int .i64 (r0 : Int), .bool g], .bool fl]) w)
    (hf : fl = false ∨ ¬ r0 ≤ r)
    (hP : ∀ W, Below w.heap.size w W → Calls Tryd.prog 33 #[.pointer (some ⟨pb, 0, none⟩), .int .u64 (s : Int)] W fun e w' => e = .returned (.bool true) ∧ Below W.heap.size W w') :
    Calls Tryd.prog 31 #[.pointer (some ⟨pb, 0, none⟩), .int .u64 (s : Int), .int .i64 (r : Int)] w fun e w' => e = .returned (.tuple #[]) ∧ PGo w w' pb hb base (pBl pb sb mb tb v) (if g then { p with ma := putA p.ma s (r, true) } else PSt.push { p with ma := putA p.ma s (r, true) } s) := by
  have c3 := x.c3
  have hA : ∀ o, Below w.heap.size w (w.alloc o) := fun o => bel_alloc w o
  have HX : Hid _ := hidden x
  have HN : Hid (∀ o w1, Below (w.alloc o).heap.size (w.alloc o) w1 → (∀ i, w1.cell? ⟨w.heap.size, i, none⟩ = (w.alloc o).cell? ⟨w.heap.size, i, none⟩) ∧ Below w.heap.size w w1 ∧ w.heap.size < w1.heap.size) := fun o w1 hb => ⟨fun i => hb.cell (p := ⟨w.heap.size, i, none⟩) (by simp), (hA o).trans (hb.mono (by simp)), by have := hb.size; simp at this; omega⟩
  have hf' : fl = false ∨ (fl = true ∧ ¬ r0 ≤ r) := by
    rcases hf with e | e
    · exact Or.inl e
    · cases fl
      · exact Or.inl rfl
      · exact Or.inr ⟨rfl, e⟩
  clear x hf
  go_enter Tryd.func31, Tryd.ntmps31
  go_upto_region 1 with fail
  go_cut [29] from 17 to 29 (fun t wc => t = .bool false ∧ Below w.heap.size w wc ∧ w.heap.size < wc.heap.size ∧ wc.cell? ⟨w.heap.size, 0, none⟩ = some (.int .i64 (r0 : Int)) ∧ wc.cell? ⟨w.heap.size, 1, none⟩ = some (.bool g))
  case first =>
    rcases hf' with rfl | ⟨rfl, hr⟩
    · go_wp2_with (go_at_call 33; refine (hP _ (hA _)).mono ?_; rintro e w1 ⟨rfl, hb1⟩; obtain ⟨d, bw, bs⟩ := HN.out _ _ hb1; have d0 := d 0; have d1 := d 1; clear d hb1; simp at d0 d1)
      go_meet
      exact ⟨rfl, bw, bs, d0, d1⟩
    · go_wp2_with (go_at_call 33; refine (hP _ (hA _)).mono ?_; rintro e w1 ⟨rfl, hb1⟩; obtain ⟨d, bw, bs⟩ := HN.out _ _ hb1; have d0 := d 0; have d1 := d 1; clear d hb1; simp at d0 d1)
      go_meet
      exact ⟨rfl, bw, bs, d0, d1⟩
  case rest =>
    obtain ⟨rfl, bw, bs, d0, d1⟩ := hcut
    have y := HX.out.below bw
    obtain ⟨o, o', ho, hU, hY⟩ := y.putM s r true
    obtain ⟨y3, k3⟩ := hY _ y
    have hU3 := hU _ ho
    have e3 := y.c3
    have hne : w.heap.size ≠ mb := by have := HX.out.ma.lt; omega
    have d2 := cell_kept d1 k3 (by exact hne)
    have bs3 := Nat.lt_of_lt_of_le bs k3.size
    have HY3 : Hid _ := hidden y3
    have HK3 : Hid _ := hidden ((kept_of_below bw (pBl pb sb mb tb v)).trans k3 (fun i _ e => Or.inr (Or.inr (Or.inl e))))
    have e2 := y3.c2
    clear hl hP HN hA c3 hf' hU ho hY y y3 k3 d0 d1 bs bw hne
    go_upto_region 3 with fail
    generalize ChangeMaps.setBlock _ mb o' = w3 at *
    clear hU3 e3
    cases g with
    | true =>
      go_wp2
      go_end0
      exact ⟨rfl, HY3.out.went HK3.out (Moved.refl _ _)⟩
    | false =>
      have hPu := HY3.out.pushed s
      go_wp2_with fail
      refine hPu.mono ?_
      rintro e w4 ⟨b, v4, rfl, y4, k4, m4⟩
      clear hPu
      have HG : Hid (PGo w w4 pb hb base (pBl pb sb mb tb v) _) := hidden (y4.went (HK3.out.trans k4 (fun i _ e => Or.inr (Or.inl e))) (fun k hk => by
        rcases m4 k hk with e | e
        · exact Or.inl e
        · exact Or.inr (Nat.le_trans HK3.out.size e)))
      clear y4 k4 m4
      go_wp2
      go_end0
      exact ⟨rfl, HG.out⟩

set_option maxRecDepth 20000 in
set_option maxHeartbeats 1000000 in
theorem own_stay (x : PX w pb hb base sb mb tb v p) (s r r0 : Nat) (g fl bo : Bool) (hl : (Instr.lookup 84 (.map (some mb)) (.int .u64 (s : Int)) true).run Tryd.prog w = .ok (.tuple #[.agg #[.int .i64 (r0 : Int), .bool g], .bool fl]) w)
    (hf : bo = false ∨ (fl = true ∧ r0 ≤ r))
    (hP : ∀ W, Below w.heap.size w W → Calls Tryd.prog 33 #[.pointer (some ⟨pb, 0, none⟩), .int .u64 (s : Int)] W fun e w' => e = .returned (.bool bo) ∧ Below W.heap.size W w') :
    Calls Tryd.prog 31 #[.pointer (some ⟨pb, 0, none⟩), .int .u64 (s : Int), .int .i64 (r : Int)] w fun e w' => e = .returned (.tuple #[]) ∧ Below w.heap.size w w' := by
  have c3 := x.c3
  have hA : ∀ o, Below w.heap.size w (w.alloc o) := fun o => bel_alloc w o
  have HN : Hid (∀ o w1, Below (w.alloc o).heap.size (w.alloc o) w1 → (∀ i, w1.cell? ⟨w.heap.size, i, none⟩ = (w.alloc o).cell? ⟨w.heap.size, i, none⟩) ∧ Below w.heap.size w w1 ∧ w.heap.size < w1.heap.size) := fun o w1 hb => ⟨fun i => hb.cell (p := ⟨w.heap.size, i, none⟩) (by simp), (hA o).trans (hb.mono (by simp)), by have := hb.size; simp at this; omega⟩
  clear x
  cases bo with
  | false =>
    go_enter Tryd.func31, Tryd.ntmps31
    go_wp2_with (go_at_call 33; refine (hP _ (hA _)).mono ?_; rintro e w1 ⟨rfl, hb1⟩; obtain ⟨d, bw, bs⟩ := HN.out _ _ hb1; clear d hb1)
    (try simp only [Exit.inBlock, Exit.then]); refine bodyPost_ret (results_none rfl _ _ _) rfl ?_
    exact ⟨rfl, bw⟩
  | true =>
    rcases hf with hf | ⟨rfl, hf⟩
    · cases hf
    have hr : r0 ≤ r := hf
    clear hf
    go_enter Tryd.func31, Tryd.ntmps31
    go_wp2_with (go_at_call 33; refine (hP _ (hA _)).mono ?_; rintro e w1 ⟨rfl, hb1⟩; obtain ⟨d, bw, bs⟩ := HN.out _ _ hb1; have d0 := d 0; clear d hb1; simp at d0)
    (try simp only [Exit.inBlock, Exit.then]); refine bodyPost_ret (results_none rfl _ _ _) rfl ?_
    exact ⟨rfl, bw⟩
theorem shadeOwn_any (x : PX w pb hb base sb mb tb v p) (y : HP w hb F h) (s : Nat) (hs : s < 18446744073709551616) (r : Nat) :
    Calls Tryd.prog 31 #[.pointer (some ⟨pb, 0, none⟩), .int .u64 (s : Int), .int .i64 (r : Int)] w fun e w' => e = .returned (.tuple #[]) ∧ PGo w w' pb hb base (pBl pb sb mb tb v) (p.own h s r) := by
  have hP := fun W (hB : Below w.heap.size w W) => phas_any (x.below hB) (y.below hB) s hs
  have hl := x.look s
  unfold PSt.own
  cases hbo : (getC h.cs s).isSome with
  | false =>
    rw [hbo] at hP
    rw [if_neg (by simp)]
    exact (own_stay x s r _ _ _ false hl (Or.inl rfl) hP).mono (fun _ _ ⟨h1, h2⟩ => ⟨h1, x.pn.stay h2⟩)
  | true =>
    rw [hbo] at hP
    rw [if_pos rfl]
    cases hm : getA p.ma s with
    | none =>
      have e2 : markD p s = (0, false) := by unfold markD; rw [hm]; rfl
      rw [hm, e2] at hl
      have := own_put x s r 0 false false hl (Or.inl rfl) hP
      simpa using this
    | some m =>
      obtain ⟨r0, g⟩ := m
      have e2 : markD p s = (r0, g) := by unfold markD; rw [hm]; rfl
      rw [hm, e2] at hl
      by_cases hr : r0 ≤ r
      · simp only [if_pos hr]
        exact (own_stay x s r r0 g true true hl (Or.inr ⟨rfl, hr⟩) hP).mono (fun _ _ ⟨h1, h2⟩ => ⟨h1, x.pn.stay h2⟩)
      · simp only [if_neg hr]
        exact own_put x s r r0 g true hl (Or.inr hr) hP

set_option maxRecDepth 20000 in
set_option maxHeartbeats 1000000 in
theorem meet_any (x : PX w pb hb base sb mb tb v p) (a : Int) (n r : Nat) :
    Calls Tryd.prog 32 #[.pointer (some ⟨pb, 0, none⟩), .agg #[.int .i64 a, .int .u64 (n : Int)], .int .i64 (r : Int)] w fun e w' => e = .returned (.tuple #[]) ∧ PGo w w' pb hb base (pBl pb sb mb tb v) (p.meet (a, n) r) := by
  have hB : ∀ o n, Below w.heap.size w ((w.alloc o).drewN n) := fun o n => (bel_alloc w o).trans ((below_drewN0 _ _).mono (by simp))
  have c4' := fun o n => (x.below (hB o n)).c4
  have hl' := fun o m => (x.below (hB o m)).lookT a n
  have HX : Hid _ := hidden x
  have hE : p.meet (a, n) r = if (metR p (a, n)).2 = true ∧ (metR p (a, n)).1 ≤ r then p else { p with me := putA p.me (a, n) r } := by
    unfold PSt.meet metR
    cases getA p.me (a, n) with
    | none => rfl
    | some r0 =>
      simp only [true_and]
      by_cases e : r < r0
      · rw [if_pos e, if_neg (by omega)]
      · rw [if_neg e, if_pos (by omega)]
  rw [hE]
  generalize metR p (a, n) = m at *
  obtain ⟨r0, g⟩ := m
  clear x hE
  by_cases hq : g = true ∧ r0 ≤ r
  · have hE : (if (r0, g).2 = true ∧ (r0, g).1 ≤ r then p else { p with me := putA p.me (a, n) r }) = p := if_pos hq
    rw [hE]
    clear hE
    obtain ⟨rfl, hr⟩ := hq
    have hd : ¬ r < r0 := by omega
    clear hr
    go_enter Tryd.func32, Tryd.ntmps32
    go_upto_region 1 with fail
    go_quiet (fail)
    go_wp2
    go_end0
    exact ⟨rfl, HX.out.pn.stay (hB _ _)⟩
  · have hE : (if (r0, g).2 = true ∧ (r0, g).1 ≤ r then p else { p with me := putA p.me (a, n) r }) = { p with me := putA p.me (a, n) r } := if_neg hq
    rw [hE]
    clear hE
    have hq' : g = false ∨ (g = true ∧ r < r0) := by
      cases g
      · exact Or.inl rfl
      · exact Or.inr ⟨rfl, by simp at hq; omega⟩
    clear hq
    go_enter Tryd.func32, Tryd.ntmps32
    go_upto_region 1 with fail
    go_cut [6, 7] from 8 to 16 (fun t u wc => t = .int .i64 (r0 : Int) ∧ u = .bool g ∧ ∃ m, wc = (w.alloc (.cells #[.int .i64 a, .int .u64 (n : Int)] 31)).drewN m)
    case first =>
      go_quiet (fail)
      go_wp2
      go_meet
      exact ⟨rfl, rfl, _, rfl⟩
    case rest =>
      obtain ⟨rfl, rfl, m, rfl⟩ := hcut
      have bw := hB (.cells #[.int .i64 a, .int .u64 (n : Int)] 31) m
      have d0 : ((w.alloc (.cells #[.int .i64 a, .int .u64 (n : Int)] 31)).drewN m).cell? ⟨w.heap.size, 0, none⟩ = some (.int .i64 a) := by simp
      have d1 : ((w.alloc (.cells #[.int .i64 a, .int .u64 (n : Int)] 31)).drewN m).cell? ⟨w.heap.size, 1, none⟩ = some (.int .u64 (n : Int)) := by simp
      have hz : w.heap.size < ((w.alloc (.cells #[.int .i64 a, .int .u64 (n : Int)] 31)).drewN m).heap.size := by simp
      clear c4' hl' hB
      generalize (w.alloc (.cells #[.int .i64 a, .int .u64 (n : Int)] 31)).drewN m = w1 at *
      have y := HX.out.below bw
      have hD : Below w1.heap.size w1 w1.drew := ⟨rfl, rfl, rfl, Nat.le_refl _, fun _ _ => rfl⟩
      obtain ⟨o, o', ho, hU, hY⟩ := y.putT a n r
      have hU1 := hU w1 ho
      have hU2 := hU w1.drew ho
      obtain ⟨y3, k3⟩ := hY _ (y.below hD)
      have e4 := y.c4
      have HG : Hid (PGo w (ChangeMaps.setBlock w1.drew tb o') pb hb base (pBl pb sb mb tb v) _) := hidden (y3.went ((kept_of_below (bw.trans (hD.mono bw.size)) _).trans k3 (fun i _ e => Or.inr (Or.inr (Or.inr e)))) (Moved.refl _ _))
      clear hU hY ho y y3 k3 hD bw HX
      rcases hq' with rfl | ⟨rfl, hr⟩
      · go_wp2
        go_region
        all_goals
          go_wp2
          go_end0
          exact ⟨rfl, HG.out⟩
      · go_wp2
        go_region
        all_goals
          go_wp2
          go_end0
          exact ⟨rfl, HG.out⟩
end

end Go.Proofs.YtbgaejjoomnklaaDoor
