/- TablePlays, walked. -/
import Derived.Test.YtofpkmionbbmcaaTbPc
namespace Go.Proofs.Ytofpkmionbbmcaa
open Go.RowKit

set_option maxRecDepth 20000 in
set_option maxHeartbeats 1000000 in
theorem tablePlays_no (n : Int) (h : n < 1 ∨ 4096 < n) (v : Value) (w : World) :
    Calls Try.prog 4 #[.int .i64 n, v] w fun e w' => e = .returned (.bool true) ∧ Below w.heap.size w w' := by
  by_cases h1 : n < 1
  · go_enter Try.func4, Try.ntmps4
    go_wp2_with fail
    refine (newUI_no n h w).mono ?_
    rintro e _ ⟨rfl, rfl⟩
    go_wp2_with fail
    refine (tknown_any w).mono ?_
    rintro e w2 ⟨rfl, hb2⟩
    go_wp2
    go_ret
    exact ⟨rfl, hb2⟩
  · have h2 : 4096 < n := by omega
    go_enter Try.func4, Try.ntmps4
    go_wp2_with fail
    refine (newUI_no n h w).mono ?_
    rintro e _ ⟨rfl, rfl⟩
    go_wp2_with fail
    refine (tknown_any w).mono ?_
    rintro e w2 ⟨rfl, hb2⟩
    go_wp2
    go_ret
    exact ⟨rfl, hb2⟩

/-- What the step's block holds. -/
@[reducible] def stO (what : Int) (k : Nat) (v : Int) (near : Bool) : Obj := .cells #[.int .i64 what, .int .u64 (k : Int), .int .i64 v, .bool near] 49 (0, 0)

/-- The answer of Keys, written over up to i. -/
def gI (es : List (Nat × Int)) (i : Nat) : List Value := List.replicate i (.int .u64 9223372036854775808) ++ (es.map (fun e => kfU e.1)).drop i
theorem gI_set (es : List (Nat × Int)) (j : Nat) (hj : j < es.length) : (gI es j).set j (.int .u64 9223372036854775808) = gI es (j + 1) := by
  unfold gI
  rw [List.set_append, if_neg (by simp)]
  simp only [List.length_replicate, Nat.sub_self]
  rw [List.drop_eq_getElem_cons (by simpa using hj), List.set_cons_zero, List.replicate_succ', List.append_assoc]
  rfl
theorem gI_at (es : List (Nat × Int)) (j : Nat) (hj : j < es.length) : (gI es j).toArray[j]? = some (.int .u64 (es[j].1 : Int)) := by
  rw [List.getElem?_toArray]
  unfold gI
  rw [List.getElem?_append_right (by simp)]
  simp [hj, kfU]
theorem getE_memN (es : List (Nat × Int)) (hs : Srt ltN (keysE es)) (x : Nat) (v : Int) : getE ltN es x = some v ↔ (x, v) ∈ es := by
  constructor
  · intro h
    unfold getE at h
    split at h
    · rename_i hh
      obtain ⟨hp, he⟩ := hasE_at hh
      rw [List.getElem?_eq_getElem hp] at h
      simp only [Option.map_some, Option.some.injEq] at h
      have : es[pE ltN es x] = (x, v) := Prod.ext he h
      rw [← this]
      exact List.getElem_mem _
    · cases h
  · intro h
    obtain ⟨j, hj, he⟩ := List.mem_iff_getElem.1 h
    have hj' : j < (keysE es).length := by rw [keysE_len]; exact hj
    have hk : (keysE es)[j] = x := by simp [keysE, he]
    have hp : pE ltN es x = j := by
      have := posK_eq (lt := ltN) (keysE es)[j] (keysE es) j (Nat.le_of_lt hj') (fun s hsl hst => List.pairwise_iff_getElem.1 hs s j hsl hj' hst) (fun _ => koN.irr _)
      rw [hk] at this
      exact this
    have hh : hasE ltN es x = true := (hasE_iff koN es x hs).2 (by rw [← hk]; exact List.getElem_mem _)
    unfold getE
    rw [if_pos hh, hp, List.getElem?_eq_getElem hj, he]
    rfl

def SB (W : World) (x : Nat) (ob : Obj) : Prop := W.heap[x]? = some ob

set_option maxRecDepth 20000 in
set_option maxHeartbeats 4000000 in
theorem tablePlays_ok (most : Nat) (hm1 : 1 ≤ most) (hm2 : most ≤ 4096) (l : List StepT) (v : Value) (w : World) (hv : WS w v 4 cStep l) :
    Calls Try.prog 4 #[.int .i64 (most : Int), v] w fun e w' => e = .returned (.bool true) ∧ Below w.heap.size w w' := by
  obtain ⟨ao, cap, rfl, hnc, hao⟩ := hv.slice
  have hmi1 : ¬ ((most : Int) < 1) := by omega
  have hmi2 : ¬ ((4096 : Int) < (most : Int)) := by omega
  go_enter Try.func4, Try.ntmps4
  go_wp2_with fail
  refine (newUI_ok most hm1 hm2 w).mono ?_
  rintro e w1 ⟨rfl, h1, hb1, hs1⟩
  go_wp2_with fail
  refine (tknown_any w1).mono ?_
  rintro e w2 ⟨rfl, hb2⟩
  have h2 := h1.below hb2
  have hB2 := hb1.trans (hb2.mono hb1.size)
  clear h1 hb1 hb2 hs1
  go_upto_block 0 with fail
  have hd1 : decide ((most : Int) < 1) = false := decide_eq_false (by omega)
  have hd2 : decide ((4096 : Int) < (most : Int)) = false := decide_eq_false (by omega)
  simp only [hd1, hd2, Bool.or_false]
  clear hd1 hd2
  have hA : Below w2.heap.size w2 (w2.alloc (.cells #[.int .i64 (most : Int), .slice none 0 0, .slice none 0 0] 47)) := (Below.refl _ _).alloc (Nat.le_refl _) _
  have hT : ∃ F R, TP w (w2.alloc (.cells #[.int .i64 (most : Int), .slice none 0 0, .slice none 0 0] 47)) w.heap.size w.heap.size w2.heap.size most [] [] F R := by
    have hz := hB2.size
    have hlt := h2.lt' _ h2.fb
    refine ⟨_, (fun k => k = w2.heap.size), h2.below hA, ⟨⟨.slice none 0 0, .slice none 0 0, heap_alloc_new w2 _, ⟨rfl, Or.inl ⟨rfl, rfl⟩⟩, ⟨rfl, Or.inl ⟨rfl, rfl⟩⟩, rfl, fun k h => by simp [Value.ownBlock] at h, fun k h => by simp [Value.ownBlock] at h, fun k h => ?_⟩, List.Pairwise.nil, Nat.zero_le _, hm2⟩, fun k h1 h2 => ?_, fun k h => ?_, fun k h => ?_, hB2.trans (hA.mono hz)⟩
    · have h' : k = w2.heap.size := h
      simp [h']
    · have e1 : k = w.heap.size := h1
      have e2 : k = w2.heap.size := h2
      omega
    · have e1 : k = w.heap.size := h
      omega
    · have e2 : k = w2.heap.size := h
      omega
  generalize w2.alloc (.cells #[.int .i64 (most : Int), .slice none 0 0, .slice none 0 0] 47) = w3 at *
  clear h2 hB2 hA
  generalize w2.heap.size = rb at *
  generalize hNB : w.heap.size = nb at *
  go_cut [8, 9, 10, 11, 12, 13, 14, 15, 16, 17, 18, 19, 20, 21, 22, 23, 24, 25, 26] from 59 to 209 (fun _ _ _ _ _ _ _ _ _ _ _ _ _ _ _ _ _ _ _ wc => ∃ es F R, TP w wc nb nb rb most es es F R)
  case first =>
    go_wp2
    go_loopw [8] (fun i wr => ∃ (j : Nat) (es : List (Nat × Int)) (F R : Nat → Prop), j ≤ l.length ∧ i = .int .i64 (j : Int) ∧ TP w wr nb nb rb most es es F R) (fun i _ => l.length - (intOf i).toNat)
    case atStart =>
      obtain ⟨F, R, h⟩ := hT
      exact ⟨0, [], F, R, Nat.zero_le _, rfl, h⟩
    case round =>
      obtain ⟨j, es, F, R, hj, rfl, ht⟩ := hrel
      clear hT
      by_cases hlt : j < l.length ∧ j < 600
      · obtain ⟨hlt, h600⟩ := hlt
        have hj0 : (j : Int) < (l.length : Int) := by omega
        have hj2 : (j : Int) < 600 := by omega
        have hbel := ht.bel
        have hbel' : Below w.heap.size w wr := by rw [hNB]; exact hbel
        obtain ⟨b, off, hao', hbl, c0, c1, c2, c3⟩ := (hv.below hbel').step j hlt
        subst hao'
        generalize l[j] = st at *
        obtain ⟨what, k, vv, near⟩ := st
        simp only at c0 c1 c2 c3
        go_upto_if 74 with fail
        have hA : Below wr.heap.size wr (wr.alloc (stO what k vv near)) := (Below.refl _ _).alloc (Nat.le_refl _) _
        have hxb := heap_alloc_new wr (stO what k vv near)
        have hte : TE w (wr.alloc (stO what k vv near)) nb nb rb most es es wr.heap.size (stO what k vv near) := ⟨F, R, ht.below hA, hxb, fun h => by have := ht.l.lt' _ h; omega, fun h => by have := ht.r.lt' _ h; omega⟩
        have hxB : nb ≤ wr.heap.size := Nat.le_of_lt ht.size
        generalize wr.alloc (stO what k vv near) = wx at *
        clear ht hbel hbel' c0 c1 c2 c3 hA
        generalize wr.heap.size = xb at *
        have x1 := cell_of_row wx _ 1 _ _ _ hxb
        have x3 := cell_of_row wx _ 3 _ _ _ hxb
        have f1 := frozen_of_row wx _ 1 _ _ hxb
        simp at x1 x3
        go_cut [] from 74 to 78 (fun wc => ∃ kk : Nat, TE w wc nb nb rb most es es xb (stO what kk vv near))
        case first =>
          cases near
          · go_wp2
            go_meet
            exact ⟨k, hte⟩
          · have HS : Hid (TE w (wx.setCell ⟨xb, 1, none⟩ (.int .u64 ((k % 12 : Nat) : Int))) nb nb rb most es es xb (stO what (k % 12) vv true)) := by
              obtain ⟨F', R', h1, h2, h3, h4⟩ := hte
              refine ⟨F', R', h1.keep (Kept.setCell wx ⟨xb, 1, none⟩ _) (fun q hq e => h3 (by have e' : q = xb := e; rw [← e']; exact hq)) (fun q hq e => h4 (by have e' : q = xb := e; rw [← e']; exact hq)) (fun q e => by have e' : q = xb := e; omega), ?_, h3, h4⟩
              rw [heap_setCell_same wx xb 1 _ _ _ hxb]
              rfl
            have HM : Hid ((k : Int) % 12 = ((k % 12 : Nat) : Int)) := (by omega : (k : Int) % 12 = ((k % 12 : Nat) : Int))
            clear hte
            go_wp2
            rw [HM.out]
            go_meet
            exact ⟨k % 12, HS.out⟩
        case rest =>
          obtain ⟨kk, hty⟩ := hcut
          obtain ⟨wy, hwy⟩ : ∃ x, x = wc := ⟨_, rfl⟩
          subst hwy
          clear hte hxb x1 x3 f1
          have y0 := cell_of_row wy _ 0 _ _ _ hty.blk
          simp at y0
          have hpk := pickN_lt what 8 (by omega)
          go_upto_block 2 with (go_at_call 20; refine (pick_any what 8 (by omega) (by omega) _).mono ?_; rintro e w0 ⟨rfl, rfl⟩)
          generalize pickN what 8 = pk at *
          go_cut [10, 11, 12, 13, 14, 15, 16, 17, 18, 19, 20, 21, 22, 23, 24, 25, 26] from 82 to 197 (fun ok _ _ _ _ _ _ _ _ _ _ _ _ _ _ _ _ wc => ok = .bool true ∧ ∃ es' F' R', TP w wc nb nb rb most es' es' F' R')
          case first => as_aux_lemma =>
            have y1 := cell_of_row wy _ 1 _ _ _ hty.blk
            have y2 := cell_of_row wy _ 2 _ _ _ hty.blk
            simp at y1 y2
            have HY : Hid (∀ W, TE w W nb nb rb most es es xb (stO what kk vv near) → W.cell? ⟨xb, 1, none⟩ = some (.int .u64 (kk : Int))) := fun W h => cell_of_row W xb 1 _ _ _ h.blk
            by_cases hp3 : pk = 3
            · subst hp3
              go_wp2_with (first
                | (go_at_call 21; refine (tgetl kk hty).mono ?_; rintro e w5 ⟨rfl, q5, rfl⟩; rw [ovV_pair]; have ht5 := hty.drewN q5; clear hty y0 y1 y2; generalize wy.drewN q5 = w5 at *; have z1 := HY.out w5 ht5)
                | (go_at_call 22; refine (tgetr kk ht5).mono ?_; rintro e w6 ⟨rfl, q6, rfl⟩; rw [ovV_pair]; have ht6 := ht5.drewN q6; clear ht5 z1; generalize w5.drewN q6 = w6 at *))
              go_meet
              obtain ⟨F', R', h⟩ := ht6.tp
              exact ⟨by simp, es, F', R', h⟩
            · by_cases hp4 : pk = 4
              · subst hp4
                have htd := hty.below ((Below.refl wy.heap.size wy).drew)
                have q0 : SB wy.drew xb (stO what kk vv near) := htd.blk
                have K1 : ∀ W, SB W xb (stO what kk vv near) → W.cell? ⟨xb, 1, none⟩ = some (.int .u64 (kk : Int)) := fun W h => cell_of_row W xb 1 _ _ _ h
                have K2 : ∀ W, SB W xb (stO what kk vv near) → W.cell? ⟨xb, 2, none⟩ = some (.int .i64 vv) := fun W h => cell_of_row W xb 2 _ _ _ h
                clear hty y0 y1 y2 HY
                go_wp2
                go_region_held (fun W => SB W xb (stO what kk vv near)) (assumption) (first
                  | (go_at_call 23; refine (tdropl kk htd).mono ?_; rintro e w5 ⟨rfl, ht5⟩; have q5 : SB w5 xb (stO what kk vv near) := ht5.blk)
                  | (go_at_call 24; refine (tdropr kk ht5).mono ?_; rintro e w6 ⟨rfl, ht6⟩; have q6 : SB w6 xb (stO what kk vv near) := ht6.blk))
                all_goals
                  clear K1 K2 q0 q5 q6 htd ht5
                  go_wp2
                  go_meet
                  obtain ⟨F', R', h⟩ := ht6.tp
                  exact ⟨by simp, _, F', R', h⟩
              · by_cases hp5 : pk = 5
                · subst hp5
                  go_wp2_with (first
                    | (go_at_call 25; refine (tnextl kk hty).mono ?_; rintro e w5 ⟨rfl, q5, rfl⟩; rw [okV_pair]; have ht5 := hty.drewN q5; clear hty y0 y1 y2; generalize wy.drewN q5 = w5 at *; have z1 := HY.out w5 ht5)
                    | (go_at_call 26; refine (tnextr kk ht5).mono ?_; rintro e _ ⟨rfl, rfl⟩; rw [okV_pair]; have ht6 := ht5; clear ht5))
                  go_meet
                  obtain ⟨F', R', h⟩ := ht6.tp
                  exact ⟨by simp, es, F', R', h⟩
                · by_cases hp6 : pk = 6
                  · subst hp6
                    go_wp2_with (first
                      | (go_at_call 27; refine (tafterl kk hty).mono ?_; rintro e w5 ⟨rfl, q5, rfl⟩; rw [okV_pair]; have ht5 := hty.drewN q5; clear hty y0 y1 y2; generalize wy.drewN q5 = w5 at *; have z1 := HY.out w5 ht5)
                      | (go_at_call 28; refine (tafterr kk ht5).mono ?_; rintro e _ ⟨rfl, rfl⟩; rw [okV_pair]; have ht6 := ht5; clear ht5))
                    go_meet
                    obtain ⟨F', R', h⟩ := ht6.tp
                    exact ⟨by simp, es, F', R', h⟩
                  · by_cases hp7 : pk = 7
                    · subst hp7
                      go_wp2_with (first
                        | (go_at_call 29; refine (tfirstl hty).mono ?_; rintro e _ ⟨rfl, rfl⟩; rw [okV_pair]; have ht5 := hty; clear hty)
                        | (go_at_call 30; refine (tfirstr ht5).mono ?_; rintro e _ ⟨rfl, rfl⟩; rw [okV_pair]; have ht6 := ht5; clear ht5))
                      go_meet
                      obtain ⟨F', R', h⟩ := ht6.tp
                      exact ⟨by simp, es, F', R', h⟩
                    · have e3 : ((pk : Int) == 3) = false := by rw [beq_eq_false_iff_ne]; omega
                      have e4 : ((pk : Int) == 4) = false := by rw [beq_eq_false_iff_ne]; omega
                      have e5 : ((pk : Int) == 5) = false := by rw [beq_eq_false_iff_ne]; omega
                      have e6 : ((pk : Int) == 6) = false := by rw [beq_eq_false_iff_ne]; omega
                      have e7 : ((pk : Int) == 7) = false := by rw [beq_eq_false_iff_ne]; omega
                      have htd := hty.below ((Below.refl wy.heap.size wy).drew)
                      have q0 : SB wy.drew xb (stO what kk vv near) := htd.blk
                      have K1 : ∀ W, SB W xb (stO what kk vv near) → W.cell? ⟨xb, 1, none⟩ = some (.int .u64 (kk : Int)) := fun W h => cell_of_row W xb 1 _ _ _ h
                      have K2 : ∀ W, SB W xb (stO what kk vv near) → W.cell? ⟨xb, 2, none⟩ = some (.int .i64 vv) := fun W h => cell_of_row W xb 2 _ _ _ h
                      clear hty y0 y1 y2 HY
                      go_wp2
                      go_region_held (fun W => SB W xb (stO what kk vv near)) (assumption) (first
                        | (go_at_call 31; refine (tputl kk vv htd).mono ?_; rintro e w5 ⟨rfl, ht5⟩; have q5 : SB w5 xb (stO what kk vv near) := ht5.blk)
                        | (go_at_call 32; refine (tputr kk vv ht5).mono ?_; rintro e w6 ⟨rfl, ht6⟩; have q6 : SB w6 xb (stO what kk vv near) := ht6.blk))
                      all_goals
                        clear K1 K2 q0 q5 q6 htd ht5
                        go_wp2
                        go_meet
                        obtain ⟨F', R', h⟩ := ht6.tp
                        exact ⟨by simp, _, F', R', h⟩
          case rest =>
            obtain ⟨rfl, es', F', R', ht'⟩ := hcut
            obtain ⟨wz, hwz⟩ : ∃ x, x = wc := ⟨_, rfl⟩
            subst hwz
            clear hty y0
            obtain ⟨kr, vr, hx⟩ := ht'.r.tx
            have r1 := hx.c1
            obtain ⟨ro, rc, hkr, _, _, _⟩ := own_slice hx.ko
            subst hkr
            clear hx
            go_wp2
            go_quiet ((go_at_call 33; exact Calls.quiet_of_same ((lenUI_any nb most es' F' _ (ht'.l.below (below_drewN _ _))).mono (fun e w' h => ⟨h.1, h.2.symm⟩))))
            have htd := ht'.below (below_drewN wz nq)
            clear r1 ht'
            go_wp2
            refine ⟨⟨j + 1, es', F', R', by omega, by go_num, htd⟩, ?_⟩
            simp [intOf]; omega
      · by_cases hj1 : (j : Int) < (l.length : Int)
        · have hj2 : ¬ ((j : Int) < 600) := by omega
          go_wp2
          go_meet
          exact ⟨es, F, R, ht⟩
        · go_wp2
          go_meet
          exact ⟨es, F, R, ht⟩
  case rest => as_aux_lemma =>
    obtain ⟨es, F, R, ht⟩ := hcut
    obtain ⟨wz, hwz⟩ : ∃ x, x = wc := ⟨_, rfl⟩
    subst hwz
    clear hT
    have hle := ht.l.le
    have HSR : Hid _ := hidden ht.l.srt
    have hzs := ht.size
    go_wp2_with fail
    refine (keysUI_any nb most es F wz ht.l).mono ?_
    rintro e w5 ⟨rfl, hg5, hb5⟩
    have hFz := ht.l.lt'
    have hRz := ht.r.lt'
    have hte : TE w w5 nb nb rb most es es wz.heap.size (.cells (es.map (fun e => kfU e.1)).toArray 42 (0, 0)) := ⟨F, R, ht.below hb5, hg5, fun h => by have := hFz _ h; omega, fun h => by have := hRz _ h; omega⟩
    have hgB : nb ≤ wz.heap.size := by omega
    clear ht hg5 hb5 hFz hRz hzs
    generalize wz.heap.size = g at *
    have hgi : Hid (gI es 0 = es.map (fun e => kfU e.1)) := (by simp [gI] : gI es 0 = es.map (fun e => kfU e.1))
    rw [← hgi.out] at hte
    clear hgi
    go_wp2
    go_loopw [28, 29, 30] (fun i _ _ wr => ∃ j : Nat, j ≤ es.length ∧ i = .int .i64 (j : Int) ∧ TE w wr nb nb rb most es es g (.cells (gI es j).toArray 42 (0, 0))) (fun i _ _ _ => es.length - (intOf i).toNat)
    case atStart => exact ⟨0, Nat.zero_le _, rfl, hte⟩
    case round =>
      clear hte
      obtain ⟨j, hj, rfl, hte⟩ := hrel
      obtain ⟨F, R, ht, hgb, hgF, hgR⟩ := hte
      obtain ⟨kr, vr, hx⟩ := ht.r.tx
      have r1 := hx.c1
      have r2 := hx.c2
      obtain ⟨ro, rc, hkr, _, _, _⟩ := own_slice hx.ko
      subst hkr
      obtain ⟨so, sc, hvr, _, _, _⟩ := own_slice hx.vo
      subst hvr
      by_cases hlt : j < es.length
      · have hj0 : (j : Int) < (es.length : Int) := by omega
        obtain ⟨gk, hro, hck⟩ := rowKUI hx.ko (by intro e; have := keysE_len es; rw [e] at this; simp at this; omega)
        obtain ⟨gv, hso, hgvw, hcv, _⟩ := rowVUI hx.vo j hlt
        subst hro
        subst hso
        have ck := hck j (by rw [keysE_len]; exact hlt)
        have hkj : (keysE es)[j]'(by rw [keysE_len]; exact hlt) = es[j].1 := by simp [keysE]
        rw [hkj] at ck
        unfold kfU at ck
        have cg := cell_of_row wr g j _ _ _ hgb
        have hga := gI_at es j hlt
        rw [hga] at cg
        have fg := frozen_of_row wr g j _ _ hgb
        have hget : getE ltN es es[j].1 = some es[j].2 := (getE_memN es HSR.out es[j].1 es[j].2).2 (List.getElem_mem hlt)
        have HG : Hid (ovVUI (getE ltN es es[j].1) = .tuple #[.int .i64 es[j].2, .bool true]) := (by rw [hget]; rfl : ovVUI (getE ltN es es[j].1) = .tuple #[.int .i64 es[j].2, .bool true])
        have HGI : Hid (∀ (W : World), W.heap[g]? = some (.cells (gI es j).toArray 42 (0, 0)) → (W.setCell ⟨g, j, none⟩ (.int .u64 9223372036854775808)).heap[g]? = some (.cells (gI es (j + 1)).toArray 42 (0, 0))) := fun W hW => by
          rw [heap_setCell_same W g j _ _ _ hW]
          congr 2
          rw [List.setIfInBounds_toArray]
          congr 1
          exact gI_set es j hlt
        clear hck hkj hga hget hx
        generalize es[j].1 = key at *
        generalize es[j].2 = val at *
        go_wp2
        go_quiet (fail)
        have htd := ht.below (below_drewN wr nq)
        have hgd : (wr.drewN nq).heap[g]? = _ := hgb
        have r2d : (wr.drewN nq).cell? ⟨rb, 2, none⟩ = _ := r2
        have cgd : (wr.drewN nq).cell? ⟨g, j, none⟩ = _ := cg
        have cvd : (wr.drewN nq).cell? ⟨gv, j, none⟩ = _ := hcv
        have fgd : (wr.drewN nq).frozen? ⟨g, j, none⟩ = _ := fg
        clear ht hgb r1 r2 cg ck hcv fg hgvw
        generalize wr.drewN nq = wq at *
        go_wp2_with fail
        refine (getUI_any nb most es F key wq htd.l).mono ?_
        rintro e w6 ⟨rfl, q6, rfl⟩
        rw [HG.out]
        have ht6 := htd.below (below_drewN wq q6)
        have hg6 : (wq.drewN q6).heap[g]? = _ := hgd
        have r26 : (wq.drewN q6).cell? ⟨rb, 2, none⟩ = _ := r2d
        have cg6 : (wq.drewN q6).cell? ⟨g, j, none⟩ = _ := cgd
        have cv6 : (wq.drewN q6).cell? ⟨gv, j, none⟩ = _ := cvd
        have fg6 : (wq.drewN q6).frozen? ⟨g, j, none⟩ = _ := fgd
        clear htd hgd r2d cgd cvd fgd
        generalize wq.drewN q6 = w6 at *
        go_wp2
        go_roundw
        case rel => exact ⟨j + 1, by omega, by go_num, F, R, ht6.keep (Kept.setCell w6 ⟨g, j, none⟩ _) (fun q hq e => hgF (by have e' : q = g := e; rw [← e']; exact hq)) (fun q hq e => hgR (by have e' : q = g := e; rw [← e']; exact hq)) (fun q e => by have e' : q = g := e; omega), HGI.out w6 hg6, hgF, hgR⟩
        case measure => simp [intOf]; omega
      · have hj0 : ¬ ((j : Int) < (es.length : Int)) := by omega
        have hje : j = es.length := by omega
        have q0 : Below wr.heap.size wr wr.drew := (Below.refl _ _).drew
        have hrb := hx.lt rb hx.fb
        have HC1 : ∀ W, Below wr.heap.size wr W → W.cell? ⟨rb, 1, none⟩ = some (.slice ro es.length rc) := fun W h => (h.cell (p := ⟨rb, 1, none⟩) hrb).trans r1
        have HL : Hid (∀ W, Below wr.heap.size wr W → TBUI W nb most es F) := fun W h => ht.l.below h
        have hbel := ht.bel
        have hbs := ht.size
        subst hje
        by_cases hn0 : es.length = 0
        · clear hx r1 r2 ht hgb hj0 hj
          have HK : Hid (∀ W, Below wr.heap.size wr W → Calls Try.prog 34 #[.pointer (some ⟨nb, 0, none⟩)] W fun e w' => e = .returned (.slice (some ⟨W.heap.size, 0, none⟩) 0 0) ∧ Below wr.heap.size wr w') := fun W h => by
            have q := keysUI_any nb most es F W (HL.out W h)
            rw [hn0] at q
            exact q.mono (fun e w' hq => ⟨hq.1, h.trans (hq.2.2.mono h.size)⟩)
          clear HL
          rw [hn0] at HC1
          rw [hn0]
          --@rows0
          go_upto_region 48 with fail
          refine region48_none wr nb rb g rc ro HC1 HK _ (fun _ _ _ _ _ h => h) _ _ _ _ _ _ _ _ _ _ _ _ _ _ _ _ _ _ _ _ _ _ _ _ _ _ _ _ _ _ _ _ _ _ _ _ _ _ _ _ _ _ _ _ _ _ _ _ _ _ _ _ _ _ _ _ _ _ _ _ _ _ _ _ _ _ _ _ _ _ _ _ _ _ _ _ _ _ _ _ _ _ _ _ _ _ _ _ _ _ _ _ _ _ _ _ _ _ _ _ _ _ _ _ _ _ _ _ _ _ _ _ _ _ _ _ _ _ _ _ _ _ _ _ _ _ _ _ _ _ _ _ _ _ _ _ _ _ _ _ _ _ _ _ _ _ _ _ _ _ _ _ _ _ _ _ _ _ _ _ _ _ _ _ _ _ _ _ _ _ _ _ _ _ _ _ _ _ _ _ _ _ _ _ _ _ _ _ _ _ _ _ _ _ _ _ _ _ _ _ _ _ _ _ _ _ _ _ _ _ _ _ _ _ _ _ _ _ _ _ _ _ _ _ _ _ _ _ _ _ _ _ _ _ _ _ _ _ _ _ _ _ _ _ _ _ _ _ _ _ _ _ _ _ _ _ _ _ _ _ _ _ _ _ _ _ _ _ _ _ _ _ _ _ _ _ _ _ _ _ _ _ _ _ _ _ _ _ _ _ _ _ _ _ _ _ _ _ ?_
          intro _ _ _ _ _ _ _ _ _ _ _ _ _ _ _ _ _ _ _ _ _ _ _ _ _ _ _ _ _ _ _ _ _ _ _ _ _ w9 q9
          go_wp2
          go_ret
          exact ⟨rfl, by rw [hNB]; exact hbel.trans (q9.mono (Nat.le_of_lt hbs))⟩
          --@end0
        · obtain ⟨gk, hro, hck⟩ := rowKUI hx.ko (by intro e; have := keysE_len es; rw [e] at this; simp at this; omega)
          subst hro
          have hkl := keysE_len es
          have ck := hck 0 (by omega)
          have hkk : (keysE es)[0]'(by omega) = es[0].1 := by simp [keysE]
          rw [hkk] at ck
          unfold kfU at ck
          have hgk : gk < wr.heap.size := World.block_lt_of_cell? wr _ ck
          have HC2 : ∀ W, Below wr.heap.size wr W → W.cell? ⟨gk, 0, none⟩ = some (.int .u64 (es[0].1 : Int)) := fun W h => (h.cell (p := ⟨gk, 0, none⟩) hgk).trans ck
          have HK : Hid (∀ W, Below wr.heap.size wr W → Calls Try.prog 34 #[.pointer (some ⟨nb, 0, none⟩)] W fun e w' => e = .returned (.slice (some ⟨W.heap.size, 0, none⟩) es.length es.length) ∧ w'.cell? ⟨W.heap.size, 0, none⟩ = some (.int .u64 (es[0].1 : Int)) ∧ Below wr.heap.size wr w') := fun W h => by
            refine (keysUI_any nb most es F W (HL.out W h)).mono (fun e w' hq => ⟨hq.1, ?_, h.trans (hq.2.2.mono h.size)⟩)
            rw [cell_of_row w' W.heap.size 0 _ _ _ hq.2.1]
            have h0 : 0 < es.length := by omega
            simp [h0, kfU]
          have hni : ¬ ((es.length : Int) = 0) := by omega
          have hn1 : 0 < es.length := by omega
          generalize es[0].1 = key at *
          clear hx r1 r2 ht hgb hj0 hj hck ck hkk hgk hkl HL
          generalize es.length = n at *
          --@rows1
          go_upto_region 48 with fail
          refine region48_some wr nb rb g rc gk key n hn1 HC1 HC2 HK _ (fun _ _ _ _ _ h => h) _ _ _ _ _ _ _ _ _ _ _ _ _ _ _ _ _ _ _ _ _ _ _ _ _ _ _ _ _ _ _ _ _ _ _ _ _ _ _ _ _ _ _ _ _ _ _ _ _ _ _ _ _ _ _ _ _ _ _ _ _ _ _ _ _ _ _ _ _ _ _ _ _ _ _ _ _ _ _ _ _ _ _ _ _ _ _ _ _ _ _ _ _ _ _ _ _ _ _ _ _ _ _ _ _ _ _ _ _ _ _ _ _ _ _ _ _ _ _ _ _ _ _ _ _ _ _ _ _ _ _ _ _ _ _ _ _ _ _ _ _ _ _ _ _ _ _ _ _ _ _ _ _ _ _ _ _ _ _ _ _ _ _ _ _ _ _ _ _ _ _ _ _ _ _ _ _ _ _ _ _ _ _ _ _ _ _ _ _ _ _ _ _ _ _ _ _ _ _ _ _ _ _ _ _ _ _ _ _ _ _ _ _ _ _ _ _ _ _ _ _ _ _ _ _ _ _ _ _ _ _ _ _ _ _ _ _ _ _ _ _ _ _ _ _ _ _ _ _ _ _ _ _ _ _ _ _ _ _ _ _ _ _ _ _ _ _ _ _ _ _ _ _ _ _ _ _ _ _ _ _ _ _ _ _ _ _ _ _ _ _ _ _ _ _ _ _ _ ?_
          intro _ _ _ _ _ _ _ _ _ _ _ _ _ _ _ _ _ _ _ _ _ _ _ _ _ _ _ _ _ _ _ _ _ _ _ _ _ w9 q9
          go_wp2
          go_ret
          exact ⟨rfl, by rw [hNB]; exact hbel.trans (q9.mono (Nat.le_of_lt hbs))⟩
          --@end1

theorem tablePlays_any (n : Int) (l : List StepT) (v : Value) (w : World) (hv : WS w v 4 cStep l) :
    Calls Try.prog 4 #[.int .i64 n, v] w fun e w' => e = .returned (.bool true) ∧ Below w.heap.size w w' := by
  by_cases h : n < 1 ∨ 4096 < n
  · exact tablePlays_no n h v w
  · obtain ⟨M, rfl⟩ : ∃ M : Nat, n = (M : Int) := ⟨n.toNat, by omega⟩
    exact tablePlays_ok M (by omega) (by omega) l v w hv

end Go.Proofs.Ytofpkmionbbmcaa
