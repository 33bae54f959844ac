/- NetMoves: the walk. -/
import Derived.Test.YtibgpbflchfbnaaNtAp
import Derived.Deep.CutRange
import Derived.Deep.RegionHeld
import Derived.Deep.RegionHeldLaw
namespace Go.Proofs.Ytibgpbflchfbnaa
open Go.RowKit

set_option maxRecDepth 20000 in
set_option maxHeartbeats 2000000 in
theorem netMoves_any (v : Value) (ds : List Dg) (k : Int) (m : Nat) (w : World) (hv : Dgs w v ds) (hn : ds.length ≤ 140737488355328) (hm : m = min ds.length 60) :
    Calls Try.prog 7 #[v, .int .i64 k] w fun e w' => e = .returned (.bool true) ∧ Below w.heap.size w w' := by
  obtain ⟨ao, ac, rfl, hac, ha⟩ := id hv
  clear hv
  have hm1 : m ≤ ds.length := by omega
  have hm2 : m ≤ 60 := by omega
  have hm3 : m ≤ ac := by omega
  have hac2 := hac.2
  have HM : Hid (m = min ds.length 60) := hm
  clear hm hac
  go_enter Try.func7, Try.ntmps7
  go_wp2_with fail
  refine (nsnew 256 (by omega) (by omega) w).mono ?_
  rintro e w1 ⟨rfl, hn1, hb1⟩
  have hF1 : ∀ k, (fun k => k = w.heap.size) k → w.heap.size ≤ k := fun k hk => by have e : k = w.heap.size := hk; omega
  go_wp2_with fail
  refine (nknown_any w1).mono ?_
  rintro e w2 ⟨rfl, hb2⟩
  have hn2 := hn1.below hb2
  have hB2 := hb1.trans (hb2.mono hb1.size)
  clear hn1 hb1 hb2
  go_upto_region 4 with fail
  go_cut [0] from 28 to 32 (fun a wc => a = .slice ao m ac ∧ wc = w2)
  case first =>
    by_cases h60 : ds.length ≤ 60
    · have e : m = ds.length := by rw [HM.out]; omega
      subst e
      have h61 : ¬ (60 : Int) < (ds.length : Int) := by omega
      go_wp2
      go_meet
      exact ⟨rfl, rfl⟩
    · have e : m = 60 := by rw [HM.out]; omega
      subst e
      have h61 : ¬ (ds.length : Int) < 60 := by omega
      have h62 : (60 : Int) < (ds.length : Int) := by omega
      go_wp2
      go_meet
      exact ⟨rfl, rfl⟩
  case rest =>
    obtain ⟨rfl, hwc⟩ := hcut
    subst hwc
    go_wp2
    go_loopw [7] (fun i wr => ∃ (j lost : Nat) (es : List Dg) (F : Nat → Prop), j ≤ m ∧ i = .int .i64 (j : Int) ∧ NS wr w.heap.size 256 lost es F ∧ lost ≤ j ∧ es.length ≤ j ∧ (∀ k, F k → w.heap.size ≤ k) ∧ Below w.heap.size w wr) (fun i _ => m - (intOf i).toNat)
    case atStart => exact ⟨0, 0, [], _, Nat.zero_le _, rfl, hn2, Nat.le_refl _, Nat.le_refl _, hF1, hB2⟩
    case round =>
      obtain ⟨j, lost, es, F, hj, rfl, hns, hlo, hes, hF, hbr⟩ := hrel
      clear hn2 hB2 hF1
      by_cases hlt : j < m
      · obtain ⟨blk, off, rfl, hblk, hat⟩ := ha (by intro e; subst e; simp at hm1; omega)
        obtain ⟨a0, a1, x, a2, hx⟩ := (hat j (by omega)).below hbr hblk
        have hj0 : (j : Int) < (m : Int) := by omega
        clear hat ha
        generalize ds[j] = d at *
        obtain ⟨frm, tt, l⟩ := d
        simp only at *
        obtain ⟨xo, xc, rfl⟩ := hx.slice
        go_wp2_with (go_at_call 10; refine (nssend w.heap.size 256 lost es F ⟨frm, tt, l⟩ _ wr hns hx (by omega) (by omega)).mono ?_; rintro e w3 ⟨F3, rfl, hn3, hk3, hg3⟩)
        have hb3 := kept_new hbr hF hk3
        have hF3 := grown_new hbr.size hF hg3
        go_roundw
        case rel =>
          refine ⟨j + 1, _, _, F3, by omega, by go_num, hn3, ?_, ?_, hF3, hb3⟩
          · unfold sendN; split <;> omega
          · unfold sendL; split <;> first | (simp; omega) | omega
        case measure => simp [intOf]; omega
      · clear ha
        by_cases h0 : es.length = 0
        · have he0 : es = [] := List.eq_nil_of_length_eq_zero h0
          subst he0
          have hhas : hasB ([] : List Dg).length k = false := decide_eq_false (by simp)
          go_wp2_with (first
            | (go_at_call 13; refine (nsall w.heap.size 256 lost [] F wr hns (by omega)).mono ?_; rintro e w3 ⟨v3, g, rs, rfl, hm3', hd3, hb3⟩; have hl3 := fst_len hm3'; have hv3 := hd3.val; rw [hl3] at hv3; subst hv3)
            | (go_at_call 11; refine (nstake w.heap.size 256 lost [] F k w3 (hns.below hb3) (by omega)).mono ?_; rintro e w4 ⟨v4, rfl, ho4, hn4, hk4⟩; rw [hhas]; obtain ⟨qo, qc, hqe⟩ := ho4.bs.slice; subst hqe))
          go_ret
          exact ⟨rfl, (kept_new (hbr.trans (hb3.mono hbr.size)) hF hk4).alloc (by have := (kept_new (hbr.trans (hb3.mono hbr.size)) hF hk4).size; omega) _⟩
        · have hpos : 0 < es.length := by omega
          have hplt := pickN_lt k es.length hpos
          have hp0 : (pickN k es.length : Int) < (es.length : Int) := by omega
          have hsml := hns.small
          go_upto_region 15 with (first
            | (go_at_call 13; refine (nsall w.heap.size 256 lost es F wr hns (by omega)).mono ?_; rintro e w3 ⟨v3, g, rs, rfl, hm3', hd3, hb3⟩; have hl3 := fst_len hm3'; have hv3 := hd3.val; rw [hl3] at hv3; subst hv3)
            | (go_at_call 14; refine (pick_any k es.length hpos (by omega) _).mono ?_; rintro e w4 ⟨rfl, rfl⟩)
            | (go_at_call 11; refine (nstake w.heap.size 256 lost es F (pickN k es.length : Int) w3 (hns.below hb3) (by omega)).mono ?_; rintro e w4 ⟨v4, rfl, ho4, hn4, hk4⟩; obtain ⟨qo, qc, hqe⟩ := ho4.bs.slice; subst hqe))
          have hFlt : ∀ k, F k → k < wr.heap.size := hns.lt
          have hbW4 := kept_new (hbr.trans (hb3.mono hbr.size)) hF hk4
          have hd4 := hd3.keep hk4 hFlt
          have hn5 := hn4
          obtain ⟨pd, hpd⟩ : ∃ pd, pd = peekD es (pickN k es.length : Int) := ⟨_, rfl⟩
          obtain ⟨tl, htl⟩ : ∃ tl, tl = takeL es (pickN k es.length : Int) := ⟨_, rfl⟩
          rw [← htl] at hn5
          have ho4b := ho4.bs
          simp only [← hpd] at ho4b
          simp only [← hpd]
          have hA : Below w4.heap.size w4 (w4.alloc (.cells #[.int .i64 pd.frm, .int .i64 pd.to, .slice qo pd.b.length qc] 30)) := (Below.refl _ _).alloc (Nat.le_refl _) _
          have hx5 := heap_alloc_new w4 (.cells #[.int .i64 pd.frm, .int .i64 pd.to, .slice qo pd.b.length qc] 30)
          have hd5 := hd4.below hA
          have hn5' := hn5.below hA
          have hs5 := ho4b.below hA
          have hB5 := hbW4.trans (hA.mono hbW4.size)
          have hs54 : w4.heap.size < (w4.alloc (.cells #[.int .i64 pd.frm, .int .i64 pd.to, .slice qo pd.b.length qc] 30)).heap.size := by simp
          generalize w4.alloc (.cells #[.int .i64 pd.frm, .int .i64 pd.to, .slice qo pd.b.length qc] 30) = w5 at *
          have hhas : hasB es.length (pickN k es.length : Int) = true := decide_eq_true ⟨by omega, by omega⟩
          have hpe : Hid (es[pickN k es.length]? = some pd) := by
            show _ = _
            rw [hpd]; unfold peekD; rw [if_pos hhas]; simp [List.getD_eq_getElem?_getD, hplt]
          have htl' : Hid (tl = es.eraseIdx (pickN k es.length)) := by rw [htl]; unfold takeL; rw [if_pos hhas]; simp [Hid]
          have hmap : Hid (rs.map Prod.fst = es) := hm3'
          have hesl : Hid (es.length ≤ 60) := by show _ ≤ _; omega
          rw [hhas]
          clear hk4 ho4 ho4b hd4 hn4 hn5 hA hb3 hd3 hbW4 hpd htl hhas hm3' hns hbr hFlt
          generalize hP : pickN k es.length = P at *
          generalize hN : es.length = N at *
          obtain ⟨J, hJ⟩ : ∃ J, J = P + 1 := ⟨_, rfl⟩
          have hJN : J ≤ N := by omega
          obtain ⟨A, hAe, hAo⟩ : ∃ o : Nat, (if N = J then some (⟨g, 0, none⟩ : Addr) else some ⟨g, J * 3, none⟩) = some ⟨g, o, none⟩ ∧ (o = J * 3 ∨ N - J = 0) := by
            by_cases h : N = J
            · exact ⟨0, by simp [h], Or.inr (by omega)⟩
            · exact ⟨J * 3, by simp [h], Or.inl rfl⟩
          have hr1 := hd5.part 0 P N 0 (Or.inl rfl) (by omega)
          have hr2 := hd5.part J (N - J) (N - J) A hAo (by omega)
          have hD : Below w5.heap.size w5 w5.drew := (Below.refl _ _).drew
          have hE : ∀ o, Below w5.heap.size w5 (w5.alloc o).drew := fun o => ((Below.refl _ _).alloc (Nat.le_refl _) o).drew
          have hPN : P ≤ N := by omega
          have hEn : ∀ o, (w5.alloc o).drew.heap[w5.heap.size]? = some o := fun o => heap_alloc_new w5 o
          have hJ2 : ((P : Int) + 1) = (J : Int) := by omega
          have hJ3 : (J : Int) ≤ (N : Int) := by omega
          have HJ : Hid (J = P + 1) := hJ
          have hJw : IntKind.i64.wrap (J : Int) = (J : Int) := by have := hesl.out; rw [IntKind.wrap_i64]; omega
          clear hJ hAo
          go_cut [13] from 68 to 77 (fun a wc => Dgs wc a tl ∧ Below w5.heap.size w5 wc)
          case first =>
            go_region_law (first
              | (refine step_append_row rfl (.tmp 68) (.tmp 71) rfl w5.heap.size (.slice (some ⟨w5.heap.size, 0, none⟩) 0 0) 0 [] rfl (own_none3 (hEn _)) _ P _ rfl (hr1.below (hE _)) (by have := hesl.out; omega) (by simp [World.drew]) ?_; intro v6 w6 ho6 hk6 hm6; have hB6 : Below w5.heap.size w5 w6 := (hE _).trans (hk6.below (by simp [World.drew]) (fun i hi e => by simp [Value.ownBlock] at e; omega)); obtain ⟨ao6, n6, c6, hv6⟩ := own_form3 ho6; subst hv6)
              | (refine step_append_row rfl (.tmp 72) (.tmp 76) rfl w5.heap.size (.slice ao6 n6 c6) _ _ rfl ho6 _ (N - J) _ rfl (hr2.below hB6) (by have := hesl.out; omega) (by have := hB6.size; omega) ?_; intro v7 w7 ho7 hk7 hm7))
            have hB7 : Below w5.heap.size w5 w7 := hB6.trans (hk7.below hB6.size (fun i hi e => by have := (own_base3 ho6 i e); omega))
            have hmm : (rs.take P ++ rs.drop J).map Prod.fst = tl := by rw [htl'.out, List.eraseIdx_eq_take_drop_succ, ← HJ.out, List.map_append, List.map_take, List.map_drop, hmap.out]
            have ho7' : w7.ownsRow w5.heap.size 30 3 v7 (P + (N - J)) ((rs.take P ++ rs.drop J).flatMap dgCells) := by
              have e1 : (rs.drop 0).take P = rs.take P := by simp
              have e2 : (rs.drop J).take (N - J) = rs.drop J := List.take_of_length_le (by simp; omega)
              rw [e1, e2, List.nil_append, ← List.flatMap_append, Nat.zero_add] at ho7
              exact ho7
            have hq : Dgs w7 v7 tl := Dgs.ofOwns ho7' (by rw [← hmm]; simp; omega) hmm (fun r hr => (hd5.rbs r (by
              rcases List.mem_append.1 hr with h5 | h5
              · exact List.mem_of_mem_take h5
              · exact List.mem_of_mem_drop h5)).below hB7)
            clear ho7 hk7 hm7 ho7' hmm ho6 hk6 hm6 hB6
            go_wp2
            go_meet
            exact ⟨hq, hB7⟩
          case rest =>
            obtain ⟨hdg, hbc⟩ := hcut
            obtain ⟨w8, hw8⟩ : ∃ x, x = wc := ⟨_, rfl⟩
            subst hw8
            have hx8 := (hbc.block _ hs54).trans hx5
            have lt8 : w4.heap.size < w8.heap.size := by have := hbc.size; omega
            have hn8 := hn5'.below hbc
            have hs8 := hs5.below hbc
            have hB8 := hB5.trans (hbc.mono hB5.size)
            obtain ⟨ao', cap', e', hcx', hx'⟩ := (hd5.below hbc).dgs hmap.out
            simp only [Value.slice.injEq] at e'
            obtain ⟨ea, el, ec⟩ := e'
            clear el ec hcx'
            have hPl : P < es.length := by omega
            obtain ⟨blk, off, eb, hlt9, hat⟩ := hx' (by intro e; rw [e] at hPl; simp at hPl)
            rw [← ea] at eb
            simp only [Option.some.injEq, Addr.mk.injEq, and_true] at eb
            obtain ⟨rfl, rfl⟩ := eb
            have hPe : es[P] = pd := by
              have := hpe.out
              rw [List.getElem?_eq_getElem hPl] at this
              exact Option.some.inj this
            obtain ⟨b0, b1, x, b2, hx⟩ := hat P hPl
            rw [hPe] at b0 b1 hx
            simp only [Nat.zero_add] at b0 b1 b2
            have hbF : ∀ k, F k → w.heap.size ≤ k := hF
            have hdgs := hdg
            have C0 : ∀ W, Below w8.heap.size w8 W → W.cell? ⟨w4.heap.size, 0, none⟩ = some (.int .i64 pd.frm) := fun W h => (h.cell (p := ⟨w4.heap.size, 0, none⟩) lt8).trans (cell_of_row _ _ 0 _ _ _ hx8)
            have C1 : ∀ W, Below w8.heap.size w8 W → W.cell? ⟨w4.heap.size, 1, none⟩ = some (.int .i64 pd.to) := fun W h => (h.cell (p := ⟨w4.heap.size, 1, none⟩) lt8).trans (cell_of_row _ _ 1 _ _ _ hx8)
            have C2 : ∀ W, Below w8.heap.size w8 W → W.cell? ⟨w4.heap.size, 2, none⟩ = some (.slice qo pd.b.length qc) := fun W h => (h.cell (p := ⟨w4.heap.size, 2, none⟩) lt8).trans (cell_of_row _ _ 2 _ _ _ hx8)
            have D0 : ∀ W, Below w8.heap.size w8 W → W.cell? ⟨g, P * 3, none⟩ = some (.int .i64 pd.frm) := fun W h => (h.cell (p := ⟨g, P * 3, none⟩) hlt9).trans b0
            have D1 : ∀ W, Below w8.heap.size w8 W → W.cell? ⟨g, P * 3 + 1, none⟩ = some (.int .i64 pd.to) := fun W h => (h.cell (p := ⟨g, P * 3 + 1, none⟩) hlt9).trans b1
            have D2 : ∀ W, Below w8.heap.size w8 W → W.cell? ⟨g, P * 3 + 2, none⟩ = some x := fun W h => (h.cell (p := ⟨g, P * 3 + 2, none⟩) hlt9).trans b2
            obtain ⟨xo, xc, hxe⟩ := hx.slice
            subst hxe
            have q0 : Below w8.heap.size w8 w8.drew := (Below.refl _ _).drew
            obtain ⟨ro, rc, hre, hrr⟩ := id hdg
            clear hrr
            subst hre
            clear hl3 hP hJ2 hJ3 hJN hPN HJ hat hx' b0 b1 b2 hx5 hx8 hd5 hn5' hs5 hB5 hbc hdg hr1 hr2 hD hE hEn hAe hJw hPe hpe hsml hmap htl' ea
            go_wp2
            go_region_held (fun W => Below w8.heap.size w8 W) (assumption) (first
              | (go_at_call 16; refine (same_same pd _ _ _ (hs8.below q0) (hx.below q0)).mono ?_; rintro e w9 ⟨rfl, hb9⟩; have q9 : Below w8.heap.size w8 w9 := q0.trans (hb9.mono q0.size))
              | (go_at_call 13; refine (nsall w.heap.size 256 lost tl F _ (hn8.below q9) (by omega)).mono ?_; rintro e w10 ⟨v10, g10, rs10, rfl, hm10, hd10, hb10⟩; have q10 : Below w8.heap.size w8 w10 := q9.trans (hb10.mono q9.size))
              | (go_at_call 24; refine (datagrams_same _ _ tl _ (hd10.dgs hm10) (hdgs.below q10) (by have := hn8.le; omega)).mono ?_; rintro e w11 ⟨rfl, hb11⟩; have q11 : Below w8.heap.size w8 w11 := q10.trans (hb11.mono q10.size)))
            all_goals
              go_wp2
              go_ret
              exact ⟨rfl, hB8.trans (q11.mono hB8.size)⟩

end Go.Proofs.Ytibgpbflchfbnaa
