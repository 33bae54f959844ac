/- ArenaApart, walked (made by tools/mkap.py). -/
import Derived.Test.YtolgncehfblpbaaDoorArAq
import Derived.Deep.QuietTactic
import Derived.BigQuiet
namespace Go.Proofs.YtolgncehfblpbaaDoor
open Go.RowKit

theorem at_fit {bs : List Bk} {c : Nat} (hO : AO bs) (h : atB bs (c : Int) ≠ 0) : c + atB bs (c : Int) ≤ 16 * bs.length := by
  obtain ⟨_, hm, hc0, hcls, hrem, _⟩ := atB_some h
  simp only [Int.toNat_natCast] at hm hc0 hcls hrem
  have hIs : IsC bs[c / 16].c := by
    rcases hO _ (List.getElem_mem hm) with ⟨h, _⟩ | ⟨h, _⟩
    · exact absurd h hc0
    · exact h
  have hin := div_cls hIs (Nat.mod_lt c (by decide)) hrem
  have hmc := mul_cls hIs hin.1
  rw [← hin.2] at hmc
  rw [hcls]
  omega

set_option maxRecDepth 20000 in
set_option maxHeartbeats 4000000 in
theorem arenaApart_any (nb : Int) (xs ys : List Int) (v vo : Value) (w : World) (hT : TB w) (hv : WS w v 1 cInt xs) (hvo : WS w vo 1 cInt ys) :
    Calls Tryd.prog 6 #[.int .i64 nb, v, vo] w fun e w' => e = .returned (.bool true) ∧ Below w.heap.size w w' := by
  obtain ⟨ao, cap, rfl, _, _⟩ := hv.slice
  obtain ⟨bo, bcap, rfl, _, _⟩ := hvo.slice
  obtain ⟨i0, hi0, hz0, hz1, hz2⟩ := info_parts Tryd.infoInt
  have hP := pickN_lt nb 12 (by omega)
  obtain ⟨N, hN⟩ : ∃ N, N = 1 + pickN nb 12 := ⟨_, rfl⟩
  have hNi : (1 : Int) + (pickN nb 12 : Int) = (N : Int) := by omega
  have hN1 : 1 ≤ N := by omega
  have hN2 : N ≤ 12 := by omega
  clear hN hP
  obtain ⟨L, hL⟩ : ∃ L, L = 16 * N := ⟨_, rfl⟩
  have hLi : (16 : Int) * (N : Int) = (L : Int) := by omega
  have hL2 : L ≤ 192 := by omega
  have hNew : ∀ w, TB w → Calls Tryd.prog 9 #[.int .i64 (L : Int)] w fun e w' => e = .returned (.tuple #[.pointer (some ⟨w.heap.size, 0, none⟩), .int .i64 0]) ∧ AR w' w.heap.size (List.replicate N bk0) ∧ Below w.heap.size w w' := fun w h => by
    rw [hL]
    exact new_ok N hN1 (by omega) w h
  have HLN : Hid (L = 16 * N) := hL
  clear hL
  go_enter Tryd.func6, Tryd.ntmps6
  go_wp2_with fail
  refine (pick_any nb 12 (by omega) (by omega) _).mono ?_
  rintro e _ ⟨rfl, rfl⟩
  go_wp2_with fail
  refine (hNew _ hT).mono ?_
  rintro e w1 ⟨rfl, h1, hb1⟩
  clear hNew
  generalize hG : w.heap.size = g at *
  have hs1 := AS.new h1 hb1
  clear h1 hb1
  go_wp2_with fail
  refine (known_any _ hs1.ar.tb).mono ?_
  rintro e w2 ⟨rfl, hb2⟩
  have hs2 := hs1.read hb2
  clear hb2 hs1
  have hg2 := hs2.ar.lt
  generalize hO2 : w2.heap.size = o at *
  go_upto_block 0 with (at_make; refine wpList_make_row _ rfl _ _ 29 rfl 3 i0 _ Tryd.underlying29 hi0 hz0 hz1 rfl _ _ _ _ L rfl rfl rfl rfl (by rw [hz2]; omega) (by unfold maxLen; omega) ?_; rw [hO2]; intro w3 hg3 hb3 hlt3; have hM3 : AM w w3 g N (List.replicate N bk0) o (List.replicate L 0) (.slice none 0 0) (.slice none 0 0) [] [] := ⟨hs2.read (by rw [hO2]; exact hb3), hg2, by { unfold Row; rw [List.map_replicate]; exact hg3 }, Ow.nil _ _, Ow.nil _ _, fun k hk => by simp [Value.ownBlock] at hk⟩)
  have hB3 : AB N (List.replicate N bk0) (List.replicate L 0) [] := by
    have h := AB.new N
    rw [← HLN.out] at h
    exact h
  clear hs2 hg3 hb3 hlt3 hO2 hz0 hz1 hz2 hi0
  go_wp2
  go_loopw [10, 11, 12] (fun va vf i wr => ∃ (k : Nat) (bs : List Bk) (ow : List Nat) (ps : List (Nat × Nat)), i = .int .i64 (k : Int) ∧ k ≤ 300 ∧ ps.length ≤ k ∧ AB N bs ow ps ∧ AM w wr g N bs o ow va vf (ps.map Prod.fst) (ps.map Prod.snd)) (fun _ _ i _ => 300 - (intOf i).toNat)
  case atStart => exact ⟨0, _, _, [], rfl, by omega, by simp, hB3, hM3⟩
  case round =>
    clear hB3 hM3
    obtain ⟨k, bs, ow, ps, rfl, hk, hps, hB, hM⟩ := hrel
    by_cases hlt : k < xs.length ∧ k < 300
    · obtain ⟨hlt, h300⟩ := hlt
      have hk0 : (k : Int) < (xs.length : Int) := by omega
      have hk5 : (k : Int) < 300 := by omega
      obtain ⟨b, off, hao, hbl, hc⟩ := (hv.below (by rw [hG]; exact hM.s.bel)).c1 (g := Value.int .i64) (fun _ => rfl) k hlt
      subst hao
      have hp16 := pickN_lt xs[k] 16 (by omega)
      generalize xs[k] = x at *
      obtain ⟨s, hs⟩ : ∃ s, s = 1 + pickN x 16 := ⟨_, rfl⟩
      have hsi : (1 : Int) + (pickN x 16 : Int) = (s : Int) := by omega
      have hs1 : 1 ≤ s := by omega
      have hs16 : s ≤ 16 := by omega
      clear hs
      have hA := fun wr (h : AS w wr g N bs) => h.alloc (s : Int)
      have hcl := classN_is (s := (s : Int)) (by omega) (by omega)
      have HC : Hid (((allocR bs s).2 = 0 ∧ Got bs (allocL bs s) (allocR bs s).1 (classN s)) ∨ ((allocR bs s).2 = 2 ∧ allocL bs s = bs)) := by
        have e : ((allocR bs s).2 = 0 ∧ Got bs (allocL bs s) (allocR bs s).1 (classN s)) ∨ ((allocR bs s).2 = 2 ∧ allocL bs s = bs) := by
          rcases allocR_err (bs := bs) (s := (s : Int)) (by omega) (by omega) with hE | h
          · exact Or.inl ⟨hE, alloc_spec (s := (s : Int)) hM.s.ok (by omega) (by omega) hE⟩
          · exact Or.inr h
        exact e
      have hAt := fun wr (h : AS w wr g N (allocL bs s)) => h.at ((allocR bs s).1 : Int)
      have hc16 : classN s ≤ 16 := hcl.1.le
      have hsc : s ≤ classN s := by omega
      clear hcl
      generalize (allocR bs s).1 = c at *
      generalize (allocR bs s).2 = e at *
      generalize allocL bs s = bs' at *
      generalize classN s = kk at *
      go_upto_region 12 with (first
        | (go_at_call 20; refine (pick_any x 16 (by omega) (by omega) _).mono ?_; rintro e _ ⟨rfl, rfl⟩)
        | (go_at_call 11; refine (hA _ hM.s).mono ?_; clear hA; rintro e w4 ⟨rfl, hs4, hk4⟩; have hM4 := hM.arena hs4 hk4; clear hs4 hk4))
      go_cut [68] from 63 to 68 (fun t wc => t = .bool false ∧ wc = w4)
      case first =>
        rcases HC.out with ⟨rfl, _⟩ | ⟨rfl, _⟩
        · go_wp2
          go_meet
          exact ⟨rfl, rfl⟩
        · go_wp2
          go_meet
          exact ⟨rfl, rfl⟩
      case rest =>
        obtain ⟨rfl, hwc⟩ := hcut
        subst hwc
        go_upto_if 70 with fail
        go_cut [10, 11, 16] from 41 to 203 (fun va vf _ wc => ∃ (ow : List Nat) (ps' : List (Nat × Nat)), ps'.length ≤ k + 1 ∧ AB N bs' ow ps' ∧ AM w wc g N bs' o ow va vf (ps'.map Prod.fst) (ps'.map Prod.snd))
        case first =>
          rcases HC.out with ⟨rfl, hGot⟩ | ⟨rfl, hbs⟩
          · have hfit := hGot.fit
            have hblk := hGot.blk
            rw [hM.s.len, ← HLN.out] at hfit
            rw [hGot.is] at hAt
            have HGot : Hid (Got bs bs' c kk) := hGot
            clear hGot HC
            have hcs : (c : Int) + (s : Int) ≤ (L : Int) := by omega
            have hcd : (c : Int) / 16 = ((c : Int) + (s : Int) - 1) / 16 := by omega
            have hcd' : ((c : Int) / 16 != ((c : Int) + (s : Int) - 1) / 16) = false := by rw [← hcd]; simp
            have hkk : (s : Int) ≤ (kk : Int) := by omega
            clear hcd
            go_wp2_with (go_at_call 17; refine (hAt _ hM4.s).mono ?_; clear hAt; rintro e w5 ⟨rfl, hs5, hb5⟩; have hM5 := hM4.read hb5)
            go_loopw [16] (fun jv wr => ∃ (j : Nat) (ow3 : List Nat), jv = .int .i64 (j : Int) ∧ c ≤ j ∧ j ≤ c + s ∧ ow3.length = ow.length ∧ (∀ i, ¬ (c ≤ i ∧ i < j) → ow3[i]? = ow[i]?) ∧ AM w wr g N bs' o ow3 _ _ (ps.map Prod.fst) (ps.map Prod.snd)) (fun jv _ => c + s - (intOf jv).toNat)
            case atStart => exact ⟨c, ow, rfl, Nat.le_refl _, by omega, rfl, fun _ _ => rfl, hM5⟩
            case round =>
              obtain ⟨j, ow3, rfl, hj1, hj2, hl3, hw3, hM6⟩ := hrel
              have HW3 : Hid (∀ i, ¬ (c ≤ i ∧ i < j) → ow3[i]? = ow[i]?) := hw3
              have HL3 : Hid (ow3.length = ow.length) := hl3
              have HLe : Hid (ow.length = L) := by
                have e : ow.length = L := by rw [hB.len]; exact HLN.out.symm
                exact e
              clear hw3 hl3 hM4 hM5 hs5 hb5
              by_cases hjc : j < c + s
              · have hji : (j : Int) < (c : Int) + (s : Int) := by omega
                have hjL : j < ow3.length := by rw [HL3.out, HLe.out]; omega
                have hjLi : (j : Int) < (L : Int) := by have := HLe.out; have := HL3.out; omega
                obtain ⟨f3, f4⟩ := hM6.cell j hjL
                have hz : ow3[j] = 0 := by
                  have h1 := HW3.out j (by omega)
                  have hj' : j < ow.length := by have := HL3.out; omega
                  rw [List.getElem?_eq_getElem hjL, List.getElem?_eq_getElem hj'] at h1
                  rw [Option.some.inj h1]
                  exact hB.none HGot.out j hj' hj1 (by omega)
                rw [hz] at f3
                clear hz
                go_wp2
                go_roundw
                case rel =>
                  refine ⟨j + 1, ow3.set j (k + 1), by go_num, by omega, by omega, by rw [List.length_set]; exact HL3.out, fun i hi => ?_, ?_⟩
                  · rw [List.getElem?_set_ne (by omega)]
                    exact HW3.out i (by omega)
                  · have h7 := hM6.set j (k + 1)
                    rw [show ((k + 1 : Nat) : Int) = (k : Int) + 1 by omega] at h7
                    exact h7
                case measure => simp [intOf]; omega
              · have hji : ¬ (j : Int) < (c : Int) + (s : Int) := by omega
                have HAB : Hid (AB N bs' ow3 (ps ++ [(c, s)])) := by
                  have e : AB N bs' ow3 (ps ++ [(c, s)]) := hB.more HGot.out hs1 hsc HL3.out (fun i hi => HW3.out i (by omega))
                  exact e
                have HPA : Hid ((ps.map Prod.fst).length + 1 ≤ 400) := by
                  have e : (ps.map Prod.fst).length + 1 ≤ 400 := by rw [List.length_map]; omega
                  exact e
                have HPF : Hid ((ps.map Prod.snd).length + 1 ≤ 400) := by
                  have e : (ps.map Prod.snd).length + 1 ≤ 400 := by rw [List.length_map]; omega
                  exact e
                have HMP : Hid (∀ w' va vf, AM w w' g N bs' o ow3 va vf (ps.map Prod.fst ++ [c]) (ps.map Prod.snd ++ [s]) → AM w w' g N bs' o ow3 va vf ((ps ++ [(c, s)]).map Prod.fst) ((ps ++ [(c, s)]).map Prod.snd)) := fun w' va vf h => by
                  rw [List.map_append, List.map_append]
                  exact h
                clear HW3 HL3 HLe hM hB HGot
                generalize ps.map Prod.fst = la at *
                generalize ps.map Prod.snd = lf at *
                go_wp2_with (first
                  | (at_builtin; refine wpList_ow rfl (.tmp 116) (.tmp 118) rfl (o + 1) _ la rfl (hM6.oa.below ((Below.refl _ _).alloc (Nat.le_refl _) _)) _ [c] rfl (sr_one wr c _) (by have := HPA.out; simp; omega) (by have := hM6.row.lt; simp; omega) ?_; intro v7 w7 ho7 hk7 hm7; have hM7 := (hM6.read ((Below.refl _ _).alloc (Nat.le_refl _) _)).pushA ho7 hk7 hm7; clear ho7 hk7 hm7)
                  | (at_builtin; refine wpList_ow rfl (.tmp 120) (.tmp 122) rfl (o + 1) _ lf rfl (hM7.of.below ((Below.refl _ _).alloc (Nat.le_refl _) _)) _ [s] rfl (sr_one w7 s _) (by have := HPF.out; simp; omega) (by have := hM7.row.lt; simp; omega) ?_; intro v8 w8 ho8 hk8 hm8; have hM8 := (hM7.read ((Below.refl _ _).alloc (Nat.le_refl _) _)).pushF ho8 hk8 hm8; clear ho8 hk8 hm8))
                go_meet
                exact ⟨ow3, ps ++ [(c, s)], by simp; omega, HAB.out, HMP.out _ _ _ hM8⟩
          · have HM4 : Hid _ := hidden hM4
            have HB4 : Hid (AB N bs' ow ps) := by
              have e : AB N bs' ow ps := by rw [hbs]; exact hB
              exact e
            clear hM4 hB HC hAt hM hbs
            go_wp2
            go_meet
            exact ⟨ow, ps, by omega, HB4.out, HM4.out⟩
        case rest =>
          clear hM4 hAt HC
          obtain ⟨ow1, ps1, hps1, hB1, hM1⟩ := hcut
          obtain ⟨wz, hwz⟩ : ∃ x, x = wc := ⟨_, rfl⟩
          subst hwz
          clear hB hM hps hsc hc16
          clear ps ow bs
          obtain ⟨ps, rfl⟩ : ∃ ps, ps = ps1 := ⟨_, rfl⟩
          obtain ⟨ow, rfl⟩ : ∃ ow, ow = ow1 := ⟨_, rfl⟩
          obtain ⟨bs, rfl⟩ : ∃ bs, bs = bs' := ⟨_, rfl⟩
          have hB := hB1
          have hM := hM1
          have hps := hps1
          clear hB1 hM1 hps1
          -- the tail: hB : AB N bs ow ps, hM : AM w wz g N bs o ow va vf (ps.map fst) (ps.map snd), hps : ps.length ≤ k + 1
          obtain ⟨la, hla⟩ : ∃ la, la = ps.map Prod.fst := ⟨_, rfl⟩
          obtain ⟨lf, hlf⟩ : ∃ lf, lf = ps.map Prod.snd := ⟨_, rfl⟩
          have hlal : la.length = ps.length := by rw [hla]; simp
          have hlfl : lf.length = ps.length := by rw [hlf]; simp
          have hM0 := hM
          rw [← hla, ← hlf] at hM
          obtain ⟨aa, ac, hve, hac1, _, _⟩ := hM.oa.slice
          subst hve
          obtain ⟨fa, fc, hve, hfc1, _, _⟩ := hM.of.slice
          subst hve
          by_cases hf : k < ys.length
          · have hfi : (k : Int) < (ys.length : Int) := by omega
            obtain ⟨b2, off2, hbo, hbl2, hc2⟩ := (hvo.below (by rw [hG]; exact hM.s.bel)).c1 (g := Value.int .i64) (fun _ => rfl) k hf
            have hbo' := hbo
            subst hbo
            generalize ys[k] = y at *
            by_cases hq3 : y.tmod 3 = 0
            · have hq3b : (y.tmod 3 == 0) = true := by rw [beq_iff_eq]; exact hq3
              by_cases hpos : 0 < la.length
              · have hposi : (0 : Int) < (la.length : Int) := by omega
                have hqlt := pickN_lt y la.length hpos
                have hla3 : la.length ≤ 300 := by omega
                have hlf3 : lf.length ≤ 300 := by omega
                have hPk := fun w => pick_any y la.length hpos (by omega) w
                generalize pickN y la.length = q at *
                obtain ⟨ga, ac', hve, hga, hgl, hac, hcell⟩ := hM.oa.at 0 hpos
                cases hve
                obtain ⟨gf, fc', hve, hgf, hfl, hfc, hcellf⟩ := hM.of.at 0 (by omega)
                cases hve
                have hqf : q < lf.length := by omega
                have hqi : (q : Int) < (la.length : Int) := by omega
                have hqfi : (q : Int) < (lf.length : Int) := by omega
                have hqp : q < ps.length := by omega
                have e1 : ps[q].1 = la[q] := by simp [hla]
                have e2 : ps[q].2 = lf[q] := by simp [hlf]
                obtain ⟨hb1, hb2⟩ := hB.big _ (List.getElem_mem hqp)
                obtain ⟨hR, hz, hx3⟩ := free_spec (c := ps[q].1) hM.s.ok (by omega)
                clear hx3 hM0
                have hfit := at_fit hM.s.ok (c := ps[q].1) (by omega)
                rw [hM.s.len] at hfit
                have hF := fun wr (h : AS w wr g N bs) => h.free (ps[q].1 : Int)
                rw [hR] at hF
                have hAt := fun wr (h : AS w wr g N (freeL bs (ps[q].1 : Int))) => h.at (ps[q].1 : Int)
                rw [hz] at hAt
                have HBL : Hid (∀ ow' : List Nat, ow'.length = ow.length → (∀ j (hj : j < ow'.length), ps[q].1 ≤ j → j < ps[q].1 + ps[q].2 → ow'[j] = 0) → (∀ j, ¬ (ps[q].1 ≤ j ∧ j < ps[q].1 + ps[q].2) → ow'[j]? = ow[j]?) → AB N (freeL bs (ps[q].1 : Int)) ow' (ps.take q ++ ps.drop (q + 1))) := fun ow' h1 h2 h3 => hB.less hM.s.ok hqp h1 h2 h3
                have HPL : Hid ((ps.take q ++ ps.drop (q + 1)).length ≤ k + 1) := by
                  have e : (ps.take q ++ ps.drop (q + 1)).length ≤ k + 1 := by rw [List.length_append, List.length_take, List.length_drop]; omega
                  exact e
                have hcm : ps[q].1 + ps[q].2 ≤ L := by omega
                rw [e1] at hF hAt
                have HLe : Hid (ow.length = L) := by
                  have e : ow.length = L := by rw [hB.len]; omega
                  exact e
                have HMM : Hid (∀ w' bs1 ow3 va vf, AM w w' g N bs1 o ow3 va vf (la.take q ++ la.drop (q + 1)) (lf.take q ++ lf.drop (q + 1)) → AM w w' g N bs1 o ow3 va vf ((ps.take q ++ ps.drop (q + 1)).map Prod.fst) ((ps.take q ++ ps.drop (q + 1)).map Prod.snd)) := fun w' bs1 ow3 va vf h => by
                  rw [List.map_append, List.map_append, List.map_take, List.map_take, List.map_drop, List.map_drop, ← hla, ← hlf]
                  exact h
                rw [e1, e2] at hcm HBL
                have hck := hcell q hqlt
                have hcf := hcellf q hqf
                have HCA : Hid (∀ w' bs1 ow3, AM w w' g N bs1 o ow3 (.slice (some ⟨ga, 0, none⟩) la.length ac) (.slice (some ⟨gf, 0, none⟩) lf.length fc) la lf → w'.cell? ⟨ga, q, none⟩ = some (.int .i64 (la[q] : Int)) ∧ w'.cell? ⟨gf, q, none⟩ = some (.int .i64 (lf[q] : Int)) ∧ ga < w'.heap.size ∧ gf < w'.heap.size) := fun w' bs1 ow3 h => by
                  obtain ⟨ga2, ac2, hve, _, hgl2, _, hcell2⟩ := h.oa.at 0 hpos
                  cases hve
                  obtain ⟨gf2, fc2, hve, _, hfl2, _, hcell3⟩ := h.of.at 0 (by omega)
                  cases hve
                  exact ⟨hcell2 q hqlt, hcell3 q hqf, hgl2, hfl2⟩
                clear hcell hcellf hR hz hb1 hb2 e1 e2 hB hfit hla hlf hlal hlfl
                generalize freeL bs (la[q] : Int) = bs1 at *
                generalize la[q] = c at *
                generalize lf[q] = m at *
                clear hqp
                have hwc : IntKind.i64.wrap ((c : Int) + (m : Int)) = (c : Int) + (m : Int) := by rw [IntKind.wrap_i64]; omega
                go_wp2_with (first
                  | (go_at_call 20; refine (hPk _).mono ?_; clear hPk; rintro e _ ⟨rfl, rfl⟩)
                  | (go_at_call 16; refine (hF _ hM.s).mono ?_; clear hF; rintro e w6 ⟨rfl, hs6, hk6⟩; have hM6 := hM.arena hs6 hk6; obtain ⟨d1, d2, _, _⟩ := HCA.out _ _ _ hM6)
                  | (go_at_call 17; refine (hAt _ hM6.s).mono ?_; clear hAt; rintro e w7 ⟨rfl, hs7, hb7⟩; have hM7 := hM6.read hb7; obtain ⟨d3, d4, _, _⟩ := HCA.out _ _ _ hM7))
                go_loopw [18] (fun jv wr => ∃ (j : Nat) (ow3 : List Nat), jv = .int .i64 (j : Int) ∧ c ≤ j ∧ j ≤ c + m ∧ ow3.length = ow.length ∧ (∀ i, ¬ (c ≤ i ∧ i < j) → ow3[i]? = ow[i]?) ∧ (∀ i, c ≤ i → i < j → ow3[i]? = some 0) ∧ AM w wr g N bs1 o ow3 (.slice (some ⟨ga, 0, none⟩) la.length ac) (.slice (some ⟨gf, 0, none⟩) lf.length fc) la lf) (fun jv _ => c + m - (intOf jv).toNat)
                case atStart => exact ⟨c, ow, rfl, Nat.le_refl _, by omega, rfl, fun _ _ => rfl, fun i h1 h2 => by omega, hM7⟩
                case round =>
                  obtain ⟨j, ow3, rfl, hj1, hj2, hl3, hw3, hz3, hM8⟩ := hrel
                  have HW3 : Hid (∀ i, ¬ (c ≤ i ∧ i < j) → ow3[i]? = ow[i]?) := hw3
                  have HZ3 : Hid (∀ i, c ≤ i → i < j → ow3[i]? = some 0) := hz3
                  have HL3 : Hid (ow3.length = ow.length) := hl3
                  clear hw3 hz3 hl3 hM hM6 hM7 d1 d2 d3 d4 hs6 hk6 hs7 hb7
                  obtain ⟨f1, f2, hgl8, hfl8⟩ := HCA.out _ _ _ hM8
                  by_cases hjc : j < c + m
                  · have hji : (j : Int) < (c : Int) + (m : Int) := by omega
                    have hjL : j < ow3.length := by rw [HL3.out, HLe.out]; omega
                    have hjLi : (j : Int) < (L : Int) := by have := HLe.out; have := HL3.out; omega
                    obtain ⟨f3, f4⟩ := hM8.cell j hjL
                    generalize ow3[j] = old at *
                    go_wp2
                    go_quiet (fail)
                    have hM9 : AM w (wr.drewN nq) g N bs1 o ow3 (.slice (some ⟨ga, 0, none⟩) la.length ac) (.slice (some ⟨gf, 0, none⟩) lf.length fc) la lf := hM8.read (below_drewN0 _ _)
                    have f5 : (wr.drewN nq).cell? ⟨o, j, none⟩ = some (.int .i64 (old : Int)) := f3
                    have f6 : (wr.drewN nq).frozen? ⟨o, j, none⟩ = false := f4
                    clear hM8 f1 f2 f3 f4
                    generalize wr.drewN nq = w9 at *
                    go_wp2
                    go_roundw
                    case rel =>
                      refine ⟨j + 1, ow3.set j 0, by go_num, by omega, by omega, by rw [List.length_set]; exact HL3.out, fun i hi => ?_, fun i h1 h2 => ?_, hM9.set j 0⟩
                      · rw [List.getElem?_set_ne (by omega)]
                        exact HW3.out i (by omega)
                      · by_cases e : j = i
                        · subst e
                          rw [List.getElem?_set_self hjL]
                        · rw [List.getElem?_set_ne e]
                          exact HZ3.out i h1 (by omega)
                    case measure => simp [intOf]; omega
                  · have hji : ¬ (j : Int) < (c : Int) + (m : Int) := by omega
                    have hjeq : j = c + m := by omega
                    have HAB : Hid (AB N bs1 ow3 (ps.take q ++ ps.drop (q + 1))) := by
                      have e : AB N bs1 ow3 (ps.take q ++ ps.drop (q + 1)) := HBL.out ow3 HL3.out (fun i hi h1 h2 => by
                        have := HZ3.out i h1 (by omega)
                        rw [List.getElem?_eq_getElem hi] at this
                        exact Option.some.inj this) (fun i hi => HW3.out i (by omega))
                      exact e
                    have HMA : Hid (∀ w' va vf, AM w w' g N bs1 o ow3 va vf (la.take q ++ la.drop (q + 1)) (lf.take q ++ lf.drop (q + 1)) → AM w w' g N bs1 o ow3 va vf ((ps.take q ++ ps.drop (q + 1)).map Prod.fst) ((ps.take q ++ ps.drop (q + 1)).map Prod.snd)) := fun w' va vf h => HMM.out w' bs1 ow3 va vf h
                    clear HW3 HZ3 HBL HMM HCA hjeq
                    go_wp2
                    go_quiet (fail)
                    have hM9 : AM w (wr.drewN nq) g N bs1 o ow3 (.slice (some ⟨ga, 0, none⟩) la.length ac) (.slice (some ⟨gf, 0, none⟩) lf.length fc) la lf := hM8.read (below_drewN0 _ _)
                    clear hM8 f1 f2
                    generalize wr.drewN nq = wq at *
                    have hqn : (q : Int) ≤ (la.length : Int) := by omega
                    have hqn1 : (q : Int) + 1 ≤ (la.length : Int) := by omega
                    have hqm : (q : Int) ≤ (lf.length : Int) := by omega
                    have hqm1 : (q : Int) + 1 ≤ (lf.length : Int) := by omega
                    have hqn0 : (0 : Int) ≤ (q : Int) + 1 := by omega
                    have hwq : IntKind.i64.wrap ((q : Int) + 1) = (q : Int) + 1 := by rw [IntKind.wrap_i64]; omega
                    go_upto_region 33 with fail
                    go_cut [10] from 41 to 203 (fun va wc => AM w wc g N bs1 o ow3 va (.slice (some ⟨gf, 0, none⟩) lf.length fc) (la.take q ++ la.drop (q + 1)) lf)
                    case first =>
                      have q1 : ∀ o, Below wq.heap.size wq (wq.alloc o).drew := fun o => ((Below.refl _ _).alloc (Nat.le_refl _) o).drew
                      have hE1 : (wq.alloc (.cells #[] 3)).drew.heap[wq.heap.size]? = some (.cells #[] 3 (0, 0)) := heap_alloc_new wq _
                      have hp1 := hM9.oa.pre q (by omega) (by omega)
                      have HL1 : Hid ((la.take q).length = q) := by have e : (la.take q).length = q := by { rw [List.length_take]; omega }; exact e
                      have HL2 : Hid (q + (la.drop (q + 1)).length ≤ 1000) := by have e : q + (la.drop (q + 1)).length ≤ 1000 := by { rw [List.length_drop]; omega }; exact e
                      have hp2 := fun c => hM9.oa.post (q + 1) (by omega) (by omega) c
                      have hqc : (q : Int) ≤ (ac : Int) := by omega
                      by_cases hcap : ac = q + 1
                      · have HN1 : Hid (la.length = q + 1) := by have e : la.length = q + 1 := by { omega }; exact e
                        have HD : Hid (la.drop (q + 1) = []) := by have e : la.drop (q + 1) = [] := List.drop_of_length_le (by omega); exact e
                        subst hcap
                        have hkk : (q : Int) ≤ (q : Int) + 1 := by omega
                        go_region_law (first
                          | (refine step_ow rfl (.tmp 184) (.tmp 187) rfl wq.heap.size (.slice (some ⟨wq.heap.size, 0, none⟩) 0 0) [] rfl (ow_empty hE1 (Nat.le_refl _)) _ (la.take q) rfl (hp1.below (q1 _)) (by rw [HL1.out]; simp; omega) (by simp [World.drew]) ?_; intro v8 w8 ho8 hk8 _; have hb8 : Below wq.heap.size wq w8 := (q1 _).trans (hk8.below (by simp [World.drew]) (fun j hj e => by simp only [Value.ownBlock, Option.some.injEq] at e; omega)); have hs8 := hb8.size)
                          | (refine step_ow rfl (.tmp 188) (.tmp 192) rfl wq.heap.size v8 ([] ++ la.take q) rfl ho8 _ ([] : List Nat) rfl (sr_zero _ _ _ _ (by have := HN1.out; omega)) (by rw [List.nil_append, HL1.out]; simp; omega) hs8 ?_; intro v9 w9 ho9 hk9 _; have hb9 : Below wq.heap.size wq w9 := hb8.trans (hk9.below hs8 (fun j hj e => by have := (ho8.ge j e).1; omega))))
                        all_goals
                          have hNEW := hM9.newA hb9 (show Ow w9 wq.heap.size v9 (la.take q ++ la.drop (q + 1)) by rw [HD.out]; simpa using ho9)
                          clear HN1 HD hp1 hp2 HL1 HL2 q1 hE1 ho8 hk8 hk9 ho9 hb8 hb9 hs8 hkk
                          go_simp
                          go_wp2
                          go_meet
                          exact hNEW
                      · have hkc2 : ¬ ac = q + 1 := hcap
                        have hkc3 : ¬ ac - (q + 1) = 0 := by omega
                        go_region_law (first
                          | (refine step_ow rfl (.tmp 184) (.tmp 187) rfl wq.heap.size (.slice (some ⟨wq.heap.size, 0, none⟩) 0 0) [] rfl (ow_empty hE1 (Nat.le_refl _)) _ (la.take q) rfl (hp1.below (q1 _)) (by rw [HL1.out]; simp; omega) (by simp [World.drew]) ?_; intro v8 w8 ho8 hk8 _; have hb8 : Below wq.heap.size wq w8 := (q1 _).trans (hk8.below (by simp [World.drew]) (fun j hj e => by simp only [Value.ownBlock, Option.some.injEq] at e; omega)); have hs8 := hb8.size)
                          | (refine step_ow rfl (.tmp 188) (.tmp 192) rfl wq.heap.size v8 ([] ++ la.take q) rfl ho8 _ (la.drop (q + 1)) rfl ((hp2 _).below hb8) (by rw [List.nil_append, HL1.out]; have := HL2.out; omega) hs8 ?_; intro v9 w9 ho9 hk9 _; have hb9 : Below wq.heap.size wq w9 := hb8.trans (hk9.below hs8 (fun j hj e => by have := (ho8.ge j e).1; omega))))
                        all_goals
                          have hNEW := hM9.newA hb9 (show Ow w9 wq.heap.size v9 (la.take q ++ la.drop (q + 1)) by simpa using ho9)
                          clear hp1 hp2 HL1 HL2 q1 hE1 ho8 hk8 hk9 ho9 hb8 hb9 hs8 hkc2 hkc3 hcap
                          go_simp
                          go_wp2
                          go_meet
                          exact hNEW
                    case rest =>
                      have hM10 := hcut
                      clear hcut hM9
                      obtain ⟨w10, hw10⟩ : ∃ x, x = wc := ⟨_, rfl⟩
                      subst hw10
                      go_wp2
                      have q1 : ∀ o, Below w10.heap.size w10 (w10.alloc o).drew := fun o => ((Below.refl _ _).alloc (Nat.le_refl _) o).drew
                      have hE1 : (w10.alloc (.cells #[] 3)).drew.heap[w10.heap.size]? = some (.cells #[] 3 (0, 0)) := heap_alloc_new w10 _
                      have hp1 := hM10.of.pre q (by omega) (by omega)
                      have HL1 : Hid ((lf.take q).length = q) := by have e : (lf.take q).length = q := by { rw [List.length_take]; omega }; exact e
                      have HL2 : Hid (q + (lf.drop (q + 1)).length ≤ 1000) := by have e : q + (lf.drop (q + 1)).length ≤ 1000 := by { rw [List.length_drop]; omega }; exact e
                      have hp2 := fun c => hM10.of.post (q + 1) (by omega) (by omega) c
                      have hqc : (q : Int) ≤ (fc : Int) := by omega
                      by_cases hcap : fc = q + 1
                      · have HN1 : Hid (lf.length = q + 1) := by have e : lf.length = q + 1 := by { omega }; exact e
                        have HD : Hid (lf.drop (q + 1) = []) := by have e : lf.drop (q + 1) = [] := List.drop_of_length_le (by omega); exact e
                        subst hcap
                        have hkk : (q : Int) ≤ (q : Int) + 1 := by omega
                        go_region_law (first
                          | (refine step_ow rfl (.tmp 194) (.tmp 197) rfl w10.heap.size (.slice (some ⟨w10.heap.size, 0, none⟩) 0 0) [] rfl (ow_empty hE1 (Nat.le_refl _)) _ (lf.take q) rfl (hp1.below (q1 _)) (by rw [HL1.out]; simp; omega) (by simp [World.drew]) ?_; intro v8 w8 ho8 hk8 _; have hb8 : Below w10.heap.size w10 w8 := (q1 _).trans (hk8.below (by simp [World.drew]) (fun j hj e => by simp only [Value.ownBlock, Option.some.injEq] at e; omega)); have hs8 := hb8.size)
                          | (refine step_ow rfl (.tmp 198) (.tmp 202) rfl w10.heap.size v8 ([] ++ lf.take q) rfl ho8 _ ([] : List Nat) rfl (sr_zero _ _ _ _ (by have := HN1.out; omega)) (by rw [List.nil_append, HL1.out]; simp; omega) hs8 ?_; intro v9 w9 ho9 hk9 _; have hb9 : Below w10.heap.size w10 w9 := hb8.trans (hk9.below hs8 (fun j hj e => by have := (ho8.ge j e).1; omega))))
                        all_goals
                          have hNEW := hM10.newF hb9 (show Ow w9 w10.heap.size v9 (lf.take q ++ lf.drop (q + 1)) by rw [HD.out]; simpa using ho9)
                          clear HN1 HD hp1 hp2 HL1 HL2 q1 hE1 ho8 hk8 hk9 ho9 hb8 hb9 hs8 hkk
                          go_simp
                          go_wp2
                          go_roundw
                          case rel => exact ⟨k + 1, bs1, ow3, ps.take q ++ ps.drop (q + 1), by go_num, by omega, HPL.out, HAB.out, HMA.out _ _ _ hNEW⟩
                          case measure => simp [intOf]; omega
                      · have hkc2 : ¬ fc = q + 1 := hcap
                        have hkc3 : ¬ fc - (q + 1) = 0 := by omega
                        go_region_law (first
                          | (refine step_ow rfl (.tmp 194) (.tmp 197) rfl w10.heap.size (.slice (some ⟨w10.heap.size, 0, none⟩) 0 0) [] rfl (ow_empty hE1 (Nat.le_refl _)) _ (lf.take q) rfl (hp1.below (q1 _)) (by rw [HL1.out]; simp; omega) (by simp [World.drew]) ?_; intro v8 w8 ho8 hk8 _; have hb8 : Below w10.heap.size w10 w8 := (q1 _).trans (hk8.below (by simp [World.drew]) (fun j hj e => by simp only [Value.ownBlock, Option.some.injEq] at e; omega)); have hs8 := hb8.size)
                          | (refine step_ow rfl (.tmp 198) (.tmp 202) rfl w10.heap.size v8 ([] ++ lf.take q) rfl ho8 _ (lf.drop (q + 1)) rfl ((hp2 _).below hb8) (by rw [List.nil_append, HL1.out]; have := HL2.out; omega) hs8 ?_; intro v9 w9 ho9 hk9 _; have hb9 : Below w10.heap.size w10 w9 := hb8.trans (hk9.below hs8 (fun j hj e => by have := (ho8.ge j e).1; omega))))
                        all_goals
                          have hNEW := hM10.newF hb9 (show Ow w9 w10.heap.size v9 (lf.take q ++ lf.drop (q + 1)) by simpa using ho9)
                          clear hp1 hp2 HL1 HL2 q1 hE1 ho8 hk8 hk9 ho9 hb8 hb9 hs8 hkc2 hkc3 hcap
                          go_simp
                          go_wp2
                          go_roundw
                          case rel => exact ⟨k + 1, bs1, ow3, ps.take q ++ ps.drop (q + 1), by go_num, by omega, HPL.out, HAB.out, HMA.out _ _ _ hNEW⟩
                          case measure => simp [intOf]; omega
              · have hposi : ¬ (0 : Int) < (la.length : Int) := by omega
                have HM : Hid _ := hidden hM0
                have HB : Hid _ := hidden hB
                clear hB hM hM0 hla hlf hlal hlfl
                go_wp2
                go_roundw
                case rel => exact ⟨k + 1, bs, ow, ps, by go_num, by omega, hps, HB.out, HM.out⟩
                case measure => simp [intOf]; omega
            · have hq3b : (y.tmod 3 == 0) = false := by rw [beq_eq_false_iff_ne]; exact hq3
              have HM : Hid _ := hidden hM0
              have HB : Hid _ := hidden hB
              clear hB hM hM0 hla hlf hlal hlfl
              go_wp2
              go_roundw
              case rel => exact ⟨k + 1, bs, ow, ps, by go_num, by omega, hps, HB.out, HM.out⟩
              case measure => simp [intOf]; omega
          · have hfi : ¬ (k : Int) < (ys.length : Int) := by omega
            have HM : Hid _ := hidden hM0
            have HB : Hid _ := hidden hB
            clear hB hM hM0 hla hlf hlal hlfl
            go_wp2
            go_roundw
            case rel => exact ⟨k + 1, bs, ow, ps, by go_num, by omega, hps, HB.out, HM.out⟩
            case measure => simp [intOf]; omega
    · by_cases hk1 : (k : Int) < (xs.length : Int)
      · have hk2 : ¬ ((k : Int) < 300) := by omega
        go_wp2
        go_ret
        exact ⟨rfl, hM.s.bel⟩
      · go_wp2
        go_ret
        exact ⟨rfl, hM.s.bel⟩

end Go.Proofs.YtolgncehfblpbaaDoor
