/- NetOwn: the walk. -/
import Derived.Test.YtibgpbflchfbnaaNtN
import Derived.Deep.CutRange
import Derived.Deep.CutBlock
namespace Go.Proofs.Ytibgpbflchfbnaa
open Go.RowKit

/-- What was kept: a row of datagrams, all of it from B on. -/
structure Kp (w : World) (B : Nat) (kv : Value) (rs : List (Dg × Value)) : Prop where
  own : w.ownsRow B 30 3 kv rs.length (rs.flatMap dgCells)
  bs : ∀ r ∈ rs, Bs w r.2 r.1.b
  apart : ∀ r ∈ rs, ∀ k, r.2.ownBlock = some k → k < w.heap.size ∧ kv.ownBlock ≠ some k

theorem Kp.below {w w' : World} {B : Nat} {kv : Value} {rs : List (Dg × Value)} (h : Kp w B kv rs) (hb : Below w.heap.size w w') : Kp w' B kv rs :=
  ⟨own_kept3 h.own (kept_of_below hb (fun _ => False)) (fun _ _ e => e), fun r hr => (h.bs r hr).below hb, fun r hr k hk => ⟨Nat.lt_of_lt_of_le (h.apart r hr k hk).1 hb.size, (h.apart r hr k hk).2⟩⟩
theorem Kp.push {w w3 w4 : World} {B : Nat} {kv kv' v2 : Value} {rs : List (Dg × Value)} {d : Dg} (h : Kp w B kv rs) (hb : Below w.heap.size w w3) (hv2 : Bs w3 v2 d.b) (ho2 : ∀ k, v2.ownBlock = some k → w.heap.size ≤ k ∧ k < w3.heap.size)
    (ho4 : w4.ownsRow B 30 3 kv' (rs.length + 1) (rs.flatMap dgCells ++ dgCells (d, v2))) (hk4 : Kept w3 w4 (fun k => kv.ownBlock = some k)) (hm4 : Moved w3 kv kv') : Kp w4 B kv' (rs ++ [(d, v2)]) := by
  have h3 := h.below hb
  have hlt : ∀ k, kv.ownBlock = some k → k < w.heap.size := own_lt3 h.own
  refine ⟨?_, fun r hr => ?_, fun r hr k hk => ?_⟩
  · rw [flat_snoc3]; simpa using ho4
  · rcases List.mem_append.1 hr with h1 | h1
    · exact (h3.bs r h1).kept hk4 (fun k _ hk _ => (h3.apart r h1 k hk).2)
    · rw [List.mem_singleton.1 h1]
      exact hv2.kept hk4 (fun k _ hk _ e => by have := ho2 k hk; have := hlt k e; omega)
  · have hs := hk4.size
    rcases List.mem_append.1 hr with h1 | h1
    · have q := h3.apart r h1 k hk
      refine ⟨by omega, fun e => ?_⟩
      rcases hm4 k e with h5 | h5
      · exact q.2 h5
      · omega
    · rw [List.mem_singleton.1 h1] at hk
      have q := ho2 k hk
      refine ⟨by omega, fun e => ?_⟩
      rcases hm4 k e with h5 | h5
      · have := hlt k h5; omega
      · omega

theorem Row3.one1 {w : World} {g : Nat} {d : Dg} {v : Value} {T : TypeId} (hg : w.heap[g]? = some (.cells #[.int .i64 d.frm, .int .i64 d.to, v] T (0, 0))) (hv : v.oneCell' = true) : Row3 w (.slice (some ⟨g, 0, none⟩) 1 1) 1 (dgCells (d, v)) := by
  refine ⟨rfl, ⟨_, _, rfl, fun j u hj => ?_⟩, fun u hu => ?_⟩
  · rw [Addr.add_at, cell_of_row w g _ _ _ _ hg]
    simpa [dgCells] using hj
  · simp only [dgCells, List.mem_cons, List.not_mem_nil, or_false] at hu
    rcases hu with rfl | rfl | rfl
    · rfl
    · rfl
    · exact hv

theorem peek_small {es : List Dg} (h : ∀ d ∈ es, d.b.length ≤ 1024) (k : Int) : (peekD es k).b.length ≤ 1024 := by
  unfold peekD
  split
  · rw [List.getD_eq_getElem?_getD]
    cases hq : es[k.toNat]? with
    | none => simp [zeroD]
    | some d => exact h d (List.mem_of_getElem? hq)
  · simp [zeroD]

set_option maxRecDepth 20000 in
set_option maxHeartbeats 8000000 in
theorem netOwn_any (v : Value) (ds : List Dg) (m : Nat) (w : World) (hv : Dgs w v ds) (hn : ds.length ≤ 140737488355328) (hm : m = min ds.length 50) :
    Calls Try.prog 5 #[v] w fun e w' => e = .returned (.bool true) ∧ Below w.heap.size w w' := by
  obtain ⟨ao, ac, rfl, hac, ha⟩ := id hv
  clear hv
  have hm1 : m ≤ ds.length := by omega
  have hm2 : m ≤ 50 := by omega
  have hm3 : m ≤ ac := by omega
  have hac2 := hac.2
  have HM : Hid (m = min ds.length 50) := hm
  clear hm hac
  go_enter Try.func5, Try.ntmps5
  go_wp2_with fail
  refine (nsnew 256 (by omega) (by omega) w).mono ?_
  rintro e w1 ⟨rfl, hn1, hb1⟩
  have hF1 : ∀ k, (fun k => k = w.heap.size) k → w.heap.size ≤ k := fun k hk => by have e : k = w.heap.size := hk; omega
  go_wp2_with fail
  refine (nknown_any w1).mono ?_
  rintro e w2 ⟨rfl, hb2⟩
  have hn2 := hn1.below hb2
  have hB2 := hb1.trans (hb2.mono hb1.size)
  clear hn1 hb1 hb2
  go_upto_region 4 with fail
  go_cut [0] from 30 to 34 (fun a wc => a = .slice ao m ac ∧ wc = w2)
  case first =>
    by_cases h60 : ds.length ≤ 50
    · have e : m = ds.length := by rw [HM.out]; omega
      subst e
      have h61 : ¬ (50 : Int) < (ds.length : Int) := by omega
      go_wp2
      go_meet
      exact ⟨rfl, rfl⟩
    · have e : m = 50 := by rw [HM.out]; omega
      subst e
      have h61 : ¬ (ds.length : Int) < 50 := by omega
      have h62 : (50 : Int) < (ds.length : Int) := by omega
      go_wp2
      go_meet
      exact ⟨rfl, rfl⟩
  case rest =>
    obtain ⟨rfl, hwc⟩ := hcut
    subst hwc
    go_upto_block 0 with fail
    go_cut [5] from 35 to 46 (fun _ wc => ∃ (lost : Nat) (es : List Dg) (F : Nat → Prop), NS wc w.heap.size 256 lost es F ∧ es.length ≤ 50 ∧ (∀ k, F k → w.heap.size ≤ k) ∧ Below w.heap.size w wc)
    case first =>
      go_wp2
      go_loopw [5] (fun i wr => ∃ (j lost : Nat) (es : List Dg) (F : Nat → Prop), j ≤ m ∧ i = .int .i64 (j : Int) ∧ NS wr w.heap.size 256 lost es F ∧ lost ≤ j ∧ es.length ≤ j ∧ (∀ k, F k → w.heap.size ≤ k) ∧ Below w.heap.size w wr) (fun i _ => m - (intOf i).toNat)
      case atStart => exact ⟨0, 0, [], _, Nat.zero_le _, rfl, hn2, Nat.le_refl _, Nat.le_refl _, hF1, hB2⟩
      case round =>
        obtain ⟨j, lost, es, F, hj, rfl, hns, hlo, hes, hF, hbr⟩ := hrel
        clear hn2 hB2 hF1
        by_cases hlt : j < m
        · obtain ⟨blk, off, rfl, hblk, hat⟩ := ha (by intro e; subst e; simp at hm1; omega)
          obtain ⟨a0, a1, x, a2, hx⟩ := (hat j (by omega)).below hbr hblk
          have hj0 : (j : Int) < (m : Int) := by omega
          clear hat ha
          generalize ds[j] = d at *
          obtain ⟨frm, tt, l⟩ := d
          simp only at *
          obtain ⟨xo, xc, rfl⟩ := hx.slice
          go_wp2_with (go_at_call 10; refine (nssend w.heap.size 256 lost es F ⟨frm, tt, l⟩ _ wr hns hx (by omega) (by omega)).mono ?_; rintro e w3 ⟨F3, rfl, hn3, hk3, hg3⟩)
          have hb3 := kept_new hbr hF hk3
          have hF3 := grown_new hbr.size hF hg3
          go_roundw
          case rel =>
            refine ⟨j + 1, _, _, F3, by omega, by go_num, hn3, ?_, ?_, hF3, hb3⟩
            · unfold sendN; split <;> omega
            · unfold sendL; split <;> first | (simp; omega) | omega
          case measure => simp [intOf]; omega
        · have hj0 : ¬ (j : Int) < (m : Int) := by omega
          go_wp2
          go_meet
          exact ⟨lost, es, F, hns, by omega, hF, hbr⟩
    case rest =>
      obtain ⟨lost, es, F, hns, hes, hF, hbr⟩ := hcut
      obtain ⟨w3, hw3⟩ : ∃ x, x = wc := ⟨_, rfl⟩
      subst hw3
      clear hn2 hB2 hF1 ha hm1 hm3 hac2 HM
      have hesl : Hid (es.length ≤ 50) := hes
      have hsmall : Hid (∀ d ∈ es, d.b.length ≤ 1024) := hns.small
      go_upto_block 2 with (first
        | (go_at_call 13; refine (nsall w.heap.size 256 lost es F w3 hns (by omega)).mono ?_; rintro e w4 ⟨v4, g, rs, rfl, hm4, hd4, hb4⟩; have hl4 := fst_len hm4; have hv4 := hd4.val; rw [hl4] at hv4; subst hv4; have hB4 := hbr.trans (hb4.mono hbr.size); have hn4 := hns.below hb4; have hA4 : ∀ o, Below w4.heap.size w4 (w4.alloc o) := fun o => (Below.refl _ _).alloc (Nat.le_refl _) o)
        | (at_builtin; refine wpList_append_row rfl (.tmp 49) (.tmp 50) rfl w4.heap.size (.slice (some ⟨w4.heap.size, 0, none⟩) 0 0) 0 [] rfl (own_none3 (heap_alloc_new w4 _)) _ es.length _ rfl ((hd4.part 0 es.length es.length 0 (Or.inl rfl) (by omega)).below (hA4 _)) (by have := hesl.out; omega) (by simp) ?_; intro v6 w6 ho6 hk6 hm6; have hB6 : Below w4.heap.size w4 w6 := (hA4 _).trans (hk6.below (by simp) (fun i hi e => by simp [Value.ownBlock] at e; omega)); obtain ⟨ao6, n6, c6, hv6⟩ := own_form3 ho6; subst hv6))
      have hrs : (rs.drop 0).take es.length = rs := by rw [List.drop_zero]; exact List.take_of_length_le (by omega)
      rw [hrs, List.nil_append, Nat.zero_add] at ho6
      have hdg6 : Dgs w6 (.slice ao6 n6 c6) es := Dgs.ofOwns ho6 rfl hm4 (fun r hr => (hd4.rbs r hr).below hB6)
      have hn6 := hn4.below hB6
      have hBw6 := hB4.trans (hB6.mono hB4.size)
      clear ho6 hk6 hm6 hd4 hm4 hl4 hrs hB4 hn4 hA4 hB6 hb4 hns hbr
      obtain ⟨ao', c', e', hc', hx'⟩ := id hdg6
      simp only [Value.slice.injEq] at e'
      obtain ⟨rfl, rfl, rfl⟩ := e'
      clear hc'
      go_cut [7, 8] from 52 to 65 (fun kv _ wc => ∃ rs' : List (Dg × Value), Kp wc w6.heap.size kv rs' ∧ rs'.map Prod.fst = es ∧ Below w6.heap.size w6 wc)
      case first =>
        go_wp2
        go_loopw [7, 8] (fun kv i wr => ∃ (j : Nat) (rs' : List (Dg × Value)), j ≤ es.length ∧ i = .int .i64 (j : Int) ∧ Kp wr w6.heap.size kv rs' ∧ rs'.map Prod.fst = es.take j ∧ Below w6.heap.size w6 wr) (fun _ i _ => es.length - (intOf i).toNat)
        case atStart => exact ⟨0, [], Nat.zero_le _, rfl, ⟨World.ownsRow_nil _ _ _ _, by simp, by simp⟩, by simp, Below.refl _ _⟩
        case round =>
          obtain ⟨j, rs', hj, rfl, hkp, hmp, hbr⟩ := hrel
          obtain ⟨qo, qn, qc, hqe⟩ := own_form3 hkp.own
          subst hqe
          by_cases hlt : j < es.length
          · obtain ⟨blk, off, rfl, hblk, hat⟩ := hx' (by intro e; rw [e] at hlt; simp at hlt)
            obtain ⟨a0, a1, x, a2, hx⟩ := (hat j hlt).below hbr hblk
            have hj0 : (j : Int) < (es.length : Int) := by omega
            have hsm := hsmall.out es[j] (List.getElem_mem hlt)
            have HMP : Hid (es.take (j + 1) = es.take j ++ [es[j]]) := by show _ = _; rw [List.take_succ_eq_append_getElem hlt]
            have hlen : Hid (rs'.length = j) := by
              show _ = _
              have := congrArg List.length hmp
              simp at this
              omega
            have HM2 : Hid (rs'.map Prod.fst = es.take j) := hmp
            clear hat hx' hmp
            generalize es[j] = d at *
            obtain ⟨frm, tt, l⟩ := d
            simp only at *
            obtain ⟨xo, xc, rfl⟩ := hx.slice
            go_wp2_with (first
              | (go_at_call 20; refine (rcopy_any ⟨frm, tt, l⟩ _ wr hx (by show l.length ≤ _; omega)).mono ?_; rintro e w7 ⟨v7, rfl, ho7, hb7⟩; obtain ⟨yo, yn, yc, hye⟩ := own_form3 ho7; subst hye; have hA7 : ∀ o, Below w7.heap.size w7 (w7.alloc o) := fun o => (Below.refl _ _).alloc (Nat.le_refl _) o; have hB7 : ∀ o, Below wr.heap.size wr (w7.alloc o) := fun o => hb7.trans ((hA7 o).mono hb7.size))
              | (at_builtin; refine wpList_append_row rfl (.tmp 58) (.tmp 64) rfl w6.heap.size (.slice qo qn qc) rs'.length (rs'.flatMap dgCells) rfl ((hkp.below (hB7 _)).own) _ 1 (dgCells (⟨frm, tt, l⟩, .slice yo yn yc)) rfl (Row3.one1 (d := ⟨frm, tt, l⟩) (heap_alloc_new w7 _) rfl) (by have := hesl.out; have := hlen.out; omega) (by have := hbr.size; have := hb7.size; simp; omega) ?_; intro v8 w8 ho8 hk8 hm8))
            go_roundw
            case rel =>
              have hk := hkp.push (hB7 _) (((Bs.ofOwns ho7).below (hA7 _))) (fun k hk => ⟨own_base3 ho7 k hk, by have := own_lt3 ho7 k hk; simp; omega⟩) ho8 hk8 hm8
              refine ⟨j + 1, _, by omega, by go_num, hk, by rw [List.map_append, HM2.out, HMP.out]; rfl, ?_⟩
              refine hbr.trans (((hB7 _).mono hbr.size).trans (hk8.below (by have := hbr.size; have := hb7.size; simp; omega) (fun i hi e => by have := own_base3 hkp.own i e; omega)))
            case measure => simp [intOf]; omega
          · have hj0 : ¬ (j : Int) < (es.length : Int) := by omega
            go_wp2
            go_meet
            exact ⟨rs', hkp, by rw [hmp, List.take_of_length_le (by omega)], hbr⟩
      case rest =>
        obtain ⟨rs', hkp, hmp, hbk⟩ := hcut
        obtain ⟨wk, hwk⟩ : ∃ x, x = wc := ⟨_, rfl⟩
        subst hwk
        have hnk := hn6.below hbk
        have hBk := hBw6.trans (hbk.mono hBw6.size)
        have hdgk : Dgs wk u7 es := Dgs.ofOwns hkp.own (fst_len hmp) hmp hkp.bs
        obtain ⟨uo, uc, hue, huu⟩ := id hdgk
        clear huu hkp hmp hbk hn6 hBw6 hdg6 hx'
        subst hue
        generalize hB : wk.heap.size = B at *
        have hnkB : ∀ W, Below B wk W → NS W w.heap.size 256 lost es F := fun W h => hnk.below (hB ▸ h)
        go_upto_block 4 with fail
        go_cut [9, 10, 11, 12, 13, 14, 15] from 66 to 115 (fun _ _ _ _ _ _ _ wc => Below B wk wc)
        case first =>
          go_wp2
          go_loopw [9] (fun i wr => ∃ j : Nat, j ≤ 2 ∧ i = .int .i64 (j : Int) ∧ Below B wk wr) (fun i _ => 2 - (intOf i).toNat)
          case atStart => exact ⟨0, by omega, rfl, hB ▸ Below.refl _ _⟩
          case round =>
            obtain ⟨j, hj, rfl, hbr⟩ := hrel
            by_cases hlt : j < 2
            · have hj0 : (j : Int) < 2 := by omega
              have hbs := hbr.size
              go_wp2_with (go_at_call 13; refine (nsall w.heap.size 256 lost es F wr (hnkB wr hbr) (by omega)).mono ?_; rintro e wa ⟨va, ga, rsa, rfl, hma, hda, hba⟩; have hla := fst_len hma; have hva := hda.val; rw [hla] at hva; subst hva; obtain ⟨ks, hwr, hkl, hks⟩ := hda.wr)
              have hkl2 : ks.length = es.length := by omega
              have hbB : Below B wk wa := hbr.trans (hba.mono (by omega))
              have hks2 : Hid (∀ i (hi : i < ks.length), ks[i].2 ≤ 1024) := fun i hi => by
                obtain ⟨r, hr, e⟩ := hks i hi
                rw [e]
                exact fst_mem hma _ hsmall.out r hr
              clear hda hma hla hkl hba hks
              generalize hBR : wr.heap.size = BR at *
              go_loopw [11] (fun i wq => ∃ q : Nat, q ≤ es.length ∧ i = .int .i64 (q : Int) ∧ Wr wq BR ga ks ∧ Below B wk wq) (fun i _ => es.length - (intOf i).toNat)
              case atStart => exact ⟨0, Nat.zero_le _, rfl, hwr, hbB⟩
              case round =>
                obtain ⟨q, hq, rfl, hwq, hbq⟩ := hrel
                clear hwr hbB
                by_cases hlq : q < es.length
                · obtain ⟨wq, hwqe⟩ : ∃ x, x = wr := ⟨_, rfl⟩
                  subst hwqe
                  have hq0 : (q : Int) < (es.length : Int) := by omega
                  have hqk : q < ks.length := by omega
                  obtain ⟨hwb0, hge, hne⟩ := hwq.wb q hqk
                  have hkn := hks2.out q hqk
                  have hcl : ∀ W, Wr W BR ga ks → W.cell? ⟨ga, q * 3 + 2, none⟩ = some (.slice (some ⟨ks[q].1, 0, none⟩) ks[q].2 ks[q].2) := fun W h => (h.cell q hqk).1
                  have hwl : ∀ W, Wr W BR ga ks → WB W ks[q].1 ks[q].2 := fun W h => (h.wb q hqk).1
                  have hgeB : B ≤ ga := by have := hwq.ge; omega
                  clear hwb0
                  generalize ks[q].1 = kb at *
                  generalize ks[q].2 = kn at *
                  have hkB : B ≤ kb := by omega
                  go_upto_block 8 with fail
                  go_cut [12] from 78 to 94 (fun _ wc => Wr wc BR ga ks ∧ Below B wk wc)
                  case first =>
                    go_wp2
                    go_loopw [12] (fun i wp => ∃ p : Nat, i = .int .i64 (p : Int) ∧ p ≤ kn ∧ Wr wp BR ga ks ∧ Below B wk wp) (fun i _ => kn - (intOf i).toNat)
                    case atStart => exact ⟨0, rfl, Nat.zero_le _, hwq, hbq⟩
                    case round =>
                      obtain ⟨p, rfl, hp, hwp, hbp⟩ := hrel
                      have c0 := hcl wr hwp
                      by_cases hlp : p < kn
                      · have hp0 : (p : Int) < (kn : Int) := by omega
                        obtain ⟨⟨u, hu⟩, hf⟩ := (hwl wr hwp).at p hlp
                        go_wp2
                        go_roundw
                        case rel => exact ⟨p + 1, by go_num, by omega, hwp.setB kb p _ hne, hbp.setCell (by simpa using hkB) _⟩
                        case measure => simp [intOf]; omega
                      · have hp0 : ¬ (p : Int) < (kn : Int) := by omega
                        go_wp2
                        go_meet
                        exact ⟨hwp, hbp⟩
                  case rest =>
                    obtain ⟨hwq2, hbq2⟩ := hcut
                    obtain ⟨wv, hwv⟩ : ∃ x, x = wc := ⟨_, rfl⟩
                    subst hwv
                    clear hwq hbq hcl hwl
                    have hbv := hbq2.size
                    go_upto_block 10 with (go_at_call 18; refine (nspeek w.heap.size 256 lost es F (q : Int) wv (hnkB wv hbq2)).mono ?_; rintro e wp ⟨vp, rfl, hop, hbp⟩; obtain ⟨yo, yc, hye⟩ := hop.bs.slice; subst hye)
                    obtain ⟨pd, hpd⟩ : ∃ pd, pd = peekD es (q : Int) := ⟨_, rfl⟩
                    simp only [← hpd]
                    rw [← hpd] at hop
                    have hA : Below wp.heap.size wp (wp.alloc (.cells #[.int .i64 pd.frm, .int .i64 pd.to, .slice yo pd.b.length yc] 30)) := (Below.refl _ _).alloc (Nat.le_refl _) _
                    have hx0 := heap_alloc_new wp (.cells #[.int .i64 pd.frm, .int .i64 pd.to, .slice yo pd.b.length yc] 30)
                    have hwd := (hwq2.below hbp).below hA
                    have hpl : pd.b.length ≤ 1024 := by rw [hpd]; exact peek_small hsmall.out _
                    have hod := hop.keep (kept_of_below hA (fun _ => False)) (fun _ e => e.elim)
                    have hbp2 := hbp.size
                    have hbd : Below B wk (wp.alloc (.cells #[.int .i64 pd.frm, .int .i64 pd.to, .slice yo pd.b.length yc] 30)) := (hbq2.trans (hbp.mono (by omega))).trans (hA.mono (by omega))
                    have hsd : wp.heap.size < (wp.alloc (.cells #[.int .i64 pd.frm, .int .i64 pd.to, .slice yo pd.b.length yc] 30)).heap.size := by simp
                    have hop2 : ∀ k, (Value.slice yo pd.b.length yc).ownBlock = some k → wv.heap.size ≤ k ∧ k < wp.heap.size := fun k hk => by
                      rcases hop with ⟨h1, _⟩ | ⟨gg, h1, h2, h3⟩
                      · rw [h1] at hk; simp [Value.ownBlock] at hk
                      · rw [h2] at hk
                        simp only [Value.ownBlock, Option.some.injEq] at hk
                        subst hk
                        exact ⟨h1, (Array.getElem?_eq_some_iff.1 h3).1⟩
                    have hgalt := hwq2.lt
                    clear hA hop hbp hwq2 hbq2 hpd
                    generalize wp.alloc (.cells #[.int .i64 pd.frm, .int .i64 pd.to, .slice yo pd.b.length yc] 30) = wd at *
                    generalize wp.heap.size = db at *
                    go_cut [15] from 101 to 111 (fun _ wc => Wr wc BR ga ks ∧ Below B wk wc)
                    case first =>
                      rcases hod with ⟨hye, hle⟩ | ⟨gk, hgk, hye, hgk2⟩
                      · simp only [Value.slice.injEq] at hye
                        obtain ⟨rfl, hl0, rfl⟩ := hye
                        have c2 := cell_of_row wd _ 2 _ _ _ hx0
                        simp at c2
                        rw [hl0] at c2
                        clear hx0 hle hop2
                        go_wp2
                        go_loopw [15] (fun i wp => i = .int .i64 0 ∧ wp = wd) (fun _ _ => 0)
                        case atStart => exact ⟨rfl, rfl⟩
                        case round =>
                          obtain ⟨rfl, hwe⟩ := hrel
                          subst hwe
                          go_wp2
                          go_meet
                          exact ⟨hwd, hbd⟩
                      · simp only [Value.slice.injEq] at hye
                        obtain ⟨rfl, _, rfl⟩ := hye
                        have hgl := hop2 gk rfl
                        have hgg : gk ≠ ga := by omega
                        have hgd : ¬ gk = db := by omega
                        have hgB : B ≤ gk := by omega
                        have hWB : WB wd gk pd.b.length := ⟨_, hgk2, by simp⟩
                        generalize pd.b.length = pl at *
                        clear hgk2 hop2
                        go_wp2
                        go_loopw [15] (fun i wp => ∃ p : Nat, i = .int .i64 (p : Int) ∧ p ≤ pl ∧ Wr wp BR ga ks ∧ Below B wk wp ∧ wp.heap[db]? = some (.cells #[.int .i64 pd.frm, .int .i64 pd.to, .slice (some ⟨gk, 0, none⟩) pl pl] 30 (0, 0)) ∧ WB wp gk pl) (fun i _ => pl - (intOf i).toNat)
                        case atStart => exact ⟨0, rfl, Nat.zero_le _, hwd, hbd, hx0, hWB⟩
                        case round =>
                          obtain ⟨p, rfl, hp, hwp, hbp, hxp, hWp⟩ := hrel
                          clear hx0 hWB hwd hbd
                          have c2 := cell_of_row wr _ 2 _ _ _ hxp
                          simp at c2
                          by_cases hlp : p < pl
                          · have hp0 : (p : Int) < (pl : Int) := by omega
                            obtain ⟨⟨u, hu⟩, hf⟩ := hWp.at p hlp
                            go_wp2
                            go_roundw
                            case rel => exact ⟨p + 1, by go_num, by omega, hwp.setB gk p _ hgg, hbp.setCell (by simpa using hgB) _, (Below.heap_setCell _ _ _ _ (fun e => hgd e.symm)).trans hxp, hWp.set gk p _⟩
                            case measure => simp [intOf]; omega
                          · have hp0 : ¬ (p : Int) < (pl : Int) := by omega
                            go_wp2
                            go_meet
                            exact ⟨hwp, hbp⟩
                    case rest =>
                      obtain ⟨hw9, hb9⟩ := hcut
                      obtain ⟨wz, hwz⟩ : ∃ x, x = wc := ⟨_, rfl⟩
                      subst hwz
                      clear hwd hbd hx0 hod hop2
                      obtain ⟨_, ⟨u, hu⟩, hf⟩ := hw9.cell q hqk
                      go_wp2
                      go_roundw
                      case rel => exact ⟨q + 1, by omega, by go_num, hw9.setF q _, hb9.setCell (by simpa using hgeB) _⟩
                      case measure => simp [intOf]; omega
                · have hq0 : ¬ (q : Int) < (es.length : Int) := by omega
                  go_wp2
                  go_roundw
                  case rel => exact ⟨j + 1, by omega, by go_num, hbq⟩
                  case measure => simp [intOf]; omega
            · have hj0 : ¬ (j : Int) < 2 := by omega
              go_wp2
              go_meet
              exact hbr
        case rest =>
          obtain ⟨wz, hwz⟩ : ∃ x, x = wc := ⟨_, rfl⟩
          subst hwz
          have hbz : Below B wk wz := hcut
          have hdgz := hdgk.below (hB.symm ▸ hbz)
          go_wp2_with (first
            | (go_at_call 13; refine (nsall w.heap.size 256 lost es F wz (hnkB wz hbz) (by omega)).mono ?_; rintro e wa ⟨va, ga, rsa, rfl, hma, hda, hba⟩)
            | (go_at_call 24; refine (datagrams_same _ _ es wa (hda.dgs hma) (hdgz.below hba) (by omega)).mono ?_; rintro e wb ⟨rfl, hbb⟩))
          go_ret
          exact ⟨rfl, hBk.trans ((hbz.trans ((hba.mono (by have := hbz.size; omega)).trans (hbb.mono (by have := hbz.size; have := hba.size; omega)))).mono (by have := hBk.size; omega))⟩

end Go.Proofs.Ytibgpbflchfbnaa
