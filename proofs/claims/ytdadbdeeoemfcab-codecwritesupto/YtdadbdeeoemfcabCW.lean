/- CodecWrites: the walk. -/
import Derived.Test.YtdadbdeeoemfcabCWMath
import Derived.Deep.RegionHeldLaw
namespace Go.Proofs.Ytdadbdeeoemfcab
open Go.RowKit

set_option maxRecDepth 20000 in
set_option maxHeartbeats 8000000 in
theorem writes_any (v : Value) (ds : List LayD) (w : World) (hv : Lays w v ds) (hl : (layAll ds).length ≤ 100000000) (hn : ds.length ≤ 100000000) :
    Calls Try.prog 6 #[v] w fun e w' => e = .returned (.bool true) ∧ Below w.heap.size w w' := by
  obtain ⟨ao, cap, rfl, hx⟩ := hv
  obtain ⟨i, hi, hz0, hz1, hz2⟩ := info_parts Try.infoByte
  go_enter Try.func6, Try.ntmps6
  go_wp2_with fail
  refine (newWriter_any _).mono ?_
  rintro e w1 ⟨rfl, hw1, hb1⟩
  go_wp2_with fail
  refine (known_any _).mono ?_
  rintro e w2 ⟨rfl, hb2⟩
  have hT : TwoL w2 w.heap.size (.slice none 0 0) (.slice none 0 0) [] [] := ⟨hw1.below hb2, World.ownsRow_nil _ _ _ _, fun q hq => by cases hq⟩
  have hB2 : Below w.heap.size w w2 := hb1.trans (hb2.mono hb1.size)
  clear hb1 hb2 hw1
  go_wp2
  go_loopw [3, 5] (fun want i wr => ∃ (k : Nat) (vw : Value), k ≤ ds.length ∧ i = .int .i64 (k : Int) ∧ TwoL wr w.heap.size vw want (layAll (ds.take k)) (layAll (ds.take k)) ∧ Below w.heap.size w wr) (fun _ i _ => ds.length - (intOf i).toNat)
  case atStart => exact ⟨0, _, Nat.zero_le _, rfl, hT, hB2⟩
  case round =>
    obtain ⟨k, vw, hk, rfl, h, hbr⟩ := hrel
    clear hT hB2
    have hzr := hbr.size
    have hwl := h.wr.lt
    obtain ⟨wo, wn, wcp, hwant⟩ := own_form h.own
    subst hwant
    by_cases hlt : k < ds.length
    · obtain ⟨blk, off, rfl, hblk, hat⟩ := hx (by intro e; subst e; simp at hlt)
      have hstep := layAll_step_le ds k hlt
      have HT : Hid (layAll (ds.take (k + 1)) = layAll (ds.take k) ++ layOne ds[k]) := layAll_take ds k hlt
      have hA := hat k hlt
      clear hat hx
      generalize ds[k] = d at *
      generalize layAll (ds.take k) = L at *
      have a0 := (hA.below hbr hblk).c0
      rcases pick3 d.what with h0 | h0 | h0
      · have HL : Hid (layOne d = [d.b]) := layOne_byte h0
        have HP : Hid (pickN d.what 3 = 0) := h0
        have a1 := (hA.below hbr hblk).c1
        rw [layOne_byte h0] at hstep
        clear h0
        simp at hstep
        go_wp2_with (first
          | (go_at_call 17; refine (pick_any d.what 3 (by omega) (by omega) _).mono ?_; rintro e w' ⟨rfl, rfl⟩; rw [HP.out])
          | (go_at_call 18; refine (wbyte_to _ _ vw _ _ d.b rfl h.wr (by omega)).mono ?_; rintro e w2 ⟨rfl, v2, hto⟩; have t2 := h.write hto; have hb2 := hbr.trans t2.2; have a1' := (hA.below hb2 hblk).c1; have q3 : Below w2.heap.size w2 (w2.alloc (.cells #[.int .u8 (d.b.toNat : Int)] 5)) := (Below.refl _ _).alloc (Nat.le_refl _) _; have t3 := t2.1.later q3; have z2 := t2.2.size)
          | (at_builtin; refine wpList_append_bs rfl (.tmp 75) (.tmp 81) 30 rfl (w.heap.size + 1) 5 i Try.underlying30 hi hz0 hz1 hz2 (.slice wo wn wcp) L.length L rfl rfl t3.own _ rfl [d.b] (Bs.one w2 d.b _) ((by simp; omega)) ((by simp; omega)) ?_; intro v4 w4 ho4 hk4 hm4))
        have t4 := t3.grow ho4 hk4 hm4
        go_roundw
        case rel =>
          refine ⟨k + 1, v2, by omega, by go_num, ?_, (hb2.trans (q3.mono (by omega))).trans t4.2⟩
          rw [HT.out, HL.out]
          exact t4.1
        case measure => simp [intOf]; omega
      · have HL : Hid (layOne d = numB d.n) := layOne_num h0
        have HP : Hid (pickN d.what 3 = 1) := h0
        have a2 := (hA.below hbr hblk).c2
        have hdn := hA.n
        have hnl := length_numB d.n
        rw [layOne_num h0] at hstep
        clear h0
        go_wp2_with (first
          | (go_at_call 17; refine (pick_any d.what 3 (by omega) (by omega) _).mono ?_; rintro e w' ⟨rfl, rfl⟩; rw [HP.out])
          | (go_at_call 19; refine (wnum_any _ _ vw _ d.n hdn h.wr (by omega)).mono ?_; rintro e w2 ⟨rfl, v2, hto⟩; have t2 := h.write hto; have hb2 := hbr.trans t2.2; have a2' := (hA.below hb2 hblk).c2; have z2 := t2.2.size)
          | (go_at_call 20; refine (refNum_any d.n hdn w2).mono ?_; rintro e w3 ⟨v3, rfl, ho3, hb3⟩; have t3 := t2.1.later hb3; obtain ⟨ao3, n3, c3, hv3⟩ := own_form ho3; subst hv3; have hs3 := Bs.ofOwns ho3; have z3 := hb3.size)
          | (at_builtin; refine wpList_append_bs rfl (.tmp 92) (.tmp 98) 30 rfl (w.heap.size + 1) 5 i Try.underlying30 hi hz0 hz1 hz2 (.slice wo wn wcp) L.length L rfl rfl t3.own _ rfl (numB d.n) hs3 (by omega) (by omega) ?_; intro v4 w4 ho4 hk4 hm4))
        have t4 := t3.grow ho4 hk4 hm4
        go_roundw
        case rel =>
          refine ⟨k + 1, v2, by omega, by go_num, ?_, (hb2.trans (hb3.mono (by omega))).trans t4.2⟩
          rw [HT.out, HL.out]
          exact t4.1
        case measure => simp [intOf]; omega
      · have HL : Hid (layOne d = numB d.t.length ++ d.t) := layOne_text h0
        have HP : Hid (pickN d.what 3 = 2) := h0
        rw [layOne_text h0, List.length_append] at hstep
        clear h0
        have hnl := length_numB d.t.length
        obtain ⟨tv, a3w, ht0⟩ := hA.c3
        have k3 : ∀ W, Below w.heap.size w W → W.cell? ⟨blk, off + k * 4 + 3, none⟩ = some tv := fun W hb => (hb.cell (p := ⟨blk, off + k * 4 + 3, none⟩) hblk).trans a3w
        have HTB : Hid (∀ W, Below w.heap.size w W → Bs W tv d.t) := fun W hb => ht0.below hb
        obtain ⟨ta, tc, hte, hrest⟩ := id ht0
        subst hte
        clear hrest a3w ht0
        obtain ⟨wa, hwa⟩ : ∃ wa, wa = wr.alloc (.cells #[] 5) := ⟨_, rfl⟩
        have qa : Below wr.heap.size wr wa := by rw [hwa]; exact (Below.refl _ _).alloc (Nat.le_refl _) _
        have za : wa.heap.size = wr.heap.size + 1 := by rw [hwa]; simp
        have hown0 : wa.ownsRow wr.heap.size 5 1 (.slice (some ⟨wr.heap.size, 0, none⟩) 0 0) 0 (([] : List UInt8).map bv) := by rw [hwa]; exact World.ownsRow_lit wr #[] 0 (Nat.le_refl _) (by simp [maxLen]) rfl
        have ha := h.later qa
        have hba := hbr.trans (qa.mono hzr)
        have b3 := k3 wr hbr
        have b3a := k3 wa hba
        have hTa := HTB.out wa hba
        have HW : Hid (wr.alloc (.cells #[] 5) = wa) := hwa.symm
        clear hwa
        have b3x : (wr.alloc (.cells #[] 5)).cell? ⟨blk, off + k * 4 + 3, none⟩ = some (.slice ta d.t.length tc) := by rw [HW.out]; exact b3a
        go_wp2_with (first
          | (go_at_call 17; refine (pick_any d.what 3 (by omega) (by omega) _).mono ?_; rintro e w' ⟨rfl, rfl⟩; rw [HP.out])
          | (at_builtin; rw [HW.out]; go_must (refine wpList_append_bs rfl (.tmp 30) (.tmp 35) 30 rfl wr.heap.size 5 i Try.underlying30 hi hz0 hz1 hz2 (.slice (some ⟨wr.heap.size, 0, none⟩) 0 0) 0 [] rfl rfl hown0 _ rfl d.t hTa (by omega) (by omega) ?_); intro vo w2 ho2 hk2 hm2; rw [List.nil_append] at ho2; have z2 := hk2.size; have t2 : TwoL w2 w.heap.size vw (.slice wo wn wcp) L L := ha.keep hk2 (fun q hq e => h.wr.new_apart (Nat.le_of_eq (by simpa [Value.ownBlock] using e)) hq) (fun q hq e => by have := h.nb hq; simp [Value.ownBlock] at e; omega); have hb2 : Below w.heap.size w w2 := hba.trans (hk2.below (by omega) (fun q hq e => by simp [Value.ownBlock] at e; omega)); have hnew : ∀ q, vo.ownBlock = some q → ¬ WS w.heap.size vw q := fun q hq => h.wr.new_apart (ho2.lt q hq).1; obtain ⟨ao2, n2, c2, hv2⟩ := own_form ho2; subst hv2; have hob := Bs.ofOwns ho2; have hap : ∀ q, d.t ≠ [] → (Value.slice ao2 n2 c2).ownBlock = some q → q < w2.heap.size → ¬ WS w.heap.size vw q := fun q _ hq _ => hnew q hq)
          | (go_at_call 21; refine (wtext_any w2 _ vw _ _ d.t hob hap t2.wr (by omega)).mono ?_; rintro e w3 ⟨rfl, v3, hto3⟩; have t3 := t2.write hto3; have z3 := t3.2.size; have hb3 := hb2.trans t3.2; have b33 := k3 w3 hb3; have ho3 := own_later ho2 hto3.kept (fun q hq => hnew q hq))
          | (go_at_call 22; refine (refText_any _ d.t w3 (HTB.out w3 hb3) (by omega)).mono ?_; rintro e w4 ⟨v4, rfl, ho4, hb4⟩; have t4 := t3.1.later hb4; have z4 := hb4.size; have hb44 := hb3.trans (hb4.mono (by omega)); obtain ⟨ao4, n4, c4, hv4⟩ := own_form ho4; subst hv4; have hs4 := Bs.ofOwns ho4; have ho4' := own_later ho3 (kept_of_below hb4 (fun _ => False)) (fun _ _ e => e))
          | (at_builtin; go_must (refine wpList_append_bs rfl (.tmp 40) (.tmp 46) 30 rfl (w.heap.size + 1) 5 i Try.underlying30 hi hz0 hz1 hz2 (.slice wo wn wcp) L.length L rfl rfl t4.own _ rfl (numB d.t.length ++ d.t) hs4 ((by simp; omega)) (by omega) ?_); intro v5 w5 ho5 hk5 hm5; have t5 := t4.grow ho5 hk5 hm5))
        have hb5 := hb44.trans t5.2
        have z5 := t5.2.size
        have hO5 := own_later ho4' hk5 (fun q hq e => by have := h.nb e; have := ho2.lt q hq; omega)
        obtain ⟨no, nn, nc, hv5⟩ := own_form ho5
        subst hv5
        have ko := cw_string (Bs.ofOwns hO5)
        have kt := cw_string (HTB.out w5 hb5)
        have kc : ∀ W, Below w5.heap.size w5 W → W.cell? ⟨blk, off + k * 4 + 3, none⟩ = some (.slice ta d.t.length tc) := fun W hb => k3 W (hb5.trans (hb.mono (by omega)))
        have b0 : Below w5.heap.size w5 w5.drew := (Below.refl _ _).drew
        have t6 := t5.1.later b0
        have hb6 := hb5.trans (b0.mono (B' := w.heap.size) (by omega))
        have hO6 := own_later hO5 (kept_of_below b0 (fun _ => False)) (fun _ _ e => e)
        have HNEW : Hid (∀ q, (Value.slice ao2 n2 c2).ownBlock = some q → ¬ WS w.heap.size v3 q ∧ (Value.slice no nn nc).ownBlock ≠ some q) := by
          intro q hq
          have hq2 := ho2.lt q hq
          refine ⟨?_, fun e => ?_⟩
          · rintro (e | e)
            · omega
            · rcases hto3.moved q e with e1 | e1
              · exact hnew q hq (Or.inr e1)
              · omega
          · rcases hm5 q e with e1 | e1
            · have := h.nb e1; omega
            · omega
        clear hown0 ha hba b3 b3a b3x hTa k3 HTB hk2 hm2 t2 hb2 hob hap hto3 t3 hb3 b33 ho3 ho4 hb4 t4 hb44 hs4 ho4' ho5 hk5 hm5 t5 hO5 ho2 a0 hA h hbr
        go_region_held (fun W => Below w5.heap.size w5 W) (assumption) (fail)
        clear ko kt kc
        rcases own_wrt hO6 with ⟨he, hn0⟩ | ⟨q, cp, he, hgq, hwq⟩
        · simp only [Value.slice.injEq] at he
          obtain ⟨rfl, rfl, rfl⟩ := he
          clear hn0 hO6 HNEW
          go_wp2
          go_loopw [7] (fun i wq => i = .int .i64 0 ∧ wq = w5.drew) (fun _ _ => 0)
          case atStart => exact ⟨rfl, rfl⟩
          case round =>
            obtain ⟨rfl, rfl⟩ := hrel
            go_wp2
            go_roundw
            case rel =>
              refine ⟨k + 1, v3, by omega, by go_num, ?_, hb6⟩
              rw [HT.out, HL.out]
              exact t6
            case measure => simp [intOf]; omega
        · simp only [Value.slice.injEq] at he
          obtain ⟨rfl, rfl, rfl⟩ := he
          clear hO6
          have hqw := HNEW.out q rfl
          have hqB : w.heap.size ≤ q := by omega
          clear HNEW hgq
          go_wp2
          go_loopw [7] (fun i wq => ∃ j : Nat, j ≤ d.t.length ∧ i = .int .i64 (j : Int) ∧ TwoL wq w.heap.size v3 (.slice no nn nc) (L ++ (numB d.t.length ++ d.t)) (L ++ (numB d.t.length ++ d.t)) ∧ Below w.heap.size w wq ∧ Wrt wq q d.t.length) (fun i _ => d.t.length - (intOf i).toNat)
          case atStart => exact ⟨0, Nat.zero_le _, rfl, t6, hb6, hwq⟩
          case round =>
            obtain ⟨j, hj, rfl, tj, hbj, hwj⟩ := hrel
            clear t6 hb6 hwq
            by_cases hjl : j < d.t.length
            · obtain ⟨⟨uu, cj⟩, fj⟩ := hwj.cell j hjl
              go_wp2
              go_roundw
              case rel =>
                have hks := Kept.setCell wr ⟨q, j, none⟩ (.int .u8 238)
                exact ⟨j + 1, by omega, by go_num, tj.keep hks (fun x hx e => hqw.1 (by have e2 : x = q := e; exact e2 ▸ hx)) (fun x hx e => hqw.2 (by have e2 : x = q := e; exact e2 ▸ hx)), hbj.trans (hks.below (by have := hbj.size; omega) (fun x hx e => by simp at e; omega)), hwj.set j _⟩
              case measure => simp [intOf]; omega
            · go_wp2
              go_roundw
              case rel =>
                refine ⟨k + 1, v3, by omega, by go_num, ?_, hbj⟩
                rw [HT.out, HL.out]
                exact tj
              case measure => simp [intOf]; omega
    · have hkl : k = ds.length := by omega
      rw [hkl, List.take_length] at h
      clear hkl hx
      generalize layAll ds = L at *
      have s0 := Bs.ofOwns h.own
      go_wp2_with (go_at_call 23; refine (wbytes_any _ _ vw _ h.wr (by omega)).mono ?_; rintro e w2 ⟨rfl, hg, hb2, hlt2⟩; have t2 := h.later hb2; have s1 := cw_string (Bs.ofBlock (cap := L.length) (l := L) hg (List.take_of_length_le (by simp)) (Nat.le_refl _)) w2 (Below.refl _ _); have s2 := cw_string (Bs.ofOwns t2.own) w2 (Below.refl _ _))
      have hB2 : Below w.heap.size w w2 := hbr.trans (hb2.mono hzr)
      have hw2 : Wrt w2 wr.heap.size L.length := ⟨_, hg, by simp⟩
      have hnw : (∀ q, WS w.heap.size vw q → q ≠ wr.heap.size) ∧ (∀ q, (Value.slice wo wn wcp).ownBlock = some q → q ≠ wr.heap.size) := by
        refine ⟨fun q hq e => ?_, fun q hq e => by have := h.nb hq; omega⟩
        exact h.wr.new_apart (Nat.le_of_eq e.symm) hq
      have hqB : w.heap.size ≤ wr.heap.size := hzr
      clear hg hb2 hlt2 s0 s1 s2 h hbr hzr hwl
      generalize wr.heap.size = qa at *
      go_loopw [10] (fun i wq => ∃ j : Nat, j ≤ L.length ∧ i = .int .i64 (j : Int) ∧ TwoL wq w.heap.size vw (.slice wo wn wcp) L L ∧ Below w.heap.size w wq ∧ Wrt wq qa L.length) (fun i _ => L.length - (intOf i).toNat)
      case atStart => exact ⟨0, Nat.zero_le _, rfl, t2, hB2, hw2⟩
      case round =>
        obtain ⟨j, hj, rfl, tj, hbj, hwj⟩ := hrel
        clear t2 hB2 hw2
        by_cases hjl : j < L.length
        · obtain ⟨⟨uu, cj⟩, fj⟩ := hwj.cell j hjl
          go_wp2
          go_roundw
          case rel =>
            have hks := Kept.setCell wr ⟨qa, j, none⟩ (.int .u8 238)
            exact ⟨j + 1, by omega, by go_num, tj.keep hks (fun x hx e => hnw.1 x hx e) (fun x hx e => hnw.2 x hx e), hbj.trans (hks.below (by have := hbj.size; omega) (fun x hx e => by simp at e; omega)), hwj.set j _⟩
          case measure => simp [intOf]; omega
        · have zj := hbj.size
          have kw := cw_string (Bs.ofOwns tj.own)
          have b0 : Below wr.heap.size wr wr.drew := (Below.refl _ _).drew
          have tb := tj.later b0
          clear hwj hnw
          go_wp2
          go_region_held (fun W => Below wr.heap.size wr W) (assumption) ((go_at_call 23; refine (wbytes_any _ _ vw _ tb.wr (by omega)).mono ?_; rintro e w6 ⟨rfl, hg6, hb6, hlt6⟩; have b6 : Below wr.heap.size wr w6 := b0.trans hb6; have s6 := Bs.ofBlock (cap := L.length) (l := L) hg6 (List.take_of_length_le (by simp)) (Nat.le_refl _); have kr : ∀ W, Below w6.heap.size w6 W → (convert 30 9 (.slice (some ⟨wr.heap.size, 0, none⟩) L.length L.length)).run Try.prog W = .ok (.string ⟨L.toArray⟩) W := cw_string s6; have k6 := kr w6 (Below.refl _ _); have w6w := kw w6 b6))
          clear kw kr
          go_wp2
          go_ret
          exact ⟨rfl, hbj.trans (b6.mono (by omega))⟩

end Go.Proofs.Ytdadbdeeoemfcab
