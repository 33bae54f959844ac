/- The plain saying of the Reader: texts. -/
import Derived.Test.YtmnajmlfioiboaaWalkL
import Derived.Test.YtmnajmlfioiboaaCutMath
import Derived.Test.YtmnajmlfioiboaaStep
namespace Go.Proofs.Ytmnajmlfioiboaa
open Go.RowKit

theorem hidden {p : Prop} (h : p) : Hid p := h
theorem Bs.cap_le {w : World} {ao : Option Addr} {n cap : Nat} {l : List UInt8} (h : Bs w (.slice ao n cap) l) : l.length ≤ cap := by
  obtain ⟨_, _, e, hc, _⟩ := h
  cases e
  exact hc.1

theorem cutS_bs {w : World} {fb cap : Nat} {ao : Option Addr} {L T : List UInt8} {p p1 e n : Nat} (h : RF w fb ao cap L p e) (hT : T = (L.drop p1).take n) (hn : p1 + n ≤ L.length) (_hc : ¬ cap = p1) (o : Obj) : Bs (w.alloc o).drew (.slice (Option.map (fun x => x.add p1) ao) (((p1 : Int) + (n : Int)).toNat - p1) (cap - p1)) T := by
  subst hT
  have h1 := (h.bs.post p1 (by omega)).pre n (by rw [List.length_drop]; omega)
  rw [show ((p1 : Int) + (n : Int)).toNat - p1 = n by omega]
  exact h1.below (((Below.refl _ _).alloc (Nat.le_refl _) _).drew)
theorem cutE_bs (w : World) (ao : Option Addr) {T : List UInt8} (hT : T = []) : Bs w (.slice ao 0 0) T := by
  subst hT
  exact ⟨ao, 0, rfl, ⟨by simp, fun _ => rfl⟩, fun h => absurd rfl h⟩

set_option maxRecDepth 20000 in
set_option maxHeartbeats 2000000 in
theorem ftext_nat (w : World) (fb cap : Nat) (ao : Option Addr) (L : List UInt8) (p e : Nat) (m : Nat) (hm0 : 0 < m) (hm : m ≤ 9223372036854775807) (h : RF w fb ao cap L p e) :
    Calls Try.prog 35 #[.pointer (some ⟨fb, 0, none⟩), .int .i64 (m : Int)] w fun r w' => ∃ v, r = .returned v ∧ Bs w' v (rText L p e m).1 ∧ FTo w w' fb ao cap L (rText L p e m).2.1 (rText L p e m).2.2 := by
  have h1 := h.c1
  have h2 := h.c2
  have hlen := h.len
  have hn1 := rNum_lt L p e m
  by_cases he : e = 0
  · subst he
    have hq := fnum_any w fb cap ao L p 0 m h
    by_cases hb : (rNum L p 0 m).2.2 = 0
    · by_cases hs : L.length - (rNum L p 0 m).2.1 < (rNum L p 0 m).1
      · rw [rText_short hb hs]
        generalize hN : rNum L p 0 m = N at *
        obtain ⟨n, p1, c⟩ := N
        simp only at *
        subst hb
        have HQ := hidden hq
        clear hN hq
        have hs2 : ((L.length - p1 : Nat) : Int) < (n : Int) := by omega
        go_enter Try.func35, Try.ntmps35
        go_wp2_with (go_at_call 34; refine HQ.out.mono ?_; rintro r w1 ⟨rfl, hto1⟩; have c0 := hto1.rd.c0; have c1 := hto1.rd.c1; have c2 := hto1.rd.c2; have l1 := hto1.rd.le)
        go_quiet (fail)
        go_wp2_with (go_at_call 37; refine (fwrong_any _ fb cap _ L p1 0 (hto1.rd.below (below_drewN _ _)) p 20 20 rfl h.le).mono ?_; rintro r w4 ⟨rfl, hto⟩)
        go_ret
        exact ⟨_, rfl, Bs.nil _, hto1.trans ((FTo.ofBelow hto1.rd (below_drewN _ _)).trans hto)⟩
      · rw [rText_ok hb hs]
        generalize hN : rNum L p 0 m = N at *
        obtain ⟨n, p1, c⟩ := N
        simp only at *
        subst hb
        have HQ := hidden hq
        clear hN hq
        obtain ⟨T, hT⟩ : ∃ T, T = (L.drop p1).take n := ⟨_, rfl⟩
        have HTl : 0 + T.length ≤ 140737488355328 := by rw [hT]; simp; omega
        rw [← hT]
        have HT := hidden hT
        clear hT
        go_enter Try.func35, Try.ntmps35
        go_wp2_with (go_at_call 34; refine HQ.out.mono ?_; rintro r w1 ⟨rfl, hto1⟩; have c0 := hto1.rd.c0; have c1 := hto1.rd.c1; have c2 := hto1.rd.c2; have l1 := hto1.rd.le)
        go_quiet (fail)
        go_wp2
        have hW := hto1.rd.below (below_drewN w1 nq)
        have hB := hto1.trans (FTo.ofBelow hto1.rd (below_drewN w1 nq))
        generalize w1.drewN nq = W at *
        clear c0 c1 c2 hto1 h1 h2
        obtain ⟨i, hi, hz0, hz1, hz2⟩ := info_parts Try.infoByte
        have k0 := hW.c0
        have k1 := hW.c1
        have kz := hW.size
        have hcap := hW.bs.cap_le
        have b1 : (0 : Int) ≤ (p1 : Int) := by omega
        have b2 : (p1 : Int) ≤ (p1 : Int) + (n : Int) := by omega
        have b3 : (p1 : Int) + (n : Int) ≤ (cap : Int) := by omega
        have b4 : (n : Int) ≤ 140737488355328 := by omega
        have d0 : W.drew.cell? ⟨fb, 0, none⟩ = some (.slice ao L.length cap) := k0
        have d1 : W.drew.cell? ⟨fb, 1, none⟩ = some (.int .i64 (p1 : Int)) := k1
        have e0 : (W.alloc (Obj.cells #[] 5)).drew.cell? ⟨fb, 0, none⟩ = some (.slice ao L.length cap) := (World.cell?_of_block (a := ⟨fb, 0, none⟩) (Below.heap_alloc W _ fb kz)).trans k0
        have e1 : (W.alloc (Obj.cells #[] 5)).drew.cell? ⟨fb, 1, none⟩ = some (.int .i64 (p1 : Int)) := (World.cell?_of_block (a := ⟨fb, 1, none⟩) (Below.heap_alloc W _ fb kz)).trans k1
        have g1 : IntKind.i64.wrap (n : Int) = (n : Int) := by rw [IntKind.wrap_i64]; omega
        have g2 : IntKind.i64.wrap ((p1 : Int) + (n : Int)) = (p1 : Int) + (n : Int) := by rw [IntKind.wrap_i64]; omega
        by_cases hcp : cap = p1
        · subst hcp
          have hn0 : n = 0 := by omega
          have HB := hidden (cutE_bs (W.alloc (Obj.cells #[] 5)).drew ao (show T = [] by rw [HT.out, hn0]; simp))
          clear hn0
          go_region_held_law (fun w' => w'.cell? ⟨fb, 0, none⟩ = some (.slice ao L.length cap) ∧ w'.cell? ⟨fb, 1, none⟩ = some (.int .i64 (cap : Int))) (exact ⟨by assumption, by assumption⟩) ((refine step_append_bs (by rfl) (.tmp 43) (.tmp 59) 24 (by rfl) W.heap.size 5 i Try.underlying24 hi hz0 hz1 hz2 (.slice (some ⟨W.heap.size, 0, none⟩) 0 0) 0 [] (by rfl) rfl (World.ownsRow_lit W #[] 0 (Nat.le_refl _) (by simp [maxLen]) rfl).drew _ (by rfl) T ?_ HTl (by simp) ?_; exact HB.out; intro v5 w5 hown5 hkept5 hmoved5; have hb5 := own_below (World.ownsRow_lit W #[] 0 (Nat.le_refl _) (by simp [maxLen]) rfl).drew hkept5 (by simp); have q0 : w5.cell? ⟨fb, 0, none⟩ = some (.slice ao L.length cap) := (hb5.cell (p := ⟨fb, 0, none⟩) kz).trans e0; have q1 : w5.cell? ⟨fb, 1, none⟩ = some (.int .i64 (cap : Int)) := (hb5.cell (p := ⟨fb, 1, none⟩) kz).trans e1; have f5 : w5.frozen? ⟨fb, 1, none⟩ = false := (hb5.frozen (p := ⟨fb, 1, none⟩) kz).trans ((World.frozen?_of_block (a := ⟨fb, 1, none⟩) (Below.heap_alloc W _ fb kz)).trans (hW.free 1)); obtain ⟨ao5, n5, cp5, rfl⟩ := own_form hown5))
          go_wp2
          go_ret
          have hW5 := hW.below ((((Below.refl _ _).alloc (Nat.le_refl _) (Obj.cells #[] 5)).drew).trans hb5)
          have hs5 := hW5.setPlace (cap + n) ((cap : Int) + (n : Int)) (by omega) (by omega)
          have ho5 := Bs.ofOwns hown5
          rw [List.nil_append] at ho5
          refine ⟨_, rfl, ho5.kept (Kept.setCell w5 _ _) ?_, (hB.trans (FTo.ofBelow hW ((((Below.refl _ _).alloc (Nat.le_refl _) (Obj.cells #[] 5)).drew).trans hb5))).trans ⟨hs5.1, hs5.2⟩⟩
          intro k _ hk _ e
          have := hown5.lt k hk
          simp only at e
          omega
        · have HB := hidden (cutS_bs hW (n := n) HT.out (by omega) hcp (Obj.cells #[] 5))
          go_region_held_law (fun w' => w'.cell? ⟨fb, 0, none⟩ = some (.slice ao L.length cap) ∧ w'.cell? ⟨fb, 1, none⟩ = some (.int .i64 (p1 : Int))) (exact ⟨by assumption, by assumption⟩) ((refine step_append_bs (by rfl) (.tmp 43) (.tmp 59) 24 (by rfl) W.heap.size 5 i Try.underlying24 hi hz0 hz1 hz2 (.slice (some ⟨W.heap.size, 0, none⟩) 0 0) 0 [] (by rfl) rfl (World.ownsRow_lit W #[] 0 (Nat.le_refl _) (by simp [maxLen]) rfl).drew _ (by rfl) T ?_ HTl (by simp) ?_; exact HB.out; intro v5 w5 hown5 hkept5 hmoved5; have hb5 := own_below (World.ownsRow_lit W #[] 0 (Nat.le_refl _) (by simp [maxLen]) rfl).drew hkept5 (by simp); have q0 : w5.cell? ⟨fb, 0, none⟩ = some (.slice ao L.length cap) := (hb5.cell (p := ⟨fb, 0, none⟩) kz).trans e0; have q1 : w5.cell? ⟨fb, 1, none⟩ = some (.int .i64 (p1 : Int)) := (hb5.cell (p := ⟨fb, 1, none⟩) kz).trans e1; have f5 : w5.frozen? ⟨fb, 1, none⟩ = false := (hb5.frozen (p := ⟨fb, 1, none⟩) kz).trans ((World.frozen?_of_block (a := ⟨fb, 1, none⟩) (Below.heap_alloc W _ fb kz)).trans (hW.free 1)); obtain ⟨ao5, n5, cp5, rfl⟩ := own_form hown5))
          go_wp2
          go_ret
          have hW5 := hW.below ((((Below.refl _ _).alloc (Nat.le_refl _) (Obj.cells #[] 5)).drew).trans hb5)
          have hs5 := hW5.setPlace (p1 + n) ((p1 : Int) + (n : Int)) (by omega) (by omega)
          have ho5 := Bs.ofOwns hown5
          rw [List.nil_append] at ho5
          refine ⟨_, rfl, ho5.kept (Kept.setCell w5 _ _) ?_, (hB.trans (FTo.ofBelow hW ((((Below.refl _ _).alloc (Nat.le_refl _) (Obj.cells #[] 5)).drew).trans hb5))).trans ⟨hs5.1, hs5.2⟩⟩
          intro k _ hk _ e
          have := hown5.lt k hk
          simp only at e
          omega
    · rw [rText_bad hb]
      have t : (((rNum L p 0 m).2.2 : Int) != 0) = true := by rw [bne_iff_ne]; omega
      have HQ := hidden hq
      clear hb hq
      go_enter Try.func35, Try.ntmps35
      go_wp2_with (go_at_call 34; refine HQ.out.mono ?_; rintro r w1 ⟨rfl, hto1⟩; have c2 := hto1.rd.c2)
      go_ret
      exact ⟨_, rfl, Bs.nil _, hto1⟩
  · have t : ((e : Int) != 0) = true := by rw [bne_iff_ne]; omega
    rw [rText_wrong he]
    clear he
    go_enter Try.func35, Try.ntmps35
    go_wp2
    go_ret
    exact ⟨_, rfl, Bs.nil _, FTo.refl h⟩

end Go.Proofs.Ytmnajmlfioiboaa
