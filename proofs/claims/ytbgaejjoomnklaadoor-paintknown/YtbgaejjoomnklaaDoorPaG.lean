/- New, Turn. -/
import Derived.Test.YtbgaejjoomnklaaDoorPaF
import Derived.Carry
namespace Go.Proofs.YtbgaejjoomnklaaDoor
open Go.RowKit

set_option maxRecDepth 20000 in
set_option maxHeartbeats 400000 in
theorem pnew_nil (n : Int) (w : World) :
    Calls Tryd.prog 11 #[.pointer none, .int .i64 n] w fun e w' => e = .returned (.tuple #[.pointer none, .int .i64 1]) ∧ Below w.heap.size w w' := by
  by_cases h : n < 1 ∨ 64 < n
  · have hN := newU_no n h w
    clear h
    go_enter Tryd.func11, Tryd.ntmps11
    go_wp2_with fail
    refine hN.mono ?_
    rintro e _ ⟨rfl, rfl⟩
    go_wp2
    go_ret2
    exact ⟨rfl, Below.refl _ _⟩
  · obtain ⟨M, rfl⟩ : ∃ M : Nat, n = (M : Int) := ⟨n.toNat, by omega⟩
    have hN := newU_ok 0 M (by omega) (by omega) w
    clear h
    go_enter Tryd.func11, Tryd.ntmps11
    go_wp2_with fail
    refine hN.mono ?_
    rintro e w1 ⟨rfl, _, hb1⟩
    clear hN
    go_wp2
    go_ret2
    exact ⟨rfl, hb1⟩
set_option maxRecDepth 20000 in
set_option maxHeartbeats 400000 in
theorem pnew_no (hb : Nat) (n : Int) (h : n < 1 ∨ 64 < n) (w : World) :
    Calls Tryd.prog 11 #[.pointer (some ⟨hb, 0, none⟩), .int .i64 n] w fun e w' => e = .returned (.tuple #[.pointer none, .int .i64 1]) ∧ w = w' := by
  have hN := newU_no n h w
  clear h
  go_enter Tryd.func11, Tryd.ntmps11
  go_wp2_with fail
  refine hN.mono ?_
  rintro e _ ⟨rfl, rfl⟩
  clear hN
  go_wp2
  go_ret2
  exact ⟨rfl, rfl⟩
set_option maxRecDepth 20000 in
set_option maxHeartbeats 1000000 in
theorem pnew_ok (hb base M : Nat) (h1 : 1 ≤ M) (h2 : M ≤ 64) (w : World) (hbase : base ≤ w.heap.size) :
    Calls Tryd.prog 11 #[.pointer (some ⟨hb, 0, none⟩), .int .i64 (M : Int)] w fun e w' => ∃ pb G, e = .returned (.tuple #[.pointer (some ⟨pb, 0, none⟩), .int .i64 0]) ∧ PN w' pb hb base G (PSt.new M) ∧ (∀ k, G k → w.heap.size ≤ k) ∧ Below w.heap.size w w' := by
  have hN := newU_ok base M h1 h2 w
  have hmm := @run_makeMap Tryd.prog
  clear h1 h2
  go_enter Tryd.func11, Tryd.ntmps11
  go_wp2_with fail
  refine hN.mono ?_
  rintro e w1 ⟨rfl, x1, hb1⟩
  have HX : Hid _ := hidden x1
  have hz := x1.box.lt
  clear hN x1
  go_wp2
  go_ret2
  have b1 : Below w1.heap.size w1 (w1.alloc (.map #[] 0)) := bel_alloc _ _
  have b2 : Below (w1.alloc (.map #[] 0)).heap.size _ ((w1.alloc (.map #[] 0)).alloc (.map #[] 0)) := bel_alloc _ _
  have b3 : Below ((w1.alloc (.map #[] 0)).alloc (.map #[] 0)).heap.size _ (((w1.alloc (.map #[] 0)).alloc (.map #[] 0)).alloc (.cells #[.pointer (some ⟨hb, 0, none⟩), .int .u64 0, .pointer (some ⟨w.heap.size, 0, none⟩), .map (some w1.heap.size), .map (some (w1.heap.size + 1))] 87)) := bel_alloc _ _
  have b12 : Below w1.heap.size w1 ((w1.alloc (.map #[] 0)).alloc (.map #[] 0)) := b1.trans (b2.mono (by simp))
  have b13 := b12.trans (b3.mono (by simp; omega))
  have m1 : MQ eU (w1.alloc (.map #[] 0)) w1.heap.size [] := MQ.made eU w1
  have m2 : MQ eI ((w1.alloc (.map #[] 0)).alloc (.map #[] 0)) (w1.heap.size + 1) [] := by
    have := MQ.made eI (w1.alloc (.map #[] 0))
    simpa using this
  have hr : Row (((w1.alloc (.map #[] 0)).alloc (.map #[] 0)).alloc (.cells #[.pointer (some ⟨hb, 0, none⟩), .int .u64 0, .pointer (some ⟨w.heap.size, 0, none⟩), .map (some w1.heap.size), .map (some (w1.heap.size + 1))] 87)) (w1.heap.size + 2) 87 [.pointer (some ⟨hb, 0, none⟩), .int .u64 0, .pointer (some ⟨w.heap.size, 0, none⟩), .map (some w1.heap.size), .map (some (w1.heap.size + 1))] := by
    have := heap_alloc_new ((w1.alloc (.map #[] 0)).alloc (.map #[] 0)) (.cells #[.pointer (some ⟨hb, 0, none⟩), .int .u64 0, .pointer (some ⟨w.heap.size, 0, none⟩), .map (some w1.heap.size), .map (some (w1.heap.size + 1))] 87)
    have e : ((w1.alloc (.map #[] 0)).alloc (.map #[] 0)).heap.size = w1.heap.size + 2 := by simp
    rw [e] at this
    exact this
  have hx : PX (((w1.alloc (.map #[] 0)).alloc (.map #[] 0)).alloc (.cells #[.pointer (some ⟨hb, 0, none⟩), .int .u64 0, .pointer (some ⟨w.heap.size, 0, none⟩), .map (some w1.heap.size), .map (some (w1.heap.size + 1))] 87)) (w1.heap.size + 2) hb base w.heap.size w1.heap.size (w1.heap.size + 1) (.slice none 0 0) (PSt.new M) :=
    ⟨hr, HX.out.below b13, (m1.below b2).below b3, m2.below b3, ⟨by omega, by omega, by omega, by omega, by omega, by omega, (fun e => by cases e), (fun e => by cases e), (fun e => by cases e)⟩, ⟨by omega, by omega, by omega, by omega⟩⟩
  refine ⟨w1.heap.size + 2, _, rfl, hx.pn, fun k hk => ?_, hb1.trans (b13.mono hb1.size)⟩
  rcases hk with rfl | (rfl | hk) | rfl | rfl
  · omega
  · omega
  · cases hk
  · omega
  · omega

section
variable {w w' : World} {pb hb base sb mb tb : Nat} {v v' : Value} {p p' : PSt}
set_option maxRecDepth 20000 in
set_option maxHeartbeats 1000000 in
theorem turn_any (x : PX w pb hb base sb mb tb v p) (ht : p.turns < 1000000) :
    Calls Tryd.prog 20 #[.pointer (some ⟨pb, 0, none⟩)] w fun e w' => e = .returned (.tuple #[]) ∧ PGo w w' pb hb base (pBl pb sb mb tb v) p.turn := by
  obtain ⟨d1, d2, d3, d4, d5, d6, d7, d8, d9⟩ := x.d
  have hge := x.ge
  have hlt := x.lt
  have c1 := x.c1
  have f1 := x.box.frozen 1
  have k1 : Kept w (w.setCell ⟨pb, 1, none⟩ (.int .u64 ((p.turns : Int) + 1))) (fun k => k = pb) := Kept.setCell _ _ _
  have x1 : PX (w.setCell ⟨pb, 1, none⟩ (.int .u64 ((p.turns : Int) + 1))) pb hb base sb mb tb v { p with turns := p.turns + 1 } :=
    ⟨x.box.set 1 (.int .u64 ((p.turns : Int) + 1)), x.sk.kept k1 (fun k hk e => by have e' : k = pb := e; subst e'; rcases hk with hk | hk; exact d1 hk; exact d7 hk), x.ma.kept k1 (fun e => d2 e.symm), x.me.kept k1 (fun e => d3 e.symm), x.d, x.ge⟩
  have c2 := x1.c2
  have hC := clearU_any x1.sk
  have HX1 : Hid _ := hidden x1
  have HK1 : Hid (Kept w (w.setCell ⟨pb, 1, none⟩ (.int .u64 ((p.turns : Int) + 1))) (pBl pb sb mb tb v)) := hidden (k1.mono (fun _ _ e => Or.inl e))
  have HLT : Hid _ := hidden hlt
  have hmm := @run_makeMap Tryd.prog
  have hw0 : (0 : Int) ≤ (p.turns : Int) + 1 := by omega
  have hw1 : (p.turns : Int) + 1 ≤ 18446744073709551615 := by omega
  have hw2 : (p.turns : Int) + 1 < 18446744073709551616 := by omega
  have hpl := x.box.lt
  clear x x1 k1 hlt hge ht
  have HE : Hid (p.turn = { p with turns := p.turns + 1, stk := [], ov := false, ma := [], me := [] }) := rfl
  go_enter Tryd.func20, Tryd.ntmps20
  go_upto_region 1 with fail
  generalize w.setCell ⟨pb, 1, none⟩ (.int .u64 ((p.turns : Int) + 1)) = w1 at *
  clear c1 f1 hw0 hw1 hw2
  go_wp2_with fail
  refine hC.mono ?_
  rintro e w2 ⟨rfl, g2⟩
  have x2 : PX w2 pb hb base sb mb tb (.slice none 0 0) { p with turns := p.turns + 1, stk := [], ov := false } := HX1.out.stack (l := []) g2
  have HK2 : Hid (Kept w w2 (pBl pb sb mb tb v)) := hidden (HK1.out.trans g2.k (fun _ _ e => Or.inr (Or.inl e)))
  have c3 := fun o => (x2.below (bel_alloc w2 o)).c3
  have f3 := fun o => (x2.below (bel_alloc w2 o)).box.frozen 3
  have hp2 := x2.box.lt
  have hmb := x2.ma.lt
  have HX2 : Hid _ := hidden x2
  clear hC g2 x2 c2 HX1 HK1 w1
  go_upto_region 3 with fail
  have k3 : Kept w2 ((w2.setCell ⟨pb, 3, none⟩ (.map (some w2.heap.size))).alloc (.map #[] 0)) (fun k => k = pb) := (Kept.setCell w2 ⟨pb, 3, none⟩ (.map (some w2.heap.size))).trans (kept_of_below (bel_alloc _ (.map #[] 0)) (fun _ => False)) (fun _ _ e => e.elim)
  have hmade3 : MQ eU ((w2.setCell ⟨pb, 3, none⟩ (.map (some w2.heap.size))).alloc (.map #[] 0)) w2.heap.size [] := by
    have := MQ.made eU (w2.setCell ⟨pb, 3, none⟩ (.map (some w2.heap.size)))
    simpa using this
  obtain ⟨e1, e2, e3, e4, e5, e6, e7, e8, e9⟩ := HX2.out.d
  have x3 : PX ((w2.setCell ⟨pb, 3, none⟩ (.map (some w2.heap.size))).alloc (.map #[] 0)) pb hb base sb w2.heap.size tb (.slice none 0 0) { p with turns := p.turns + 1, stk := [], ov := false, ma := [] } :=
    ⟨(HX2.out.box.set 3 (.map (some w2.heap.size))).below (bel_alloc _ _), HX2.out.sk.kept k3 (fun k hk e => by have e' : k = pb := e; subst e'; rcases hk with hk | hk; exact e1 hk; exact e7 hk),
      hmade3, HX2.out.me.kept k3 (fun e => e3 e.symm), ⟨e1, by omega, e3, by have := HX2.out.sk.box.lt; omega, e5, by have := HX2.out.me.lt; omega, e7, (fun e => by cases e), e9⟩, ⟨HX2.out.ge.1, HX2.out.ge.2.1, HX2.out.bs, HX2.out.ge.2.2.2⟩⟩
  have HK3 : Hid (Kept w ((w2.setCell ⟨pb, 3, none⟩ (.map (some w2.heap.size))).alloc (.map #[] 0)) (pBl pb sb mb tb v)) := hidden (HK2.out.trans k3 (fun _ _ e => Or.inl e))
  have hs2 := HK2.out.size
  clear HK2 HX2 k3 hmade3 c3 f3 e1 e2 e3 e4 e5 e6 e7 e8 e9
  generalize (w2.setCell ⟨pb, 3, none⟩ (.map (some w2.heap.size))).alloc (.map #[] 0) = w3 at *
  have hm3 := x3.ma.lt
  generalize w2.heap.size = mb3 at *
  have c4 := fun o => (x3.below (bel_alloc w3 o)).c4
  have f4 := fun o => (x3.below (bel_alloc w3 o)).box.frozen 4
  have hp3 := x3.box.lt
  have HX3 : Hid _ := hidden x3
  clear x3 w2
  go_wp2
  go_end0
  have k4 : Kept w3 ((w3.setCell ⟨pb, 4, none⟩ (.map (some w3.heap.size))).alloc (.map #[] 0)) (fun k => k = pb) := (Kept.setCell w3 ⟨pb, 4, none⟩ (.map (some w3.heap.size))).trans (kept_of_below (bel_alloc _ (.map #[] 0)) (fun _ => False)) (fun _ _ e => e.elim)
  have hmade4 : MQ eI ((w3.setCell ⟨pb, 4, none⟩ (.map (some w3.heap.size))).alloc (.map #[] 0)) w3.heap.size [] := by
    have := MQ.made eI (w3.setCell ⟨pb, 4, none⟩ (.map (some w3.heap.size)))
    simpa using this
  obtain ⟨e1, e2, e3, e4, e5, e6, e7, e8, e9⟩ := HX3.out.d
  have x4 : PX ((w3.setCell ⟨pb, 4, none⟩ (.map (some w3.heap.size))).alloc (.map #[] 0)) pb hb base sb mb3 w3.heap.size (.slice none 0 0) p.turn :=
    ⟨(HX3.out.box.set 4 (.map (some w3.heap.size))).below (bel_alloc _ _), HX3.out.sk.kept k4 (fun k hk e => by have e' : k = pb := e; subst e'; rcases hk with hk | hk; exact e1 hk; exact e7 hk),
      HX3.out.ma.kept k4 (fun e => e2 e.symm), hmade4, ⟨e1, e2, by omega, e4, by have := HX3.out.sk.box.lt; omega, by omega, e7, e8, (fun e => by cases e)⟩, ⟨HX3.out.ge.1, HX3.out.ge.2.1, HX3.out.ge.2.2.1, HX3.out.bs⟩⟩
  refine ⟨rfl, ⟨_, x4.pn, fun k hk => ?_⟩, HK3.out.trans k4 (fun _ _ e => Or.inl e)⟩
  have hs3 := HK3.out.size
  rcases hk with rfl | (rfl | hk) | rfl | rfl
  · exact Or.inl (Or.inl rfl)
  · exact Or.inl (Or.inr (Or.inl (Or.inl rfl)))
  · cases hk
  · exact Or.inr hs2
  · exact Or.inr hs3
end

end Go.Proofs.YtbgaejjoomnklaaDoor
