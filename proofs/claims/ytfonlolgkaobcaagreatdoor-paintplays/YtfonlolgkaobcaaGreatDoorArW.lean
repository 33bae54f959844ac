/- The plain arena's Free. -/
import Derived.Test.YtfonlolgkaobcaaGreatDoorArV
import Derived.Deep.MidRow
import Derived.Laws.StructEq
namespace Go.Proofs.YtfonlolgkaobcaaGreatDoor
open Go.RowKit

set_option maxRecDepth 100000 in
theorem eq16 (b0 b1 b2 b3 b4 b5 b6 b7 b8 b9 b10 b11 b12 b13 b14 b15 : Bool) (w : World) : (Op.equalIn 10000 141 (.agg #[.bool b0, .bool b1, .bool b2, .bool b3, .bool b4, .bool b5, .bool b6, .bool b7, .bool b8, .bool b9, .bool b10, .bool b11, .bool b12, .bool b13, .bool b14, .bool b15]) (.agg #[.bool false, .bool false, .bool false, .bool false, .bool false, .bool false, .bool false, .bool false, .bool false, .bool false, .bool false, .bool false, .bool false, .bool false, .bool false, .bool false])).run Tryz.prog w = .ok (!(b0 || (b1 || (b2 || (b3 || (b4 || (b5 || (b6 || (b7 || (b8 || (b9 || (b10 || (b11 || (b12 || (b13 || (b14 || (b15))))))))))))))))) w := by
  cases b0 with
  | true => kernel_rfl
  | false =>
   cases b1 with
   | true => kernel_rfl
   | false =>
    cases b2 with
    | true => kernel_rfl
    | false =>
     cases b3 with
     | true => kernel_rfl
     | false =>
      cases b4 with
      | true => kernel_rfl
      | false =>
       cases b5 with
       | true => kernel_rfl
       | false =>
        cases b6 with
        | true => kernel_rfl
        | false =>
         cases b7 with
         | true => kernel_rfl
         | false =>
          cases b8 with
          | true => kernel_rfl
          | false =>
           cases b9 with
           | true => kernel_rfl
           | false =>
            cases b10 with
            | true => kernel_rfl
            | false =>
             cases b11 with
             | true => kernel_rfl
             | false =>
              cases b12 with
              | true => kernel_rfl
              | false =>
               cases b13 with
               | true => kernel_rfl
               | false =>
                cases b14 with
                | true => kernel_rfl
                | false =>
                 cases b15 with
                 | true => kernel_rfl
                 | false =>
                  kernel_rfl

/-- Sixteen bits as values. -/
def bitsV (t : Nat) : List Value := (List.range 16).map (fun j => .bool (t.testBit j))
theorem bits_zero {t : Nat} (ht : t < 65536) : (!(t.testBit 0 || (t.testBit 1 || (t.testBit 2 || (t.testBit 3 || (t.testBit 4 || (t.testBit 5 || (t.testBit 6 || (t.testBit 7 || (t.testBit 8 || (t.testBit 9 || (t.testBit 10 || (t.testBit 11 || (t.testBit 12 || (t.testBit 13 || (t.testBit 14 || (t.testBit 15))))))))))))))))) = decide (t = 0) := by
  by_cases h : t = 0
  · subst h
    rfl
  · rw [decide_eq_false h]
    obtain ⟨i, hi⟩ := Nat.exists_testBit_of_ne_zero h
    have hi16 : i < 16 := by
      apply Nat.lt_of_not_le
      intro hle
      have : t < 2 ^ i := Nat.lt_of_lt_of_le ht (Nat.le_trans (by decide : 65536 ≤ 2 ^ 16) (Nat.pow_le_pow_right (by decide) hle))
      rw [Nat.testBit_lt_two_pow this] at hi
      cases hi
    have : i = 0 ∨ i = 1 ∨ i = 2 ∨ i = 3 ∨ i = 4 ∨ i = 5 ∨ i = 6 ∨ i = 7 ∨ i = 8 ∨ i = 9 ∨ i = 10 ∨ i = 11 ∨ i = 12 ∨ i = 13 ∨ i = 14 ∨ i = 15 := by omega
    rcases this with rfl | rfl | rfl | rfl | rfl | rfl | rfl | rfl | rfl | rfl | rfl | rfl | rfl | rfl | rfl | rfl <;> simp [hi]
theorem eq_bits (t : Nat) (ht : t < 65536) (w : World) : (Op.equalIn 10000 141 (.agg (bitsV t).toArray) (.agg #[.bool false, .bool false, .bool false, .bool false, .bool false, .bool false, .bool false, .bool false, .bool false, .bool false, .bool false, .bool false, .bool false, .bool false, .bool false, .bool false])).run Tryz.prog w = .ok (decide (t = 0)) w := by
  rw [← bits_zero ht]
  exact eq16 (t.testBit 0) (t.testBit 1) (t.testBit 2) (t.testBit 3) (t.testBit 4) (t.testBit 5) (t.testBit 6) (t.testBit 7) (t.testBit 8) (t.testBit 9) (t.testBit 10) (t.testBit 11) (t.testBit 12) (t.testBit 13) (t.testBit 14) (t.testBit 15) w
theorem guard16 : Tryz.prog.eqGuardType Tryz.prog.depth 141 = false := by kernel_rfl
theorem size16 : (Tryz.prog.info? 141).map (·.size) = some 16 := by kernel_rfl
theorem RA.range {w : World} {rb rc rt : Nat} {bs : List Bk} (h : RA w rb rc rt bs) (n : Nat) (hn : n < bs.length) : w.rangeAt rt (n * 16) (bitsV bs[n].t) := by
  intro j v hv
  have hj : j < 16 := by simpa [bitsV] using (List.getElem?_eq_some_iff.1 hv).1
  rw [h.bit n j hn hj, ← hv]
  unfold bitsV
  rw [List.getElem?_map, List.getElem?_range hj]
  rfl
theorem bits_size (t : Nat) : (Tryz.prog.info? 141).map (·.size) = some (bitsV t).length := by rw [size16]; simp [bitsV]

set_option maxRecDepth 20000 in
set_option maxHeartbeats 1000000 in
theorem rfree_any (rb rc rt : Nat) (bs : List Bk) (i : Int) (hi : i ≤ 9223372036854775807) (hO : AO bs) (w : World) (h : RA w rb rc rt bs) :
    Calls Tryz.prog 50 #[.pointer (some ⟨rb, 0, none⟩), .int .i64 i] w fun e w' => e = .returned (.int .i64 (freeR bs i : Nat)) ∧ RA w' rb rc rt (freeL bs i) ∧ Kept w w' (fun k => k = rc ∨ k = rt) := by
  have hA := fun w (h : RA w rb rc rt bs) => rat_any rb rc rt bs i hi w h
  by_cases hz : atB bs i = 0
  · obtain ⟨e1, e2⟩ := free_none hz
    rw [e1, e2]
    rw [hz] at hA
    clear hz e1 e2
    go_enter Tryz.func50, Tryz.ntmps50
    go_wp2_with (go_at_call 84; refine (hA _ h).mono ?_; rintro e w1 ⟨rfl, hb1⟩)
    go_ret
    exact ⟨rfl, h.below hb1, kept_of_below hb1 _⟩
  obtain ⟨h0, hn, hc0, hcls, hrem, hbit⟩ := atB_some hz
  unfold freeR freeL
  rw [if_neg hz, if_neg hz]
  obtain ⟨c, rfl⟩ : ∃ c : Nat, i = (c : Int) := ⟨i.toNat, by omega⟩
  simp only [Int.toNat_natCast] at hn hc0 hcls hrem hbit ⊢
  rw [hcls] at hA
  rw [getD_at hn]
  have hl := h.len
  have hOx := hO _ (List.getElem_mem hn)
  have hlt := hOx.lt
  have hq : (c : Int) / 16 = ((c / 16 : Nat) : Int) := by omega
  have hm : (c : Int) % 16 = ((c % 16 : Nat) : Int) := by omega
  have hr : c % 16 < 16 := by omega
  have hq16 : c % 16 / bs[c / 16].c < 16 := Nat.lt_of_le_of_lt (Nat.div_le_self _ _) hr
  have hqi : ((c % 16 : Nat) : Int) / (bs[c / 16].c : Int) = ((c % 16 / bs[c / 16].c : Nat) : Int) := by simp
  have hqt : Int.tdiv ((c % 16 : Nat) : Int) (bs[c / 16].c : Int) = ((c % 16 / bs[c / 16].c : Nat) : Int) := by rfl
  have ho := fun i => offN_bit bs[c / 16].t (c % 16 / bs[c / 16].c) i hlt (by omega)
  have hD : dropN bs[c / 16] (c % 16) = if offN bs[c / 16].t (c % 16 / bs[c / 16].c) = 0 then ⟨0, 0⟩ else ⟨bs[c / 16].c, offN bs[c / 16].t (c % 16 / bs[c / 16].c)⟩ := rfl
  rw [hD]
  have hoff : offN bs[c / 16].t (c % 16 / bs[c / 16].c) < 65536 := Nat.lt_of_le_of_lt Nat.and_le_left hlt
  have HS : Hid (∀ W, RA W rb rc rt bs → RA (W.setCell ⟨rt, c / 16 * 16 + c % 16 / bs[c / 16].c, none⟩ (.bool false)) rb rc rt (bs.set (c / 16) ⟨bs[c / 16].c, offN bs[c / 16].t (c % 16 / bs[c / 16].c)⟩) ∧ Kept W (W.setCell ⟨rt, c / 16 * 16 + c % 16 / bs[c / 16].c, none⟩ (.bool false)) (fun k => k = rc ∨ k = rt)) := fun W hW =>
    hW.setT (c / 16) (c % 16 / bs[c / 16].c) hn hq16 false ⟨bs[c / 16].c, offN bs[c / 16].t (c % 16 / bs[c / 16].c)⟩ rfl (fun i _ => by
      show (offN bs[c / 16].t (c % 16 / bs[c / 16].c)).testBit i = _
      rw [ho i]
      by_cases e : i = c % 16 / bs[c / 16].c
      · simp [e]
      · simp [e])
  have HB : Hid (∀ W, RA W rb rc rt bs → W.cell? ⟨rt, c / 16 * 16 + c % 16 / bs[c / 16].c, none⟩ = some (.bool (bs[c / 16].t.testBit (c % 16 / bs[c / 16].c)))) := fun W hW => hW.bit _ _ hn hq16
  clear ho hz hcls hrem hbit hD
  generalize bs[c / 16] = x at *
  generalize hNN : c / 16 = n at *
  generalize c % 16 = r at *
  generalize r / x.c = q at *
  generalize offN x.t q = T at *
  have hni : (n : Int) < (bs.length : Int) := by omega
  have hq16i : (q : Int) < 16 := by omega
  have hci : ((x.c : Int) == 0) = false := by rw [beq_eq_false_iff_ne]; omega
  clear hNN
  have hg := guard16
  have heq := eq_bits T hoff
  by_cases hT : T = 0
  · subst hT
    rw [if_pos rfl]
    simp only [decide_true] at heq
    go_enter Tryz.func50, Tryz.ntmps50
    go_wp2_with (go_at_call 84; refine (hA _ h).mono ?_; clear hA; rintro e w1 ⟨rfl, hb1⟩; have h1 := h.below hb1; have c1 := h1.c1; have d1 := HB.out _ h1; have f1 := h1.ft (n * 16 + q); obtain ⟨hS1, hK1⟩ := HS.out _ h1)
    go_region
    have hS2 := hS1.below (w' := (w1.setCell ⟨rt, n * 16 + q, none⟩ (.bool false)).drew) (Below.refl _ _).drew
    have hK2 : Kept w (w1.setCell ⟨rt, n * 16 + q, none⟩ (.bool false)).drew (fun k => k = rc ∨ k = rt) := ((kept_of_below hb1 _).trans hK1 (fun _ _ e => e)).trans (Kept.drew _) (fun _ _ e => e.elim)
    clear c1 d1 f1 hS1 hK1 HS HB
    generalize (w1.setCell ⟨rt, n * 16 + q, none⟩ (.bool false)).drew = W2 at *
    have hnl : n < (bs.set n ⟨x.c, 0⟩).length := by simpa using hn
    have g0 := hS2.c0
    have g1 := hS2.c1
    have g2 := hS2.range n hnl
    have g3 := hS2.cl n hnl
    have g4 := hS2.fc n
    rw [List.length_set] at g0 g1
    rw [List.getElem_set_self] at g2 g3
    obtain ⟨hS3, hK3⟩ := hS2.setC n 0 hnl
    rw [List.getElem_set_self, List.set_set] at hS3
    have HR : Hid (RA (W2.setCell ⟨rc, n, none⟩ (.int .i64 ((0 : Nat) : Int))) rb rc rt (bs.set n ⟨0, 0⟩) ∧ Kept w (W2.setCell ⟨rc, n, none⟩ (.int .i64 ((0 : Nat) : Int))) (fun k => k = rc ∨ k = rt)) := ⟨hS3, hK2.trans hK3 (fun _ _ e => e)⟩
    clear hS3 hK3 hS2 hK2
    go_wp2_with (refine wpList_load_mid rfl 141 (.tmp 30) rfl rt (n * 16) rfl (bitsV 0) _ g2 Tryz.underlying141 rfl (bits_size 0) ?_)
    go_ret
    exact ⟨rfl, HR.out⟩
  · rw [if_neg hT]
    simp only [decide_eq_false hT] at heq
    go_enter Tryz.func50, Tryz.ntmps50
    go_wp2_with (go_at_call 84; refine (hA _ h).mono ?_; clear hA; rintro e w1 ⟨rfl, hb1⟩; have h1 := h.below hb1; have c1 := h1.c1; have d1 := HB.out _ h1; have f1 := h1.ft (n * 16 + q); obtain ⟨hS1, hK1⟩ := HS.out _ h1)
    go_region
    have hS2 := hS1.below (w' := (w1.setCell ⟨rt, n * 16 + q, none⟩ (.bool false)).drew) (Below.refl _ _).drew
    have hK2 : Kept w (w1.setCell ⟨rt, n * 16 + q, none⟩ (.bool false)).drew (fun k => k = rc ∨ k = rt) := ((kept_of_below hb1 _).trans hK1 (fun _ _ e => e)).trans (Kept.drew _) (fun _ _ e => e.elim)
    clear c1 d1 f1 hS1 hK1 HS HB
    generalize (w1.setCell ⟨rt, n * 16 + q, none⟩ (.bool false)).drew = W2 at *
    have hnl : n < (bs.set n ⟨x.c, T⟩).length := by simpa using hn
    have g0 := hS2.c0
    have g1 := hS2.c1
    have g2 := hS2.range n hnl
    have g3 := hS2.cl n hnl
    have g4 := hS2.fc n
    rw [List.length_set] at g0 g1
    rw [List.getElem_set_self] at g2 g3
    have HR : Hid (RA W2 rb rc rt (bs.set n ⟨x.c, T⟩) ∧ Kept w W2 (fun k => k = rc ∨ k = rt)) := ⟨hS2, hK2⟩
    clear hS2 hK2
    go_wp2_with (refine wpList_load_mid rfl 141 (.tmp 30) rfl rt (n * 16) rfl (bitsV T) _ g2 Tryz.underlying141 rfl (bits_size T) ?_)
    go_ret
    exact ⟨rfl, HR.out⟩

end Go.Proofs.YtfonlolgkaobcaaGreatDoor
