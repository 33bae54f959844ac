import Derived.Test.YtdafpfdmnccelaaDoorArQP
import Derived.Deep.MidRow
import Derived.Laws.StructEq
/- The plain arena's Alloc. -/
/- The plain arena's Free. -/
namespace Go.Proofs.YtdafpfdmnccelaaDoor
open Go.RowKit

section
variable {w : World} {rb rc rt : Nat} {bs : List Bk}
theorem cV_same {bs : List Bk} {n : Nat} {x : Bk} (hn : n < bs.length) (hx : x.c = bs[n].c) : (bs.set n x).map cV = bs.map cV := by
  rw [List.map_set]
  have e : cV x = (bs.map cV)[n]'(by simpa using hn) := by
    rw [List.getElem_map]
    unfold cV
    rw [hx]
  rw [e, List.set_getElem_self]
/-- One of its bits is another. -/
theorem RA.setT (h : RA w rb rc rt bs) (n j : Nat) (hn : n < bs.length) (hj : j < 16) (b : Bool) (x : Bk) (hx : x.c = bs[n].c) (ht : ∀ i, i < 16 → x.t.testBit i = if i = j then b else bs[n].t.testBit i) : RA (w.setCell ⟨rt, n * 16 + j, none⟩ (.bool b)) rb rc rt (bs.set n x) ∧ Kept w (w.setCell ⟨rt, n * 16 + j, none⟩ (.bool b)) (fun k => k = rc ∨ k = rt) := by
  have hk := Kept.setCell w ⟨rt, n * 16 + j, none⟩ (.bool b)
  obtain ⟨cs, h1, h2, h3⟩ := h.tkn
  obtain ⟨l1, l2, l3⟩ := h.lt
  obtain ⟨n1, n2, n3⟩ := h.ne
  refine ⟨⟨by simpa using h.len, ?_, ?_, ⟨_, heap_setCell_same w rt (n * 16 + j) _ _ (.bool b) h1, by simpa using h2, fun i hi j' hj' => ?_⟩, h.ne⟩, hk.mono (fun i _ e => Or.inr e)⟩
  · rw [List.length_set]
    exact (hk.block rb l1 n2).trans h.box
  · rw [cV_same hn hx]
    exact h.cls.kept hk n3
  · rw [List.length_set] at hi
    by_cases e : n = i
    · subst e
      rw [List.getElem_set_self]
      rw [ht j' hj']
      by_cases ej : j' = j
      · subst ej
        rw [Array.getElem?_setIfInBounds_self_of_lt (by omega), if_pos rfl]
      · rw [Array.getElem?_setIfInBounds_ne (by omega), h3 n hn j' hj', if_neg ej]
    · rw [List.getElem_set_ne e, Array.getElem?_setIfInBounds_ne (by omega), h3 i hi j' hj']
/-- One of its classes is another. -/
theorem RA.setC (h : RA w rb rc rt bs) (n k : Nat) (hn : n < bs.length) : RA (w.setCell ⟨rc, n, none⟩ (.int .i64 (k : Int))) rb rc rt (bs.set n ⟨k, bs[n].t⟩) ∧ Kept w (w.setCell ⟨rc, n, none⟩ (.int .i64 (k : Int))) (fun k => k = rc ∨ k = rt) := by
  have hk := Kept.setCell w ⟨rc, n, none⟩ (.int .i64 (k : Int))
  obtain ⟨cs, h1, h2, h3⟩ := h.tkn
  obtain ⟨l1, l2, l3⟩ := h.lt
  obtain ⟨n1, n2, n3⟩ := h.ne
  refine ⟨⟨by simpa using h.len, ?_, ?_, ⟨cs, (hk.block rt l3 (fun e => n3 e.symm)).trans h1, by simpa using h2, fun i hi j' hj' => ?_⟩, h.ne⟩, hk.mono (fun i _ e => Or.inl e)⟩
  · rw [List.length_set]
    exact (hk.block rb l1 n1).trans h.box
  · rw [List.map_set]
    exact h.cls.set n _
  · rw [List.length_set] at hi
    by_cases e : n = i
    · subst e
      rw [List.getElem_set_self]
      exact h3 n hn j' hj'
    · rw [List.getElem_set_ne e]
      exact h3 i hi j' hj'
end

theorem cnt_lt {t n j : Nat} (hj : j < n) (h : t.testBit j = false) : cnt t n < n := by
  have h1 := cnt_le t n
  apply Nat.lt_of_le_of_ne h1
  intro e
  unfold cnt at e
  have h2 : (List.range n).countP (fun i => t.testBit i) = (List.range n).length := by rw [e]; simp
  rw [List.countP_eq_length] at h2
  have := h2 j (by simpa using hj)
  simp [h] at this
theorem cnt_full {t n : Nat} (h : ∀ i, i < n → t.testBit i = true) : cnt t n = n := by
  unfold cnt
  have : (List.range n).countP (fun i => t.testBit i) = (List.range n).length := by
    rw [List.countP_eq_length]
    intro i hi
    exact h i (by simpa using hi)
  rw [this]; simp
theorem place_eq {t j : Nat} (ht : t < 65536) (h1 : t.testBit j = false) (h2 : ∀ i, i < j → t.testBit i = true) : placeN t = j := by
  obtain ⟨p1, p2, _⟩ := placeN_spec t ht
  apply Nat.le_antisymm
  · apply Nat.le_of_not_lt
    intro hlt
    rw [p2 j hlt] at h1
    cases h1
  · apply Nat.le_of_not_lt
    intro hlt
    rw [h2 _ hlt] at p1
    cases p1
theorem full_no {x : Bk} {k : Nat} (hO : x.Ok) (hk : IsC k) (hc : x.c = k) (h : ∀ i, i < 16 / k → x.t.testBit i = true) : isB k k x = false := by
  have hr : roomN x k = 0 := by
    rw [← rcnt_room hO]
    unfold rcnt
    rw [if_neg (by rw [hc]; have := hk.pos; omega), if_pos hc, cnt_full h]
    omega
  unfold isB
  rw [hr]
  simp
theorem some_yes {x : Bk} {k j : Nat} (hO : x.Ok) (hk : IsC k) (hc : x.c = k) (hj : j < 16 / k) (h : x.t.testBit j = false) : isB k k x = true := by
  have hr : 0 < roomN x k := by
    rw [← rcnt_room hO]
    unfold rcnt
    rw [if_neg (by rw [hc]; have := hk.pos; omega), if_pos hc]
    have := cnt_lt hj h
    omega
  unfold isB
  simp [hc, hr]
theorem free_yes {x : Bk} {k : Nat} (hO : x.Ok) (hk : IsC k) (hc : x.c = 0) : isB 0 k x = true ∧ x.t = 0 := by
  have ht : x.t = 0 := by
    rcases hO with ⟨_, h⟩ | ⟨h, _⟩
    · exact h
    · have := h.pos; omega
  have hr : 0 < roomN x k := by
    unfold roomN
    rw [if_pos (Or.inl hc), ht, pc_zero, Nat.sub_zero]
    exact (isC_div hk).1
  refine ⟨?_, ht⟩
  unfold isB
  simp [hc, hr]
theorem place_zero : placeN 0 = 0 := by kernel_rfl

set_option maxRecDepth 20000 in
set_option maxHeartbeats 1000000 in
theorem ralloc_any (rb rc rt : Nat) (bs : List Bk) (s : Int) (hO : AO bs) (w : World) (h : RA w rb rc rt bs) :
    Calls Tryd.prog 53 #[.pointer (some ⟨rb, 0, none⟩), .int .i64 s] w fun e w' => e = .returned (.tuple #[.int .i64 ((allocR bs s).1 : Int), .int .i64 ((allocR bs s).2 : Int)]) ∧ RA w' rb rc rt (allocL bs s) ∧ Kept w w' (fun k => k = rc ∨ k = rt) := by
  have hl := h.len
  have c0 := h.c0
  have c1 := h.c1
  have hC := fun w => rclass_any s w
  by_cases hz : classN s = 0
  · rw [show allocR bs s = (0, 1) from if_pos hz, show allocL bs s = bs from if_pos hz]
    rw [hz] at hC
    clear hz
    go_enter Tryd.func53, Tryd.ntmps53
    go_wp2_with (go_at_call 73; refine (hC _).mono ?_; rintro e _ ⟨rfl, rfl⟩)
    go_ret2
    exact ⟨rfl, h, Kept.refl _ _⟩
  have HSome : Hid (∀ m, pickB (classN s) bs = some m → allocR bs s = (m * 16 + placeN (bs.getD m bk0).t * classN s, 0) ∧ allocL bs s = bs.set m (takeB (bs.getD m bk0) (classN s))) := fun m hp => by
    unfold allocR allocL
    rw [if_neg hz, if_neg hz, hp]
    exact ⟨rfl, rfl⟩
  have HNone : Hid (pickB (classN s) bs = none → allocR bs s = (0, 2) ∧ allocL bs s = bs) := fun hp => by
    unfold allocR allocL
    rw [if_neg hz, if_neg hz, hp]
    exact ⟨rfl, rfl⟩
  have hk := classN_ne hz
  generalize classN s = k at *
  have hk16 := hk.le
  have hk0 : ¬ k = 0 := hz
  have hkb : ((k : Int) == 0) = false := by rw [beq_eq_false_iff_ne]; omega
  obtain ⟨q, hq⟩ : ∃ q, q = 16 / k := ⟨_, rfl⟩
  have hq16 : q ≤ 16 := by rw [hq]; exact Nat.div_le_self _ _
  have hqi : (16 : Int) / (k : Int) = (q : Int) := by rw [hq]; simp
  have hqt : Int.tdiv 16 (k : Int) = (q : Int) := by rw [hq]; rfl
  have HQ : Hid (q = 16 / k) := hq
  obtain ⟨f0, hf0⟩ : ∃ f0, f0 = w.frozen? ⟨rb, 0, none⟩ := ⟨_, rfl⟩
  clear hq hz hf0
  have ft := h.ft
  have fc := h.fc
  go_enter Tryd.func53, Tryd.ntmps53
  go_wp2_with (go_at_call 73; refine (hC _).mono ?_; rintro e _ ⟨rfl, rfl⟩)
  go_loopw [7] (fun i wr => ∃ m : Nat, m ≤ bs.length ∧ i = .int .i64 (m : Int) ∧ (∀ x ∈ bs.take m, isB k k x = false) ∧ w = wr) (fun i _ => bs.length - (intOf i).toNat)
  case atStart => exact ⟨0, Nat.zero_le _, rfl, by simp, rfl⟩
  case round =>
    obtain ⟨m, hm, rfl, hall, rfl⟩ := hrel
    have HA : Hid (∀ x ∈ bs.take m, isB k k x = false) := hall
    clear hall
    by_cases hml : (m : Int) < (bs.length : Int)
    · have hm' : m < bs.length := by omega
      have d0 := h.cl m hm'
      have HD : Hid (∀ j, j < 16 → w.cell? ⟨rt, m * 16 + j, none⟩ = some (.bool (bs[m].t.testBit j))) := fun j hj => h.bit m j hm' hj
      have HY : Hid (isB k k bs[m] = true → pickB k bs = some m) := fun h => by
        unfold pickB
        rw [firstB_some hm' h HA.out]
      have HN : Hid (isB k k bs[m] = false → ∀ x ∈ bs.take (m + 1), isB k k x = false) := fun h => take_more hm' HA.out h
      have hOk := hO bs[m] (List.getElem_mem hm')
      have HG : Hid (bs.getD m bk0 = bs[m]) := getD_at hm'
      have HT : Hid (∀ j, j < 16 → ∀ x, x.c = bs[m].c → (∀ i, i < 16 → x.t.testBit i = if i = j then true else bs[m].t.testBit i) → RA (w.setCell ⟨rt, m * 16 + j, none⟩ (.bool true)) rb rc rt (bs.set m x) ∧ Kept w (w.setCell ⟨rt, m * 16 + j, none⟩ (.bool true)) (fun k => k = rc ∨ k = rt)) := fun j hj x h1 h2 => h.setT m j hm' hj true x h1 h2
      generalize bs[m] = x at *
      clear HA
      by_cases hc : x.c = k
      · have hce : ((x.c : Int) == (k : Int)) = true := by rw [beq_iff_eq]; omega
        have HX : Hid (x.c = k) := hc
        clear hc
        go_wp2
        go_loopw [8] (fun i wr => ∃ j : Nat, j ≤ q ∧ i = .int .i64 (j : Int) ∧ (∀ i, i < j → x.t.testBit i = true) ∧ w = wr) (fun i _ => q - (intOf i).toNat)
        case atStart => exact ⟨0, Nat.zero_le _, rfl, fun i hi => by omega, rfl⟩
        case round =>
          obtain ⟨j, hj, rfl, hbits, rfl⟩ := hrel
          have HB : Hid (∀ i, i < j → x.t.testBit i = true) := hbits
          clear hbits
          by_cases hjq : (j : Int) < (q : Int)
          · have d2 := HD.out j (by omega)
            have hji : (j : Int) < 16 := by omega
            cases hb : x.t.testBit j with
            | true =>
              rw [hb] at d2
              have HB2 : Hid (∀ i, i < j + 1 → x.t.testBit i = true) := fun i hi => by
                by_cases e : i = j
                · rw [e]; exact hb
                · exact HB.out i (by omega)
              clear hb
              go_wp2
              go_roundw
              case rel => exact ⟨j + 1, by omega, by go_num, HB2.out, by trivial⟩
              case measure => simp [intOf]; omega
            | false =>
              rw [hb] at d2
              have hpl := place_eq hOk.lt hb HB.out
              have hy := HY.out (some_yes hOk hk HX.out (by have := HQ.out; omega) hb)
              obtain ⟨e1, e2⟩ := HSome.out m hy
              rw [HG.out, hpl] at e1
              rw [HG.out] at e2
              have HE : Hid (allocR bs s = (m * 16 + j * k, 0) ∧ allocL bs s = bs.set m (takeB x k)) := ⟨e1, e2⟩
              clear e1 e2
              have hmul := mul_small k j (by omega) (by omega)
              have HM : Hid (16 * (m : Int) + (k : Int) * (j : Int) = ((m * 16 + j * k : Nat) : Int)) := by
                have e : 16 * (m : Int) + (k : Int) * (j : Int) = ((m * 16 + j * k : Nat) : Int) := by
                  rw [hmul.1, Nat.mul_comm k j]
                  omega
                exact e
              have hmul1 := hmul.1
              have hmul2 := hmul.2
              have HTT := HT.out j (by omega) (takeB x k) HX.out.symm (fun i hi => by
                show (x.t ||| 2 ^ placeN x.t).testBit i = _
                rw [orP_bit, hpl]
                by_cases e : i = j
                · simp [e]
                · simp [e])
              have HR : Hid (RA (w.setCell ⟨rt, m * 16 + j, none⟩ (.bool true)) rb rc rt (bs.set m (takeB x k)) ∧ Kept w (w.setCell ⟨rt, m * 16 + j, none⟩ (.bool true)) (fun k => k = rc ∨ k = rt)) := HTT
              have hm256 : m ≤ 256 := by omega
              have ft1 := ft (m * 16 + j)
              clear hb hpl hy hmul HTT HY HN HT HD HB
              generalize k * j = kj at *
              go_wp2
              go_ret2
              rw [HE.out.1, HE.out.2]
              refine ⟨?_, HR.out⟩
              rw [← HM.out, hmul1]
              rfl
          · have HF : Hid (isB k k x = false) := by
              have e : isB k k x = false := full_no hOk hk HX.out (fun i hi => HB.out i (by have := HQ.out; omega))
              exact e
            go_wp2
            go_roundw
            case rel => exact ⟨m + 1, by omega, by go_num, HN.out HF.out, by trivial⟩
            case measure => simp [intOf]; omega
      · have hce : ((x.c : Int) == (k : Int)) = false := by rw [beq_eq_false_iff_ne]; omega
        have HF : Hid (isB k k x = false) := isB_cls hc
        clear hc
        go_wp2
        go_loopw [8] (fun i wr => i = .int .i64 0 ∧ w = wr) (fun _ _ => 0)
        case atStart => exact ⟨rfl, rfl⟩
        case round =>
          obtain ⟨rfl, rfl⟩ := hrel
          go_wp2
          go_roundw
          case rel => exact ⟨m + 1, by omega, by go_num, HN.out HF.out, by trivial⟩
          case measure => simp [intOf]; omega
    · have HN1 : Hid (firstB k k bs = none) := by
        have e : firstB k k bs = none := firstB_none (by
          have := HA.out
          rwa [List.take_of_length_le (by omega)] at this)
        exact e
      clear HA
      go_wp2
      go_loopw [9] (fun i wr => ∃ m : Nat, m ≤ bs.length ∧ i = .int .i64 (m : Int) ∧ (∀ x ∈ bs.take m, isB 0 k x = false) ∧ w = wr) (fun i _ => bs.length - (intOf i).toNat)
      case atStart => exact ⟨0, Nat.zero_le _, rfl, by simp, rfl⟩
      case round =>
        clear hm hml
        obtain ⟨m2, hm, rfl, hall, rfl⟩ := hrel
        have HA : Hid (∀ x ∈ bs.take m2, isB 0 k x = false) := hall
        clear hall
        by_cases hml : (m2 : Int) < (bs.length : Int)
        · have hm' : m2 < bs.length := by omega
          have d0 := h.cl m2 hm'
          have d1 := h.bit m2 0 hm' (by omega)
          have HY : Hid (isB 0 k bs[m2] = true → pickB k bs = some m2) := fun h => by
            unfold pickB
            rw [HN1.out]
            exact firstB_some hm' h HA.out
          have HN : Hid (isB 0 k bs[m2] = false → ∀ x ∈ bs.take (m2 + 1), isB 0 k x = false) := fun h => take_more hm' HA.out h
          have hOk := hO bs[m2] (List.getElem_mem hm')
          have HG : Hid (bs.getD m2 bk0 = bs[m2]) := getD_at hm'
          by_cases hc : bs[m2].c = 0
          · obtain ⟨hy0, ht0⟩ := free_yes hOk hk hc
            have hy := HY.out hy0
            obtain ⟨e1, e2⟩ := HSome.out m2 hy
            rw [HG.out, ht0, place_zero] at e1
            rw [HG.out] at e2
            have HE : Hid (allocR bs s = (m2 * 16 + 0 * k, 0) ∧ allocL bs s = bs.set m2 (takeB bs[m2] k)) := ⟨e1, e2⟩
            clear e1 e2
            obtain ⟨hC1, hK1⟩ := h.setC m2 k hm'
            have hT1 := hC1.setT m2 0 (by simpa using hm') (by omega) true (takeB bs[m2] k) (by rw [List.getElem_set_self]; rfl) (fun i hi => by
              rw [List.getElem_set_self]
              show (bs[m2].t ||| 2 ^ placeN bs[m2].t).testBit i = _
              rw [orP_bit, ht0, place_zero]
              by_cases e : i = 0
              · simp [e]
              · simp [e])
            rw [List.set_set] at hT1
            have HR : Hid (RA ((w.setCell ⟨rc, m2, none⟩ (.int .i64 (k : Int))).setCell ⟨rt, m2 * 16 + 0, none⟩ (.bool true)) rb rc rt (bs.set m2 (takeB bs[m2] k)) ∧ Kept w ((w.setCell ⟨rc, m2, none⟩ (.int .i64 (k : Int))).setCell ⟨rt, m2 * 16 + 0, none⟩ (.bool true)) (fun k => k = rc ∨ k = rt)) := ⟨hT1.1, hK1.trans hT1.2 (fun _ _ e => e)⟩
            have hce : ((bs[m2].c : Int) == 0) = true := by rw [beq_iff_eq]; omega
            have g1 := hC1.c1
            rw [List.length_set] at g1
            have g2 := hC1.bit m2 0 (by simpa using hm') (by omega)
            have g3 := hC1.ft (m2 * 16 + 0)
            have fc1 := fc m2
            have hm256 : m2 ≤ 256 := by omega
            have HM : Hid (16 * (m2 : Int) = ((m2 * 16 + 0 * k : Nat) : Int)) := by
              have e : 16 * (m2 : Int) = ((m2 * 16 + 0 * k : Nat) : Int) := by omega
              exact e
            rw [List.getElem_set_self] at g2
            simp only [Nat.add_zero] at d1 g2 g3 HR
            clear hy0 hy hC1 hK1 hT1 HY HN HA hc ht0
            generalize bs[m2] = x at *
            go_wp2
            go_ret2
            rw [HE.out.1, HE.out.2]
            refine ⟨?_, HR.out⟩
            rw [← HM.out]
            rfl
          · have hce : ((bs[m2].c : Int) == 0) = false := by rw [beq_eq_false_iff_ne]; omega
            have HF : Hid (isB 0 k bs[m2] = false) := isB_cls hc
            have HT2 : Hid (∀ x ∈ bs.take (m2 + 1), isB 0 k x = false) := HN.out HF.out
            clear hc HY HN HA HF HG d1
            generalize bs[m2] = x at *
            go_wp2
            go_roundw
            case rel => exact ⟨m2 + 1, by omega, by go_num, HT2.out, by trivial⟩
            case measure => simp [intOf]; omega
        · have HP : Hid (pickB k bs = none) := by
            have e : pickB k bs = none := by
              unfold pickB
              rw [HN1.out]
              exact firstB_none (by
                have := HA.out
                rwa [List.take_of_length_le (by omega)] at this)
            exact e
          go_wp2
          go_ret2
          obtain ⟨e1, e2⟩ := HNone.out HP.out
          rw [e1, e2]
          exact ⟨rfl, h, Kept.refl _ _⟩

end Go.Proofs.YtdafpfdmnccelaaDoor

namespace Go.Proofs.YtdafpfdmnccelaaDoor
open Go.RowKit

set_option maxRecDepth 100000 in
theorem eq16 (b0 b1 b2 b3 b4 b5 b6 b7 b8 b9 b10 b11 b12 b13 b14 b15 : Bool) (w : World) : (Op.equalIn 10000 150 (.agg #[.bool b0, .bool b1, .bool b2, .bool b3, .bool b4, .bool b5, .bool b6, .bool b7, .bool b8, .bool b9, .bool b10, .bool b11, .bool b12, .bool b13, .bool b14, .bool b15]) (.agg #[.bool false, .bool false, .bool false, .bool false, .bool false, .bool false, .bool false, .bool false, .bool false, .bool false, .bool false, .bool false, .bool false, .bool false, .bool false, .bool false])).run Tryd.prog w = .ok (!(b0 || (b1 || (b2 || (b3 || (b4 || (b5 || (b6 || (b7 || (b8 || (b9 || (b10 || (b11 || (b12 || (b13 || (b14 || (b15))))))))))))))))) w := by
  cases b0 with
  | true => kernel_rfl
  | false =>
   cases b1 with
   | true => kernel_rfl
   | false =>
    cases b2 with
    | true => kernel_rfl
    | false =>
     cases b3 with
     | true => kernel_rfl
     | false =>
      cases b4 with
      | true => kernel_rfl
      | false =>
       cases b5 with
       | true => kernel_rfl
       | false =>
        cases b6 with
        | true => kernel_rfl
        | false =>
         cases b7 with
         | true => kernel_rfl
         | false =>
          cases b8 with
          | true => kernel_rfl
          | false =>
           cases b9 with
           | true => kernel_rfl
           | false =>
            cases b10 with
            | true => kernel_rfl
            | false =>
             cases b11 with
             | true => kernel_rfl
             | false =>
              cases b12 with
              | true => kernel_rfl
              | false =>
               cases b13 with
               | true => kernel_rfl
               | false =>
                cases b14 with
                | true => kernel_rfl
                | false =>
                 cases b15 with
                 | true => kernel_rfl
                 | false =>
                  kernel_rfl

/-- Sixteen bits as values. -/
def bitsV (t : Nat) : List Value := (List.range 16).map (fun j => .bool (t.testBit j))
theorem bits_zero {t : Nat} (ht : t < 65536) : (!(t.testBit 0 || (t.testBit 1 || (t.testBit 2 || (t.testBit 3 || (t.testBit 4 || (t.testBit 5 || (t.testBit 6 || (t.testBit 7 || (t.testBit 8 || (t.testBit 9 || (t.testBit 10 || (t.testBit 11 || (t.testBit 12 || (t.testBit 13 || (t.testBit 14 || (t.testBit 15))))))))))))))))) = decide (t = 0) := by
  by_cases h : t = 0
  · subst h
    rfl
  · rw [decide_eq_false h]
    obtain ⟨i, hi⟩ := Nat.exists_testBit_of_ne_zero h
    have hi16 : i < 16 := by
      apply Nat.lt_of_not_le
      intro hle
      have : t < 2 ^ i := Nat.lt_of_lt_of_le ht (Nat.le_trans (by decide : 65536 ≤ 2 ^ 16) (Nat.pow_le_pow_right (by decide) hle))
      rw [Nat.testBit_lt_two_pow this] at hi
      cases hi
    have : i = 0 ∨ i = 1 ∨ i = 2 ∨ i = 3 ∨ i = 4 ∨ i = 5 ∨ i = 6 ∨ i = 7 ∨ i = 8 ∨ i = 9 ∨ i = 10 ∨ i = 11 ∨ i = 12 ∨ i = 13 ∨ i = 14 ∨ i = 15 := by omega
    rcases this with rfl | rfl | rfl | rfl | rfl | rfl | rfl | rfl | rfl | rfl | rfl | rfl | rfl | rfl | rfl | rfl <;> simp [hi]
theorem eq_bits (t : Nat) (ht : t < 65536) (w : World) : (Op.equalIn 10000 150 (.agg (bitsV t).toArray) (.agg #[.bool false, .bool false, .bool false, .bool false, .bool false, .bool false, .bool false, .bool false, .bool false, .bool false, .bool false, .bool false, .bool false, .bool false, .bool false, .bool false])).run Tryd.prog w = .ok (decide (t = 0)) w := by
  rw [← bits_zero ht]
  exact eq16 (t.testBit 0) (t.testBit 1) (t.testBit 2) (t.testBit 3) (t.testBit 4) (t.testBit 5) (t.testBit 6) (t.testBit 7) (t.testBit 8) (t.testBit 9) (t.testBit 10) (t.testBit 11) (t.testBit 12) (t.testBit 13) (t.testBit 14) (t.testBit 15) w
theorem guard16 : Tryd.prog.eqGuardType Tryd.prog.depth 150 = false := by kernel_rfl
theorem size16 : (Tryd.prog.info? 150).map (·.size) = some 16 := by kernel_rfl
theorem RA.range {w : World} {rb rc rt : Nat} {bs : List Bk} (h : RA w rb rc rt bs) (n : Nat) (hn : n < bs.length) : w.rangeAt rt (n * 16) (bitsV bs[n].t) := by
  intro j v hv
  have hj : j < 16 := by simpa [bitsV] using (List.getElem?_eq_some_iff.1 hv).1
  rw [h.bit n j hn hj, ← hv]
  unfold bitsV
  rw [List.getElem?_map, List.getElem?_range hj]
  rfl
theorem bits_size (t : Nat) : (Tryd.prog.info? 150).map (·.size) = some (bitsV t).length := by rw [size16]; simp [bitsV]

set_option maxRecDepth 20000 in
set_option maxHeartbeats 1000000 in
theorem rfree_any (rb rc rt : Nat) (bs : List Bk) (i : Int) (hi : i ≤ 9223372036854775807) (hO : AO bs) (w : World) (h : RA w rb rc rt bs) :
    Calls Tryd.prog 55 #[.pointer (some ⟨rb, 0, none⟩), .int .i64 i] w fun e w' => e = .returned (.int .i64 (freeR bs i : Nat)) ∧ RA w' rb rc rt (freeL bs i) ∧ Kept w w' (fun k => k = rc ∨ k = rt) := by
  have hA := fun w (h : RA w rb rc rt bs) => rat_any rb rc rt bs i hi w h
  by_cases hz : atB bs i = 0
  · obtain ⟨e1, e2⟩ := free_none hz
    rw [e1, e2]
    rw [hz] at hA
    clear hz e1 e2
    go_enter Tryd.func55, Tryd.ntmps55
    go_wp2_with (go_at_call 76; refine (hA _ h).mono ?_; rintro e w1 ⟨rfl, hb1⟩)
    go_ret
    exact ⟨rfl, h.below hb1, kept_of_below hb1 _⟩
  obtain ⟨h0, hn, hc0, hcls, hrem, hbit⟩ := atB_some hz
  unfold freeR freeL
  rw [if_neg hz, if_neg hz]
  obtain ⟨c, rfl⟩ : ∃ c : Nat, i = (c : Int) := ⟨i.toNat, by omega⟩
  simp only [Int.toNat_natCast] at hn hc0 hcls hrem hbit ⊢
  rw [hcls] at hA
  rw [getD_at hn]
  have hl := h.len
  have hOx := hO _ (List.getElem_mem hn)
  have hlt := hOx.lt
  have hq : (c : Int) / 16 = ((c / 16 : Nat) : Int) := by omega
  have hm : (c : Int) % 16 = ((c % 16 : Nat) : Int) := by omega
  have hr : c % 16 < 16 := by omega
  have hq16 : c % 16 / bs[c / 16].c < 16 := Nat.lt_of_le_of_lt (Nat.div_le_self _ _) hr
  have hqi : ((c % 16 : Nat) : Int) / (bs[c / 16].c : Int) = ((c % 16 / bs[c / 16].c : Nat) : Int) := by simp
  have hqt : Int.tdiv ((c % 16 : Nat) : Int) (bs[c / 16].c : Int) = ((c % 16 / bs[c / 16].c : Nat) : Int) := by rfl
  have ho := fun i => offN_bit bs[c / 16].t (c % 16 / bs[c / 16].c) i hlt (by omega)
  have hD : dropN bs[c / 16] (c % 16) = if offN bs[c / 16].t (c % 16 / bs[c / 16].c) = 0 then ⟨0, 0⟩ else ⟨bs[c / 16].c, offN bs[c / 16].t (c % 16 / bs[c / 16].c)⟩ := rfl
  rw [hD]
  have hoff : offN bs[c / 16].t (c % 16 / bs[c / 16].c) < 65536 := Nat.lt_of_le_of_lt Nat.and_le_left hlt
  have HS : Hid (∀ W, RA W rb rc rt bs → RA (W.setCell ⟨rt, c / 16 * 16 + c % 16 / bs[c / 16].c, none⟩ (.bool false)) rb rc rt (bs.set (c / 16) ⟨bs[c / 16].c, offN bs[c / 16].t (c % 16 / bs[c / 16].c)⟩) ∧ Kept W (W.setCell ⟨rt, c / 16 * 16 + c % 16 / bs[c / 16].c, none⟩ (.bool false)) (fun k => k = rc ∨ k = rt)) := fun W hW =>
    hW.setT (c / 16) (c % 16 / bs[c / 16].c) hn hq16 false ⟨bs[c / 16].c, offN bs[c / 16].t (c % 16 / bs[c / 16].c)⟩ rfl (fun i _ => by
      show (offN bs[c / 16].t (c % 16 / bs[c / 16].c)).testBit i = _
      rw [ho i]
      by_cases e : i = c % 16 / bs[c / 16].c
      · simp [e]
      · simp [e])
  have HB : Hid (∀ W, RA W rb rc rt bs → W.cell? ⟨rt, c / 16 * 16 + c % 16 / bs[c / 16].c, none⟩ = some (.bool (bs[c / 16].t.testBit (c % 16 / bs[c / 16].c)))) := fun W hW => hW.bit _ _ hn hq16
  clear ho hz hcls hrem hbit hD
  generalize bs[c / 16] = x at *
  generalize hNN : c / 16 = n at *
  generalize c % 16 = r at *
  generalize r / x.c = q at *
  generalize offN x.t q = T at *
  have hni : (n : Int) < (bs.length : Int) := by omega
  have hq16i : (q : Int) < 16 := by omega
  have hci : ((x.c : Int) == 0) = false := by rw [beq_eq_false_iff_ne]; omega
  clear hNN
  have hg := guard16
  have heq := eq_bits T hoff
  by_cases hT : T = 0
  · subst hT
    rw [if_pos rfl]
    simp only [decide_true] at heq
    go_enter Tryd.func55, Tryd.ntmps55
    go_wp2_with (go_at_call 76; refine (hA _ h).mono ?_; clear hA; rintro e w1 ⟨rfl, hb1⟩; have h1 := h.below hb1; have c1 := h1.c1; have d1 := HB.out _ h1; have f1 := h1.ft (n * 16 + q); obtain ⟨hS1, hK1⟩ := HS.out _ h1)
    go_region
    have hS2 := hS1.below (w' := (w1.setCell ⟨rt, n * 16 + q, none⟩ (.bool false)).drew) (Below.refl _ _).drew
    have hK2 : Kept w (w1.setCell ⟨rt, n * 16 + q, none⟩ (.bool false)).drew (fun k => k = rc ∨ k = rt) := ((kept_of_below hb1 _).trans hK1 (fun _ _ e => e)).trans (Kept.drew _) (fun _ _ e => e.elim)
    clear c1 d1 f1 hS1 hK1 HS HB
    generalize (w1.setCell ⟨rt, n * 16 + q, none⟩ (.bool false)).drew = W2 at *
    have hnl : n < (bs.set n ⟨x.c, 0⟩).length := by simpa using hn
    have g0 := hS2.c0
    have g1 := hS2.c1
    have g2 := hS2.range n hnl
    have g3 := hS2.cl n hnl
    have g4 := hS2.fc n
    rw [List.length_set] at g0 g1
    rw [List.getElem_set_self] at g2 g3
    obtain ⟨hS3, hK3⟩ := hS2.setC n 0 hnl
    rw [List.getElem_set_self, List.set_set] at hS3
    have HR : Hid (RA (W2.setCell ⟨rc, n, none⟩ (.int .i64 ((0 : Nat) : Int))) rb rc rt (bs.set n ⟨0, 0⟩) ∧ Kept w (W2.setCell ⟨rc, n, none⟩ (.int .i64 ((0 : Nat) : Int))) (fun k => k = rc ∨ k = rt)) := ⟨hS3, hK2.trans hK3 (fun _ _ e => e)⟩
    clear hS3 hK3 hS2 hK2
    go_wp2_with (refine wpList_load_mid rfl 150 (.tmp 30) rfl rt (n * 16) rfl (bitsV 0) _ g2 Tryd.underlying150 rfl (bits_size 0) ?_)
    go_ret
    exact ⟨rfl, HR.out⟩
  · rw [if_neg hT]
    simp only [decide_eq_false hT] at heq
    go_enter Tryd.func55, Tryd.ntmps55
    go_wp2_with (go_at_call 76; refine (hA _ h).mono ?_; clear hA; rintro e w1 ⟨rfl, hb1⟩; have h1 := h.below hb1; have c1 := h1.c1; have d1 := HB.out _ h1; have f1 := h1.ft (n * 16 + q); obtain ⟨hS1, hK1⟩ := HS.out _ h1)
    go_region
    have hS2 := hS1.below (w' := (w1.setCell ⟨rt, n * 16 + q, none⟩ (.bool false)).drew) (Below.refl _ _).drew
    have hK2 : Kept w (w1.setCell ⟨rt, n * 16 + q, none⟩ (.bool false)).drew (fun k => k = rc ∨ k = rt) := ((kept_of_below hb1 _).trans hK1 (fun _ _ e => e)).trans (Kept.drew _) (fun _ _ e => e.elim)
    clear c1 d1 f1 hS1 hK1 HS HB
    generalize (w1.setCell ⟨rt, n * 16 + q, none⟩ (.bool false)).drew = W2 at *
    have hnl : n < (bs.set n ⟨x.c, T⟩).length := by simpa using hn
    have g0 := hS2.c0
    have g1 := hS2.c1
    have g2 := hS2.range n hnl
    have g3 := hS2.cl n hnl
    have g4 := hS2.fc n
    rw [List.length_set] at g0 g1
    rw [List.getElem_set_self] at g2 g3
    have HR : Hid (RA W2 rb rc rt (bs.set n ⟨x.c, T⟩) ∧ Kept w W2 (fun k => k = rc ∨ k = rt)) := ⟨hS2, hK2⟩
    clear hS2 hK2
    go_wp2_with (refine wpList_load_mid rfl 150 (.tmp 30) rfl rt (n * 16) rfl (bitsV T) _ g2 Tryd.underlying150 rfl (bits_size T) ?_)
    go_ret
    exact ⟨rfl, HR.out⟩

end Go.Proofs.YtdafpfdmnccelaaDoor
