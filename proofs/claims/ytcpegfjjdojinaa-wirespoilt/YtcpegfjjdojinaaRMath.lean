/- The plain Right says what Right says: plain facts. -/
import Derived.Test.YtcpegfjjdojinaaRRight
import Derived.Test.YtcpegfjjdojinaaRNum
import Derived.Test.YtcpegfjjdojinaaWRight
namespace Go.Proofs.Ytcpegfjjdojinaa
open Go.RowKit

theorem u64_eq {z : Int} (h : I64 z) : u64 z = if 0 ≤ z then z.toNat else (z + 18446744073709551616).toNat := by
  unfold I64 at h
  unfold u64
  split <;> omega
theorem num_in {z lo hi : Int} (h : I64 z) (h0 : 0 ≤ lo) (h1 : 0 ≤ hi) (h2 : hi < 9223372036854775808) : (decide (lo.toNat ≤ u64 z) && decide (u64 z ≤ hi.toNat)) = (decide (lo ≤ z) && decide (z ≤ hi)) := by
  rw [u64_eq h]
  unfold I64 at h
  apply Bool.eq_iff_iff.2
  simp only [Bool.and_eq_true, decide_eq_true_eq]
  split <;> omega
theorem num_zero {z : Int} (h : I64 z) : (u64 z == 0) = (z == 0) := by
  rw [u64_eq h]
  unfold I64 at h
  apply Bool.eq_iff_iff.2
  simp only [beq_iff_eq]
  split <;> omega

theorem okF_has (m : Msg) (f : Nat) : okF m f = if hasB m.kind f = true then fitsB m f else zeroB m f := by
  unfold okF hasB
  by_cases h : hasF m.kind &&& f = 0
  · rw [if_pos h]; simp [h]
  · rw [if_neg h]; simp [h]

theorem ok_num {m : Msg} {f : Nat} {z lo hi : Int} (h1 : f ≠ 32) (h2 : f ≠ 4096) (h3 : f ≠ 16384) (h4 : f ≠ 2) (hn : m.num f = u64 z) (hz : I64 z) (hlo : lowF f = lo.toNat) (hhi : topF m.kind f = hi.toNat) (l0 : 0 ≤ lo) (l1 : 0 ≤ hi) (l2 : hi < 9223372036854775808) :
    okF m f = numR (hasB m.kind f) z lo hi := by
  rw [okF_has]
  unfold numR
  by_cases h : hasB m.kind f = true
  · rw [if_pos h, if_pos h]
    unfold fitsB
    rw [if_neg h1, if_neg h2, if_neg h3, if_neg h4, hn, hlo, hhi]
    exact num_in hz l0 l1 l2
  · rw [if_neg h, if_neg h]
    unfold zeroB
    rw [if_neg h1, if_neg h2, if_neg h3, hn]
    exact num_zero hz
theorem ok_ser {m : Msg} {f n : Nat} (h1 : f ≠ 32) (h2 : f ≠ 4096) (h3 : f ≠ 16384) (h4 : f ≠ 2) (hn : m.num f = n) (hlo : lowF f = 1) (hhi : topF m.kind f = 72057594037927935) : okF m f = serR (hasB m.kind f) n := by
  rw [okF_has]
  unfold serR
  by_cases h : hasB m.kind f = true
  · rw [if_pos h, if_pos h]
    unfold fitsB isSerialB
    rw [if_neg h1, if_neg h2, if_neg h3, if_neg h4, hn, hlo, hhi]
  · rw [if_neg h, if_neg h]
    unfold zeroB
    rw [if_neg h1, if_neg h2, if_neg h3, hn]
theorem ok_any {m : Msg} {f n : Nat} (h1 : f ≠ 32) (h2 : f ≠ 4096) (h3 : f ≠ 16384) (h4 : f ≠ 2) (hn : m.num f = n) (hu : U64 n) (hlo : lowF f = 0) (hhi : topF m.kind f = 18446744073709551615) : okF m f = (hasB m.kind f || n == 0) := by
  rw [okF_has]
  unfold U64 at hu
  cases h : hasB m.kind f
  · rw [if_neg (by decide)]
    unfold zeroB
    rw [if_neg h1, if_neg h2, if_neg h3, hn]
    rfl
  · rw [if_pos rfl]
    unfold fitsB
    rw [if_neg h1, if_neg h2, if_neg h3, if_neg h4, hn, hlo, hhi, decide_eq_true (by omega), decide_eq_true (by omega)]
    rfl

theorem top_op (k : Int) : topF k 8 = (opTop k).toNat := by
  show (if k = 8 then 3 else 6) = _
  unfold opTop
  split <;> rfl
theorem top_code (k : Int) : topF k 1024 = (codeTop k).toNat := by
  show (if k = 9 then 2 else 10) = _
  unfold codeTop
  split <;> rfl

theorem numbers_ok {m : Msg} (hm : m.Ok) : numbersB m = ((okF m 1 && okF m 8 && okF m 16 && okF m 4 && okF m 1024) && (okF m 64 && okF m 128 && okF m 512) && okF m 2 && okF m 2048 && okF m 256 && okF m 8192) := by
  have ho : 0 ≤ opTop m.kind ∧ opTop m.kind < 100 := by unfold opTop; split <;> omega
  have hc : 0 ≤ codeTop m.kind ∧ codeTop m.kind < 100 := by unfold codeTop; split <;> omega
  have e1 : okF m 1 = serR (hasB m.kind 1) m.call := ok_ser (by omega) (by omega) (by omega) (by omega) rfl rfl rfl
  have e8 : okF m 8 = numR (hasB m.kind 8) m.op 1 (opTop m.kind) := ok_num (by omega) (by omega) (by omega) (by omega) rfl hm.op rfl (top_op _) (by omega) ho.1 (by omega)
  have e16 : okF m 16 = numR (hasB m.kind 16) m.fld 0 63 := ok_num (by omega) (by omega) (by omega) (by omega) rfl hm.fld rfl rfl (by omega) (by omega) (by omega)
  have e4 : okF m 4 = numR (hasB m.kind 4) m.item 0 4095 := ok_num (by omega) (by omega) (by omega) (by omega) rfl hm.item rfl rfl (by omega) (by omega) (by omega)
  have e1024 : okF m 1024 = numR (hasB m.kind 1024) m.code 0 (codeTop m.kind) := ok_num (by omega) (by omega) (by omega) (by omega) rfl hm.code rfl (top_code _) (by omega) hc.1 (by omega)
  have e64 : okF m 64 = serR (hasB m.kind 64) m.seq := ok_ser (by omega) (by omega) (by omega) (by omega) rfl rfl rfl
  have e128 : okF m 128 = numR (hasB m.kind 128) m.vou 1 64 := ok_num (by omega) (by omega) (by omega) (by omega) rfl hm.vou rfl rfl (by omega) (by omega) (by omega)
  have e512 : okF m 512 = numR (hasB m.kind 512) m.dist 1 40 := ok_num (by omega) (by omega) (by omega) (by omega) rfl hm.dist rfl rfl (by omega) (by omega) (by omega)
  have e2 : okF m 2 = floorR (hasB m.kind 2) m.floor m.call := by
    rw [okF_has]
    unfold floorR
    rfl
  have e2048 : okF m 2048 = (hasB m.kind 2048 || m.val == 0) := ok_any (by omega) (by omega) (by omega) (by omega) rfl hm.val rfl rfl
  have e256 : okF m 256 = (hasB m.kind 256 || m.at_ == 0) := ok_any (by omega) (by omega) (by omega) (by omega) rfl hm.at_ rfl rfl
  have e8192 : okF m 8192 = (hasB m.kind 8192 || m.stamp == 0) := ok_any (by omega) (by omega) (by omega) (by omega) rfl hm.stamp rfl rfl
  rw [e1, e8, e16, e4, e1024, e64, e128, e512, e2, e2048, e256, e8192]
  rfl

theorem target_ok (m : Msg) : targetB m = okF m 32 := by
  rw [okF_has]
  rfl

theorem rises_eq (l : List Nat) : ∀ n, n ≤ l.length → (risesR l n && risesFrom (if n = 0 then 0 else l.getD (n - 1) 0) (l.drop n)) = risesFrom 0 l := by
  intro n
  induction n with
  | zero => intro _; simp [risesR]
  | succ n ih =>
    intro hn
    rw [← ih (by omega)]
    have hd : l.drop n = l[n] :: l.drop (n + 1) := List.drop_eq_getElem_cons (by omega)
    have hg : l.getD n 0 = l[n] := by simp [List.getD_eq_getElem?_getD, List.getElem?_eq_getElem (show n < l.length by omega)]
    rw [hd]
    simp only [risesR, risesFrom, stepR, hg, Nat.add_sub_cancel, Nat.add_eq_zero_iff, Nat.one_ne_zero, and_false, if_false]
    by_cases h0 : n = 0
    · subst h0
      rw [if_pos rfl]
      have : isSerialB l[0] = (isSerialB l[0] && decide (0 < l[0])) := by
        apply Bool.eq_iff_iff.2
        simp [isSerialB]
        omega
      simp only [decide_true, Bool.true_or, Bool.and_true]
      rw [← this]
      simp [Bool.and_assoc]
    · rw [if_neg h0]
      simp [h0, Bool.and_assoc]

theorem rises_all (l : List Nat) : risesR l l.length = risesFrom 0 l := by
  rw [← rises_eq l l.length (Nat.le_refl _), List.drop_length]
  simp [risesFrom]

theorem lists_ok (m : Msg) : (!badLists m && m.refs.all isIDB && risesR m.list m.list.length) = (okF m 4096 && okF m 16384) := by
  rw [okF_has, okF_has, rises_all]
  have f1 : fitsB m 4096 = (decide (m.refs.length ≤ 2) && m.refs.all isIDB) := rfl
  have f2 : fitsB m 16384 = (decide (m.list.length ≤ 64) && risesFrom 0 m.list) := rfl
  have z1 : zeroB m 4096 = m.refs.isEmpty := rfl
  have z2 : zeroB m 16384 = m.list.isEmpty := rfl
  rw [f1, f2, z1, z2]
  unfold badLists
  have d1 : decide (2 < m.refs.length) = !decide (m.refs.length ≤ 2) := by
    apply Bool.eq_iff_iff.2; simp
  have d2 : decide (64 < m.list.length) = !decide (m.list.length ≤ 64) := by
    apply Bool.eq_iff_iff.2; simp
  rw [d1, d2]
  cases h1 : m.refs with
  | nil =>
    cases h2 : m.list with
    | nil => cases hasB m.kind 4096 <;> cases hasB m.kind 16384 <;> simp [risesFrom]
    | cons y s =>
      generalize decide ((y :: s).length ≤ 64) = q
      generalize risesFrom 0 (y :: s) = r
      cases hasB m.kind 4096 <;> cases hasB m.kind 16384 <;> cases q <;> cases r <;> simp
  | cons x t =>
    generalize decide ((x :: t).length ≤ 2) = p
    generalize (x :: t).all isIDB = a
    cases h2 : m.list with
    | nil => cases hasB m.kind 4096 <;> cases hasB m.kind 16384 <;> cases p <;> cases a <;> simp [risesFrom]
    | cons y s =>
      generalize decide ((y :: s).length ≤ 64) = q
      generalize risesFrom 0 (y :: s) = r
      cases hasB m.kind 4096 <;> cases hasB m.kind 16384 <;> cases p <;> cases a <;> cases q <;> cases r <;> simp

theorem kind_ok (k : Int) : withinB k 1 11 = !(hasF k == 0) := by
  unfold withinB
  by_cases h : 1 ≤ k ∧ k ≤ 11
  · rw [decide_eq_true h.1, decide_eq_true h.2]
    rcases kinds k with rfl | rfl | rfl | rfl | rfl | rfl | rfl | rfl | rfl | rfl | rfl | h2
    any_goals rfl
    exact absurd h h2
  · rw [hasF_out h]
    have : (decide (1 ≤ k) && decide (k ≤ 11)) = false := by
      apply Bool.eq_false_iff.2
      simp only [ne_eq, Bool.and_eq_true, decide_eq_true_eq]
      exact h
    rw [this]
    rfl

/-- The plain Right says what Right says. -/
theorem right_same {m : Msg} (hm : m.Ok) : rightR m (numbersB m) = rightB m := by
  have h1 : rightR m (numbersB m) = (headR m (numbersB m) && (!badLists m && m.refs.all isIDB && risesR m.list m.list.length)) := by
    unfold rightR
    simp only [Bool.and_assoc]
  rw [h1, lists_ok]
  unfold headR
  rw [numbers_ok hm, target_ok, kind_ok]
  have h2 : rightB m = (!(hasF m.kind == 0) && withinB m.frm 1 64 && withinB m.to 1 64 && !(m.frm == m.to) && (okF m 1 && (okF m 2 && (okF m 4 && (okF m 8 && (okF m 16 && (okF m 32 && (okF m 64 && (okF m 128 && (okF m 256 && (okF m 512 && (okF m 1024 && (okF m 2048 && (okF m 4096 && (okF m 8192 && (okF m 16384 && true)))))))))))))))) := rfl
  rw [h2]
  generalize okF m 1 = a1
  generalize okF m 2 = a2
  generalize okF m 4 = a3
  generalize okF m 8 = a4
  generalize okF m 16 = a5
  generalize okF m 32 = a6
  generalize okF m 64 = a7
  generalize okF m 128 = a8
  generalize okF m 256 = a9
  generalize okF m 512 = a10
  generalize okF m 1024 = a11
  generalize okF m 2048 = a12
  generalize okF m 4096 = a13
  generalize okF m 8192 = a14
  generalize okF m 16384 = a15
  rw [Bool.and_true]
  ac_rfl

end Go.Proofs.Ytcpegfjjdojinaa
