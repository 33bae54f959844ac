/- What package wire reads: the walk of readList. -/
import Derived.Test.YtcpegfjjdojinaaWRead
namespace Go.Proofs.Ytcpegfjjdojinaa
open Go.RowKit

theorem rNum_le (L : List UInt8) (p e m : Nat) : (rNum L p e m).1 ≤ m := by
  unfold rNum
  split
  · exact Nat.zero_le _
  · split
    · exact Nat.zero_le _
    · split
      · exact Nat.zero_le _
      · omega
theorem rByte_le (L : List UInt8) (p e m : Nat) : (rByte L p e m).1 ≤ m := by
  unfold rByte
  split
  · exact Nat.zero_le _
  · split
    · exact Nat.zero_le _
    · split
      · exact Nat.zero_le _
      · simp; omega

theorem Try.infoU64R : (Try.prog.info? 22).map (fun i => (i.zero, i.size, i.bytes)) = some (some (.int .u64 0), 1, 8) := by kernel_rfl

/-- n numbers are read. -/
def rLs (L : List UInt8) : Nat → Nat → Nat → List Nat × Nat × Nat
  | 0, p, e => ([], p, e)
  | n + 1, p, e => ((rLs L n p e).1 ++ [(rNum L (rLs L n p e).2.1 (rLs L n p e).2.2 72057594037927935).1], (rNum L (rLs L n p e).2.1 (rLs L n p e).2.2 72057594037927935).2)
def rList (L : List UInt8) (p e : Nat) : List Nat × Nat × Nat := rLs L (rNum L p e 64).1 (rNum L p e 64).2.1 (rNum L p e 64).2.2
theorem rLs_len (L : List UInt8) (n p e : Nat) : (rLs L n p e).1.length = n := by
  induction n with
  | zero => rfl
  | succ n ih => simp [rLs, ih]

def nv64 (n : Nat) : Value := .int .u64 (n : Int)

theorem set_take {α : Type} (l : List α) (k : Nat) (x : α) (hk : k < l.length) (m : List α) (h : l.take k = m) : (l.set k x).take (k + 1) = m ++ [x] := by
  subst h
  rw [List.take_succ_eq_append_getElem (by simpa using hk)]
  simp [List.take_set_of_le]

/-- A row that is filled from the left. -/
structure Fill (w : World) (g n : Nat) (t : TypeId) (done : List Value) : Prop where
  ex : ∃ cur : Array Value, w.heap[g]? = some (.cells cur t (0, 0)) ∧ cur.size = n ∧ cur.toList.take done.length = done
theorem Fill.cell {w : World} {g n : Nat} {t : TypeId} {done : List Value} (h : Fill w g n t done) (j : Nat) (hj : j < n) : (∃ u, w.cell? ⟨g, j, none⟩ = some u) ∧ w.frozen? ⟨g, j, none⟩ = false := by
  obtain ⟨cur, hg, hs, _⟩ := h.ex
  refine ⟨⟨cur[j], ?_⟩, frozen_of_row w g j _ _ hg⟩
  rw [cell_of_row w g j _ _ _ hg]
  simp [hs, hj]
theorem Fill.keep {w w' : World} {g n : Nat} {t : TypeId} {done : List Value} {S : Nat → Prop} (h : Fill w g n t done) (hk : Kept w w' S) (hn : ¬ S g) : Fill w' g n t done := by
  obtain ⟨cur, hg, hs, ht⟩ := h.ex
  exact ⟨cur, (hk.block g (Array.getElem?_eq_some_iff.1 hg).1 hn).trans hg, hs, ht⟩
theorem Fill.size {w : World} {g n : Nat} {t : TypeId} {done : List Value} (h : Fill w g n t done) : g < w.heap.size := by
  obtain ⟨cur, hg, _, _⟩ := h.ex
  exact (Array.getElem?_eq_some_iff.1 hg).1
theorem Fill.next {w : World} {g n : Nat} {t : TypeId} {done : List Value} (h : Fill w g n t done) (k : Nat) (hk : done.length = k) (hkn : k < n) (v : Value) : Fill (w.setCell ⟨g, k, none⟩ v) g n t (done ++ [v]) := by
  obtain ⟨cur, hg, hs, ht⟩ := h.ex
  subst hk
  refine ⟨cur.setIfInBounds done.length v, ?_, by simp [hs], ?_⟩
  · rw [heap_setCell_same w g _ _ _ _ hg]
  · have := set_take cur.toList done.length v (by simpa [hs] using hkn) done ht
    simpa using this
theorem Fill.whole {w : World} {g n : Nat} {t : TypeId} {done : List Value} (h : Fill w g n t done) (hn : done.length = n) : w.heap[g]? = some (.cells done.toArray t (0, 0)) := by
  obtain ⟨cur, hg, hs, ht⟩ := h.ex
  rw [List.take_of_length_le (by simp; omega)] at ht
  rw [hg, ← ht]

set_option maxRecDepth 20000 in
set_option maxHeartbeats 2000000 in
theorem readList_any (w : World) (rb g : Nat) (L : List UInt8) (p e : Nat) (h : RD w rb g L p e) :
    Calls Try.prog 79 #[.pointer (some ⟨rb, 0, none⟩)] w fun r w' => ∃ k, w.heap.size ≤ k ∧ r = .returned (.slice (some ⟨k, 0, none⟩) (rList L p e).1.length (rList L p e).1.length) ∧ w'.heap[k]? = some (.cells ((rList L p e).1.map nv64).toArray 22 (0, 0)) ∧ RTo w w' rb g L (rList L p e).2.1 (rList L p e).2.2 := by
  have hsz := h.size
  have hgl : g < w.heap.size := (Array.getElem?_eq_some_iff.1 h.row).1
  obtain ⟨i, hi1, hi2, hi3, hi4⟩ := info_parts Try.infoU64R
  have hn := rnum_any w rb g L p e 64 h
  have hle := rNum_le L p e 64
  have HL : Hid (rList L p e = rLs L (rNum L p e 64).1 (rNum L p e 64).2.1 (rNum L p e 64).2.2) := rfl
  generalize (rNum L p e 64) = N at *
  obtain ⟨n, p1, e1⟩ := N
  simp only at hn hle HL
  go_enter Try.func79, Try.ntmps79
  go_wp2_with (first
    | (go_at_call 81; refine hn.mono ?_; rintro r w1 ⟨rfl, hto1⟩)
    | (at_make; refine wpList_make_row w1 rfl (.tmp 6) (.tmp 6) 26 rfl 22 i (.int .u64 0) Try.underlying26 hi1 hi2 hi3 rfl .u64 .u64 (n : Int) (n : Int) n rfl rfl rfl rfl (by rw [hi4]; omega) (by simp only [maxLen]; omega) ?_; intro w2 hg2 hb2 hlt2))
  have z1 := hto1.kept.size
  have hr2 := hto1.rd.below hb2
  have hf2 : Fill w2 w1.heap.size n 22 [] := ⟨_, hg2, by simp, by simp⟩
  have hk2 : Kept w w2 (fun k => k = rb) := hto1.kept.trans (kept_of_below hb2 _) (fun _ _ x => x)
  clear hg2 hn
  generalize hG : w1.heap.size = gl at *
  have hne : gl ≠ rb := by omega
  go_loopw [10] (fun i wr => ∃ k : Nat, k ≤ n ∧ i = .int .i64 (k : Int) ∧ Fill wr gl n 22 ((rLs L k p1 e1).1.map nv64) ∧ RTo w wr rb g L (rLs L k p1 e1).2.1 (rLs L k p1 e1).2.2) (fun i _ => n - (intOf i).toNat)
  case atStart => exact ⟨0, Nat.zero_le _, rfl, hf2, hr2, hk2⟩
  case round =>
    obtain ⟨k, hk, rfl, hf, hto⟩ := hrel
    by_cases hlt : k < n
    · have hlen : ((rLs L k p1 e1).1.map nv64).length = k := by rw [List.length_map, rLs_len]
      have hnum := rnum_any wr rb g L (rLs L k p1 e1).2.1 (rLs L k p1 e1).2.2 72057594037927935 hto.rd
      have HS : Hid (rLs L (k + 1) p1 e1 = ((rLs L k p1 e1).1 ++ [(rNum L (rLs L k p1 e1).2.1 (rLs L k p1 e1).2.2 72057594037927935).1], (rNum L (rLs L k p1 e1).2.1 (rLs L k p1 e1).2.2 72057594037927935).2)) := rfl
      generalize rLs L k p1 e1 = R at *
      generalize rNum L R.2.1 R.2.2 72057594037927935 = M at *
      go_wp2_with (go_at_call 81; refine hnum.mono ?_; rintro r w3 ⟨rfl, hto3⟩; have hf3 := hf.keep hto3.kept hne; obtain ⟨⟨u0, c0⟩, z0⟩ := hf3.cell k hlt)
      go_roundw
      case rel =>
        refine ⟨k + 1, by omega, by go_num, ?_, ?_⟩
        · rw [HS.out, List.map_append]
          exact hf3.next k hlen hlt (nv64 M.1)
        · rw [HS.out]
          have hks := Kept.setCell w3 ⟨gl, k, none⟩ (nv64 M.1)
          exact ⟨hto3.rd.keep hks (fun e => hne e.symm) (by simp; omega), (hto.kept.trans hto3.kept (fun _ _ x => x)).trans hks (fun i hi e => by simp at e; omega)⟩
      case measure => simp [intOf]; omega
    · have hkn : k = n := by omega
      subst hkn
      go_wp2
      go_ret
      refine ⟨gl, by omega, ?_, ?_, ?_⟩
      · rw [HL.out, rLs_len]; rfl
      · rw [HL.out]
        exact hf.whole (by rw [List.length_map, rLs_len])
      · rw [HL.out]; exact hto

end Go.Proofs.Ytcpegfjjdojinaa
