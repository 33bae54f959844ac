/- What package wire reads: the walk of readIDs. -/
import Derived.Test.YtcpegfjjdojinaaWReadL
import Derived.Test.YtcpegfjjdojinaaWCopy
namespace Go.Proofs.Ytcpegfjjdojinaa
open Go.RowKit

/-- 'make([]T, n)': a new block of its cells. -/
theorem wpList_make_size {P : Program} (w : World) {ops : Array Oper} {rest : List Oper} {o : Oper} {a : Act} {Q : Exit → Act → World → Prop}
    (hg : o.guard = none) (l c : Operand) (t : TypeId) (hop : o.op = Op.makeSlice t l c)
    (e : TypeId) (i : TypeInfo) (z : Value) (h1 : P.underlying t = some (.slice e)) (h2 : P.info? e = some i) (h3 : i.zero = some z)
    (kl kc : IntKind) (n : Nat) (hl : a.eval l = .int kl (n : Int)) (hc : a.eval c = .int kc (n : Int)) (b2 : i.bytes * n ≤ 281474976710656) (b3 : n ≤ maxLen)
    (hK : ∀ w' C, C.size = n * i.size → w'.heap[w.heap.size]? = some (.cells C e (0, 0)) → Below w.heap.size w w' → w.heap.size < w'.heap.size → wpList P ops Q rest (a.put o.dst (.slice (some ⟨w.heap.size, 0, none⟩) n n)) w') :
    wpList P ops Q (o :: rest) a w := by
  refine wpList_plain hg fun K hK' => ?_
  have b3' := b3
  have hb' : (i.bytes : Int) * (n : Int) ≤ 281474976710656 := by
    have h : ((i.bytes * n : Nat) : Int) ≤ 281474976710656 := by omega
    rwa [Int.natCast_mul] at h
  simp only [maxLen] at b3'
  have hrun := run_make (P := P) w t e i z h1 h2 h3 kl kc n n (by omega) (Int.le_refl _) hb' (by omega)
  unfold Oper.wp
  simp [execOp, hop, hl, hc, hrun, Result.andThen]
  exact hK' _ _ (hK _ (madeCells z.cells (n * i.size)) (size_madeCells _ _) (heap_alloc_new w _) ((Below.refl _ _).alloc (Nat.le_refl _) _) (by simp))

/-- n IDs are read. -/
def rIn (L : List UInt8) : Nat → Nat → Nat → List (Int × Nat) × Nat × Nat
  | 0, p, e => ([], p, e)
  | n + 1, p, e => ((rIn L n p e).1 ++ [(rID L (rIn L n p e).2.1 (rIn L n p e).2.2).1], (rID L (rIn L n p e).2.1 (rIn L n p e).2.2).2)
def rIDs (L : List UInt8) (p e : Nat) : List (Int × Nat) × Nat × Nat := rIn L (rNum L p e 2).1 (rNum L p e 2).2.1 (rNum L p e 2).2.2
theorem rIn_len (L : List UInt8) (n p e : Nat) : (rIn L n p e).1.length = n := by
  induction n with
  | zero => rfl
  | succ n ih => simp [rIn, ih]

set_option maxRecDepth 20000 in
set_option maxHeartbeats 2000000 in
theorem readIDs_any (w : World) (rb g : Nat) (L : List UInt8) (p e : Nat) (h : RD w rb g L p e) :
    Calls Try.prog 78 #[.pointer (some ⟨rb, 0, none⟩)] w fun r w' => ∃ k, w.heap.size ≤ k ∧ r = .returned (.slice (some ⟨k, 0, none⟩) (rIDs L p e).1.length (rIDs L p e).1.length) ∧ w'.heap[k]? = some (.cells ((rIDs L p e).1.flatMap idCells).toArray 24 (0, 0)) ∧ RTo w w' rb g L (rIDs L p e).2.1 (rIDs L p e).2.2 := by
  have hsz := h.size
  have hgl : g < w.heap.size := (Array.getElem?_eq_some_iff.1 h.row).1
  obtain ⟨i, hi1, hi2, hi3, hi4⟩ := info_parts Try.infoID
  have hn := rnum_any w rb g L p e 2 h
  have hle := rNum_le L p e 2
  have HL : Hid (rIDs L p e = rIn L (rNum L p e 2).1 (rNum L p e 2).2.1 (rNum L p e 2).2.2) := rfl
  generalize (rNum L p e 2) = N at *
  obtain ⟨n, p1, e1⟩ := N
  simp only at hn hle HL
  go_enter Try.func78, Try.ntmps78
  go_wp2_with (first
    | (go_at_call 81; refine hn.mono ?_; rintro r w1 ⟨rfl, hto1⟩)
    | (at_make; refine wpList_make_size w1 rfl (.tmp 6) (.tmp 6) 25 rfl 24 i _ Try.underlying25 hi1 hi2 .u64 .u64 n rfl rfl (by rw [hi4]; omega) (by simp only [maxLen]; omega) ?_; intro w2 C hC hg2 hb2 hlt2))
  have z1 := hto1.kept.size
  have hr2 := hto1.rd.below hb2
  rw [hi3] at hC
  have hf2 : Fill w2 w1.heap.size (n * 2) 24 [] := ⟨_, hg2, hC, by simp⟩
  have hk2 : Kept w w2 (fun k => k = rb) := hto1.kept.trans (kept_of_below hb2 _) (fun _ _ x => x)
  clear hg2 hn
  generalize hG : w1.heap.size = gl at *
  have hne : gl ≠ rb := by omega
  go_loopw [10] (fun i wr => ∃ k : Nat, k ≤ n ∧ i = .int .i64 (k : Int) ∧ Fill wr gl (n * 2) 24 ((rIn L k p1 e1).1.flatMap idCells) ∧ RTo w wr rb g L (rIn L k p1 e1).2.1 (rIn L k p1 e1).2.2) (fun i _ => n - (intOf i).toNat)
  case atStart => exact ⟨0, Nat.zero_le _, rfl, hf2, hr2, hk2⟩
  case round =>
    obtain ⟨k, hk, rfl, hf, hto⟩ := hrel
    by_cases hlt : k < n
    · have hlen : ((rIn L k p1 e1).1.flatMap idCells).length = k * 2 := by rw [length_flat2 idCells (fun _ => rfl), rIn_len]
      have hid := readID_any wr rb g L (rIn L k p1 e1).2.1 (rIn L k p1 e1).2.2 hto.rd
      have HS : Hid (rIn L (k + 1) p1 e1 = ((rIn L k p1 e1).1 ++ [(rID L (rIn L k p1 e1).2.1 (rIn L k p1 e1).2.2).1], (rID L (rIn L k p1 e1).2.1 (rIn L k p1 e1).2.2).2)) := rfl
      generalize rIn L k p1 e1 = R at *
      generalize rID L R.2.1 R.2.2 = M at *
      obtain ⟨⟨x1, x2⟩, M2⟩ := M
      go_wp2_with (go_at_call 77; refine hid.mono ?_; rintro r w3 ⟨rfl, hto3⟩; have hf3 := hf.keep hto3.kept hne; obtain ⟨⟨u0, c0⟩, z0⟩ := hf3.cell (k * 2) (by omega); obtain ⟨⟨u1, c1⟩, z3⟩ := hf3.cell (k * 2 + 1) (by omega))
      go_roundw
      case rel =>
        refine ⟨k + 1, by omega, by go_num, ?_, ?_⟩
        · rw [HS.out, List.flatMap_append]
          have := (hf3.next (k * 2) hlen (by omega) (.int .i64 x1)).next (k * 2 + 1) (by simp [hlen]) (by omega) (.int .u64 (x2 : Int))
          simpa [idCells] using this
        · rw [HS.out]
          have hks := (Kept.setCell w3 ⟨gl, k * 2, none⟩ (.int .i64 x1)).trans (Kept.setCell _ ⟨gl, k * 2 + 1, none⟩ (.int .u64 (x2 : Int))) (fun _ _ h => h)
          exact ⟨hto3.rd.keep hks (fun e => hne e.symm) (by simp; omega), (hto.kept.trans hto3.kept (fun _ _ x => x)).trans hks (fun i hi e => by simp at e; omega)⟩
      case measure => simp [intOf]; omega
    · have hkn : k = n := by omega
      subst hkn
      go_wp2
      go_ret
      refine ⟨gl, by omega, ?_, ?_, ?_⟩
      · rw [HL.out, rIn_len]; rfl
      · rw [HL.out]
        exact hf.whole (by rw [length_flat2 idCells (fun _ => rfl), rIn_len])
      · rw [HL.out]; exact hto

end Go.Proofs.Ytcpegfjjdojinaa
