/- The plain Has: its walk. -/
import Derived.Test.YtcpegfjjdojinaaWStore
namespace Go.Proofs.Ytcpegfjjdojinaa
open Go.RowKit

def tblS : List (List UInt8) := [[], [99, 97, 108, 108, 32, 102, 108, 111, 111, 114, 32, 111, 112, 32, 102, 105, 101, 108, 100, 32, 116, 97, 114, 103, 101, 116, 32, 118, 97, 108, 117, 101, 32, 114, 101, 102, 115], [99, 97, 108, 108, 32, 99, 111, 100, 101, 32, 118, 97, 108, 117, 101, 32, 114, 101, 102, 115], [99, 97, 108, 108], [116, 97, 114, 103, 101, 116, 32, 115, 101, 113, 32, 118, 111, 117, 99, 104, 101, 114, 32, 97, 116, 32, 100, 105, 115, 116], [116, 97, 114, 103, 101, 116, 32, 115, 101, 113, 32, 97, 116, 32, 99, 111, 100, 101], [116, 97, 114, 103, 101, 116, 32, 115, 101, 113], [116, 97, 114, 103, 101, 116, 32, 115, 101, 113], [99, 97, 108, 108, 32, 105, 116, 101, 109, 32, 111, 112, 32, 116, 97, 114, 103, 101, 116], [99, 97, 108, 108, 32, 105, 116, 101, 109, 32, 99, 111, 100, 101, 32, 115, 116, 97, 109, 112, 32, 108, 105, 115, 116], [99, 97, 108, 108, 32, 105, 116, 101, 109, 32, 116, 97, 114, 103, 101, 116, 32, 115, 116, 97, 109, 112], [99, 97, 108, 108, 32, 105, 116, 101, 109]]
@[reducible] def sv (l : List UInt8) : Value := .string ⟨l.toArray⟩

/-- From place i on, the word under way began at fr. -/
def scan (S W : List UInt8) : Nat → Nat → Nat → Bool
  | 0, _, _ => false
  | n + 1, fr, i => if i = S.length ∨ S[i]? = some 32 then (if (S.take i).drop fr = W then true else scan S W n (i + 1) (i + 1)) else scan S W n fr (i + 1)
def hasW (k : Int) (W : List UInt8) : Bool := if 1 ≤ k ∧ k ≤ 11 then scan (tblS.getD k.toNat []) W ((tblS.getD k.toNat []).length + 1) 0 0 else false

theorem ext_list (S : List UInt8) (f j : Nat) : ((⟨S.toArray⟩ : ByteArray).extract f j).toList = (S.take j).drop f := by
  rw [Go.ByteArray.toList_eq, ByteArray.data_extract]
  simp [List.drop_take]

theorem scan_end {S W : List UInt8} {n f j : Nat} (h : j = S.length ∨ S[j]? = some 32) (he : ((S.take j).drop f == W) = true) : scan S W (n + 1) f j = true := by
  simp only [scan]
  rw [if_pos h, if_pos (by simpa using he)]
theorem scan_next {S W : List UInt8} {n f j : Nat} (h : j = S.length ∨ S[j]? = some 32) (he : ((S.take j).drop f == W) = false) : scan S W (n + 1) f j = scan S W n (j + 1) (j + 1) := by
  simp only [scan]
  rw [if_pos h, if_neg (by simpa using he)]
theorem scan_on {S W : List UInt8} {n f j : Nat} (h : ¬ (j = S.length ∨ S[j]? = some 32)) : scan S W (n + 1) f j = scan S W n f (j + 1) := by
  simp only [scan]
  rw [if_neg h]

theorem arr_size : (Try.prog.info? 89).map (·.size) = some 12 := by kernel_rfl

/-- A row of cells is stored, whole. -/
theorem store_tbl {ops : Array Oper} {rest : List Oper} {op : Oper} {a : Act} {w : World} {Q : Exit → Act → World → Prop} (x y : Operand) (ho : op.op = .store 89 x y) (hgd : op.guard = none)
    (b : Nat) (hx : a.eval x = .pointer (some ⟨b, 0, none⟩)) (hy : a.eval y = .agg (tblS.map sv).toArray) (ht : w.there b 0 12)
    (h : ∀ w', w'.rangeAt b 0 (tblS.map sv) → Kept w w' (fun k => k = b) → w'.heap.size = w.heap.size → wpList Try.prog ops Q rest (a.put op.dst undef) w') : wpList Try.prog ops Q (op :: rest) a w :=
  wpList_store_mid hgd 89 x y ho b 0 (tblS.map sv).toArray hx hy ht arr_size (all_oneCell_toArray (by intro v hv; obtain ⟨s, _, rfl⟩ := List.mem_map.1 hv; rfl))
    (h _ (World.rangeAt_setCells_same w b 0 _ ht) (kept_setCells b _ 0 w) (size_setCells b _ 0 w))

set_option maxRecDepth 20000 in
set_option maxHeartbeats 2000000 in
theorem has_in (k : Nat) (S W : List UInt8) (w : World) (h1 : 1 ≤ k) (h2 : k ≤ 11) (hS : (tblS.map sv)[k]? = some (sv S)) (hl : S.length ≤ 1000) :
    Calls Try.prog 38 #[.int .i64 (k : Int), sv W] w fun e w' => e = .returned (.bool (scan S W (S.length + 1) 0 0)) ∧ Below w.heap.size w w' := by
  go_enter Try.func38, Try.ntmps38
  go_wp2_with (refine store_tbl _ _ rfl rfl w.heap.size rfl rfl (there_row (heap_alloc_new w _) (Nat.le_refl 12)) ?_; intro w1 hr1 hk1 hz1; have c1 : w1.cell? ⟨w.heap.size, k, none⟩ = some (sv S) := by { have := hr1 k (sv S) hS; rwa [Nat.zero_add] at this }; clear hr1 hS; have q1 : Below w.heap.size w w1 := ((Below.refl _ _).alloc (Nat.le_refl _) _).trans (hk1.below (by simp) (fun i hi e => by omega)))
  go_loop [7, 8] (fun fr i => ∃ f k : Nat, f ≤ k ∧ k ≤ S.length + 1 ∧ fr = .int .i64 (f : Int) ∧ i = .int .i64 (k : Int) ∧ scan S W (S.length + 1 - k) f k = scan S W (S.length + 1) 0 0) (fun _ i => S.length + 1 - (intOf i).toNat)
  case atStart => exact ⟨0, 0, Nat.le_refl _, Nat.zero_le _, rfl, rfl, rfl⟩
  case round =>
    obtain ⟨f, j, hf, hj, rfl, rfl, hsc⟩ := hrel
    by_cases hend : j = S.length + 1
    · subst hend
      have hz : scan S W (S.length + 1) 0 0 = false := by rw [← hsc, Nat.sub_self]; rfl
      have HZ : Hid (scan S W (S.length + 1) 0 0 = false) := hz
      clear hsc hz
      go_wp2
      go_ret
      exact ⟨congrArg (fun x => Ending.returned (.bool x)) HZ.out.symm, q1⟩
    have hj2 : j ≤ S.length := by omega
    obtain ⟨n, hn⟩ : ∃ n, S.length + 1 - j = n + 1 := ⟨S.length - j, by omega⟩
    have hn2 : S.length + 1 - (j + 1) = n := by omega
    rw [hn] at hsc
    have HS : Hid (scan S W (n + 1) f j = scan S W (S.length + 1) 0 0) := hsc
    have HX : Hid (∀ a b, ((⟨S.toArray⟩ : ByteArray).extract a b).toList = (S.take b).drop a) := fun a b => ext_list S a b
    have HN : Hid (S.length + 1 - (j + 1) = n) := hn2
    clear hsc hn2 hn
    have hsz : (⟨S.toArray⟩ : ByteArray).size = S.length := by simp [ByteArray.size]
    by_cases hlt : j = S.length
    · subst hlt
      cases hc : (((⟨S.toArray⟩ : ByteArray).extract f S.length).toList == W)
      · have HC : Hid (((S.take S.length).drop f == W) = false) := by show _ = _; rw [← HX.out]; exact hc
        go_wp2
        go_round
        case rel =>
          refine ⟨S.length + 1, S.length + 1, Nat.le_refl _, Nat.le_refl _, by go_num, by go_num, ?_⟩
          rw [HN.out, ← HS.out]
          exact (scan_next (Or.inl rfl) HC.out).symm
        case measure => simp [intOf]
      · have HC : Hid (((S.take S.length).drop f == W) = true) := by show _ = _; rw [← HX.out]; exact hc
        go_wp2
        go_ret
        exact ⟨congrArg (fun x => Ending.returned (.bool x)) (by rw [← HS.out]; exact (scan_end (Or.inl rfl) HC.out).symm), q1⟩
    · have hjl : j < S.length := by omega
      have hjne : ((j : Int) == (S.length : Int)) = false := by rw [beq_eq_false_iff_ne]; omega
      have hget : (⟨S.toArray⟩ : ByteArray)[j]'(by rw [hsz]; exact hjl) = S[j] := rfl
      by_cases hsp : S[j] = 32
      · have HE : Hid (j = S.length ∨ S[j]? = some 32) := Or.inr (by rw [List.getElem?_eq_getElem hjl, hsp])
        have hch : ((((⟨S.toArray⟩ : ByteArray)[j]'(by rw [hsz]; exact hjl)).toNat : Int) == 32) = true := by rw [hget, hsp]; rfl
        cases hc : (((⟨S.toArray⟩ : ByteArray).extract f j).toList == W)
        · have HC : Hid (((S.take j).drop f == W) = false) := by show _ = _; rw [← HX.out]; exact hc
          clear hget hsp
          go_wp2
          go_round
          case rel =>
            refine ⟨j + 1, j + 1, Nat.le_refl _, by omega, by go_num, by go_num, ?_⟩
            rw [HN.out, ← HS.out]
            exact (scan_next HE.out HC.out).symm
          case measure => simp [intOf]; omega
        · have HC : Hid (((S.take j).drop f == W) = true) := by show _ = _; rw [← HX.out]; exact hc
          clear hget hsp
          go_wp2
          go_ret
          exact ⟨congrArg (fun x => Ending.returned (.bool x)) (by rw [← HS.out]; exact (scan_end HE.out HC.out).symm), q1⟩
      · have HE : Hid (¬ (j = S.length ∨ S[j]? = some 32)) := by
          show ¬ _
          rintro (h | h)
          · exact hlt h
          · rw [List.getElem?_eq_getElem hjl] at h; exact hsp (Option.some.inj h)
        have hch : ((((⟨S.toArray⟩ : ByteArray)[j]'(by rw [hsz]; exact hjl)).toNat : Int) == 32) = false := by
          rw [hget, beq_eq_false_iff_ne]
          intro e
          exact hsp (UInt8.toNat_inj.1 (by have : (32 : UInt8).toNat = 32 := rfl; omega))
        clear hget hsp
        go_wp2
        go_round
        case rel =>
          refine ⟨f, j + 1, by omega, by omega, by go_num, by go_num, ?_⟩
          rw [HN.out, ← HS.out]
          exact (scan_on HE.out).symm
        case measure => simp [intOf]; omega

set_option maxRecDepth 20000 in
set_option maxHeartbeats 2000000 in
theorem has_out (k : Int) (W : List UInt8) (w : World) (h : ¬ (1 ≤ k ∧ k ≤ 11)) :
    Calls Try.prog 38 #[.int .i64 k, sv W] w fun e w' => e = .returned (.bool false) ∧ Below w.heap.size w w' := by
  by_cases h1 : k < 1
  · go_enter Try.func38, Try.ntmps38
    go_wp2_with (refine store_tbl _ _ rfl rfl w.heap.size rfl rfl (there_row (heap_alloc_new w _) (Nat.le_refl 12)) ?_; intro w1 hr1 hk1 hz1; have q1 : Below w.heap.size w w1 := ((Below.refl _ _).alloc (Nat.le_refl _) _).trans (hk1.below (by simp) (fun i hi e => by omega)))
    go_ret
    exact ⟨rfl, q1⟩
  · have h2 : 11 < k := by omega
    go_enter Try.func38, Try.ntmps38
    go_wp2_with (refine store_tbl _ _ rfl rfl w.heap.size rfl rfl (there_row (heap_alloc_new w _) (Nat.le_refl 12)) ?_; intro w1 hr1 hk1 hz1; have q1 : Below w.heap.size w w1 := ((Below.refl _ _).alloc (Nat.le_refl _) _).trans (hk1.below (by simp) (fun i hi e => by omega)))
    go_ret
    exact ⟨rfl, q1⟩

theorem tbl_short : ∀ k, k ≤ 11 → (tblS.getD k []).length ≤ 1000 := by decide +kernel
theorem tbl_at {k : Nat} (h : k ≤ 11) : (tblS.map sv)[k]? = some (sv (tblS.getD k [])) := by
  have hl : k < tblS.length := by have : tblS.length = 12 := rfl; omega
  rw [List.getElem?_map, List.getElem?_eq_getElem hl]
  simp [List.getD_eq_getElem?_getD, List.getElem?_eq_getElem hl]

theorem has_any (k : Int) (W : List UInt8) (w : World) :
    Calls Try.prog 38 #[.int .i64 k, sv W] w fun e w' => e = .returned (.bool (hasW k W)) ∧ Below w.heap.size w w' := by
  unfold hasW
  by_cases h : 1 ≤ k ∧ k ≤ 11
  · rw [if_pos h]
    obtain ⟨n, rfl⟩ : ∃ n : Nat, k = (n : Int) := ⟨k.toNat, by omega⟩
    rw [Int.toNat_natCast]
    exact has_in n _ W w (by omega) (by omega) (tbl_at (by omega)) (tbl_short n (by omega))
  · rw [if_neg h]
    exact has_out k W w h

end Go.Proofs.Ytcpegfjjdojinaa
