import Derived.Test.YtiepbjgcghedeabMathP
import Derived.Test.YtiepbjgcghedeabWalkJ
/- The chapter's examples, as every statement asks them. -/
/- The law's own hand: Pick. -/
/- What is laid by some calls: plain facts. -/
/- What was laid is read again: plain facts. -/
namespace Go.Proofs.Ytiepbjgcghedeab
open Go.RowKit

theorem known_bytes : ([] ++ [7] ++ numB 300 ++ (numB ([97, 98] : List UInt8).length ++ [97, 98]) : List UInt8) = [7, 172, 2, 2, 97, 98] := by decide +kernel

/-- A constant's bytes, as they lie behind their conversion. -/
theorem Bs.const (w : World) (l : List UInt8) (t : TypeId) (fr : Nat × Nat) (C : Array Value) (n : Nat) (hC : C.toList = l.map bv) (hn : n = l.length) : Bs (w.alloc (.cells C t fr)) (.slice (some ⟨w.heap.size, 0, none⟩) n n) l := by
  subst hn
  exact Bs.ofBlock (heap_alloc_new w _) (by rw [hC]; exact List.take_of_length_le (by simp)) (Nat.le_refl _)

theorem const_apart {w : World} {b : Nat} {v : Value} {l : List UInt8} (h : WR w b v l) (n c : Nat) (o : Obj) (m : List UInt8) : ∀ k, m ≠ [] → (Value.slice (some ⟨w.heap.size, 0, none⟩) n c).ownBlock = some k → k < (w.alloc o).heap.size → ¬ WS b v k := by
  intro k _ hk _
  simp only [Value.ownBlock, Option.some.injEq] at hk
  exact h.new_apart (by omega)

set_option maxRecDepth 20000 in
set_option maxHeartbeats 400000 in
theorem known_any (w : World) :
    Calls Try.prog 16 #[] w fun e w' => e = .returned (.bool true) ∧ Below w.heap.size w w' := by
  have kc := fun (w : World) (C : Array Value) (n c : Nat) => Lib.run_convert_bytes_const (P := Try.prog) w 30 5 C n c Try.underlying30 Try.underlying5
  go_enter Try.func16, Try.ntmps16
  go_wp2_with (first
    | (go_at_call 15; refine (newWriter_any _).mono ?_; rintro e w1 ⟨rfl, hw1, hb1⟩)
    | (go_at_call 18; refine (wbyte_to _ _ _ _ _ 7 rfl hw1 (by simp)).mono ?_; rintro e w2 ⟨rfl, v2, hto2⟩)
    | (go_at_call 19; refine (wnum_any _ _ _ _ 300 (by omega) hto2.wr (by simp)).mono ?_; rintro e w3 ⟨rfl, v3, hto3⟩)
    | (go_at_call 21; go_must (refine (wtext_any _ _ _ _ _ [97, 98] (Bs.const w3 [97, 98] _ _ _ _ (by rfl) (by rfl)) (const_apart hto3.wr _ _ _ _) (hto3.wr.alloc _) (by decide +kernel)).mono ?_); rintro e w4 ⟨rfl, v4, hto4⟩; rw [known_bytes] at hto4)
    | (go_at_call 23; refine (wbytes_any _ _ _ _ hto4.wr (by simp)).mono ?_; rintro e w5 ⟨rfl, hg5, hb5, hlt5⟩; have hstr : (convert 30 9 (.slice (some ⟨w4.heap.size, 0, none⟩) 6 6)).run Try.prog w5 = .ok (.string ⟨#[7, 172, 2, 2, 97, 98]⟩) w5 := (Bs.ofBlock (l := [7, 172, 2, 2, 97, 98]) hg5 rfl (Nat.le_refl _)).str (P := Try.prog) 30 9 5 Try.underlying30 Try.underlying5 Try.underlying9)
    | (go_at_call 35; refine (sum_any _ [49, 50, 51, 52, 53, 54, 55, 56, 57] _ (Bs.const w5 [49, 50, 51, 52, 53, 54, 55, 56, 57] _ _ _ _ (by rfl) (by rfl)) (by simp)).mono ?_; rintro e w6 ⟨rfl, rfl⟩; rw [known_sum]))
  go_ret
  have h3 := hto3.wr.lt
  have hB := ((hb1.trans (hto2.below hw1)).trans (hto3.below hto2.wr)).alloc (Nat.le_of_lt h3) (Obj.cells #[Value.int IntKind.u8 97, Value.int IntKind.u8 98] 5 (2, 3))
  have hB2 := (hB.trans (hto4.below (hto3.wr.alloc _))).trans (hb5.mono (Nat.le_of_lt hto4.wr.lt))
  exact ⟨rfl, hB2.alloc (by have := hto4.wr.lt; omega) _⟩

end Go.Proofs.Ytiepbjgcghedeab

namespace Go.Proofs.Ytiepbjgcghedeab
open Go.RowKit

def pickN (n : Int) (m : Nat) : Nat := (n % (m : Int)).toNat
theorem pickN_lt (n : Int) (m : Nat) (hm : 0 < m) : pickN n m < m := by
  unfold pickN
  have h1 := Int.emod_nonneg n (show (m : Int) ≠ 0 by omega)
  have h2 := Int.emod_lt_of_pos n (show (0 : Int) < m by omega)
  omega
theorem pick_nonneg (n : Int) (m : Nat) (hm : 0 < m) (h : 0 ≤ n.tmod m) : n.tmod m = (pickN n m : Int) := by
  unfold pickN
  have h1 := Int.emod_nonneg n (show (m : Int) ≠ 0 by omega)
  rw [Int.toNat_of_nonneg h1, Int.tmod_eq_emod] 
  rw [Int.tmod_eq_emod] at h
  split at h
  · next hc => rw [if_pos hc]; omega
  · next hc =>
    have h2 := Int.emod_lt_of_pos n (show (0 : Int) < m by omega)
    simp at h
    omega
theorem pick_neg (n : Int) (m : Nat) (hm : 0 < m) (h : n.tmod m < 0) : n.tmod m + m = (pickN n m : Int) := by
  unfold pickN
  have h1 := Int.emod_nonneg n (show (m : Int) ≠ 0 by omega)
  rw [Int.toNat_of_nonneg h1, Int.tmod_eq_emod] 
  rw [Int.tmod_eq_emod] at h
  split at h
  · omega
  · next hc => rw [if_neg hc]; simp

set_option maxRecDepth 20000 in
set_option maxHeartbeats 400000 in
theorem pick_any (n : Int) (m : Nat) (hm : 0 < m) (hm2 : m ≤ 4611686018427387904) (w : World) :
    Calls Try.prog 17 #[.int .i64 n, .int .i64 (m : Int)] w fun e w' => e = .returned (.int .i64 (pickN n m : Int)) ∧ w = w' := by
  have hne : ((m : Int) == 0) = false := by rw [beq_eq_false_iff_ne]; omega
  go_enter Try.func17, Try.ntmps17
  have hlt := pickN_lt n m hm
  go_wp2
  · go_ret
    refine ⟨congrArg (fun x => Ending.returned (.int .i64 x)) ?_, rfl⟩
    rw [pick_neg n m hm ‹_›, wrap64]
    omega
  · go_ret
    exact ⟨congrArg (fun x => Ending.returned (.int .i64 x)) (pick_nonneg n m hm ‹_›), rfl⟩

end Go.Proofs.Ytiepbjgcghedeab

namespace Go.Proofs.Ytiepbjgcghedeab

/-- One thing that is laid. -/
structure LayD where
  what : Int
  b : UInt8
  n : Nat
  t : List UInt8

def layOne (d : LayD) : List UInt8 := if pickN d.what 3 = 0 then [d.b] else if pickN d.what 3 = 1 then numB d.n else numB d.t.length ++ d.t
def layAll (ds : List LayD) : List UInt8 := (ds.map layOne).flatten

theorem layAll_nil : layAll [] = [] := rfl
theorem layAll_cons (d : LayD) (ds : List LayD) : layAll (d :: ds) = layOne d ++ layAll ds := by simp [layAll]
theorem layAll_append (a b : List LayD) : layAll (a ++ b) = layAll a ++ layAll b := by simp only [layAll, List.map_append, List.flatten_append]
theorem layAll_one (d : LayD) : layAll [d] = layOne d := by simp [layAll]
theorem layAll_take (ds : List LayD) (k : Nat) (hk : k < ds.length) : layAll (ds.take (k + 1)) = layAll (ds.take k) ++ layOne ds[k] := by
  rw [List.take_succ_eq_append_getElem hk, layAll_append, layAll_one]
theorem layAll_le (ds : List LayD) (k : Nat) : (layAll (ds.take k)).length ≤ (layAll ds).length := by
  have e : layAll ds = layAll (ds.take k) ++ layAll (ds.drop k) := by rw [← layAll_append, List.take_append_drop]
  rw [e, List.length_append]; omega
theorem layAll_step_le (ds : List LayD) (k : Nat) (hk : k < ds.length) : (layAll (ds.take k)).length + (layOne ds[k]).length ≤ (layAll ds).length := by
  have := layAll_le ds (k + 1)
  rw [layAll_take ds k hk, List.length_append] at this
  exact this
theorem layOne_byte {d : LayD} (h : pickN d.what 3 = 0) : layOne d = [d.b] := by rw [layOne, if_pos h]
theorem layOne_num {d : LayD} (h : pickN d.what 3 = 1) : layOne d = numB d.n := by rw [layOne, if_neg (by omega), if_pos h]
theorem layOne_text {d : LayD} (h : pickN d.what 3 = 2) : layOne d = numB d.t.length ++ d.t := by rw [layOne, if_neg (by omega), if_neg (by omega)]

end Go.Proofs.Ytiepbjgcghedeab

namespace Go.Proofs.Ytiepbjgcghedeab

theorem nm_numF (r : List UInt8) : ∀ (f k m acc : Nat), k + f = 9 → (k = 0 ∨ 1 ≤ m) → 2 ^ (7 * k) * m < 18446744073709551616 →
    nm (numF f m ++ r) k acc = (acc + 2 ^ (7 * k) * m, k + (numF f m).length, 0) := by
  intro f
  induction f with
  | zero =>
    intro k m acc hk h1 h2
    have hk9 : k = 9 := by omega
    subst hk9
    have hm : m ≤ 1 := by
      apply Nat.le_of_not_lt
      intro h
      have : 2 ^ (7 * 9) * 2 ≤ 2 ^ (7 * 9) * m := Nat.mul_le_mul_left _ h
      omega
    have e : (UInt8.ofNat m).toNat = m := by rw [UInt8.toNat_ofNat']; omega
    rw [numF, List.singleton_append, nm_last (by rw [e]; omega) (by rw [e]; omega) (by rw [e]; omega), e, Nat.mod_eq_of_lt (by omega)]
    rfl
  | succ f ih =>
    intro k m acc hk h1 h2
    by_cases hm : m < 128
    · have e : (UInt8.ofNat m).toNat = m := by rw [UInt8.toNat_ofNat']; omega
      rw [numF_last _ _ hm, List.singleton_append, nm_last (by omega) (by rw [e]; omega) (by rw [e]; omega), e, Nat.mod_eq_of_lt hm]
      rfl
    · have e : (UInt8.ofNat (m % 128 + 128)).toNat = m % 128 + 128 := by rw [UInt8.toNat_ofNat']; omega
      have hp : 2 ^ (7 * (k + 1)) = 2 ^ (7 * k) * 128 := by rw [show 7 * (k + 1) = 7 * k + 7 by omega, Nat.pow_add]
      have hm2 : 2 ^ (7 * k) * m = 2 ^ (7 * k) * (m % 128) + 2 ^ (7 * (k + 1)) * (m / 128) := by
        rw [hp, Nat.mul_assoc, ← Nat.mul_add]
        congr 1
        omega
      rw [numF_more _ _ hm, List.cons_append, nm_more (by omega) (by rw [e]; omega), e, ih (k + 1) (m / 128) _ (by omega) (by omega) (by omega)]
      rw [show (m % 128 + 128) % 128 = m % 128 by omega, hm2, List.length_cons]
      refine Prod.ext ?_ (Prod.ext ?_ rfl)
      · simp only; omega
      · simp only; omega

theorem nm_numB (n : Nat) (hn : n < 18446744073709551616) (r : List UInt8) : nm (numB n ++ r) 0 0 = (n, (numB n).length, 0) := by
  have := nm_numF r 9 0 n 0 (by omega) (Or.inl rfl) (by omega)
  simpa [numB] using this

/-- One thing is read as it was laid. -/
theorem rByte_lay {L r : List UInt8} {p most : Nat} {x : UInt8} (h : L.drop p = [x] ++ r) (hm : x.toNat ≤ most) : rByte L p 0 most = (x.toNat, p + 1, 0) := rByte_ok (r := r) h (by omega)
theorem rNum_lay {L r : List UInt8} {p most n : Nat} (h : L.drop p = numB n ++ r) (hn : n < 18446744073709551616) (hm : n ≤ most) : rNum L p 0 most = (n, p + (numB n).length, 0) := by
  have e := nm_numB n hn r
  rw [← h] at e
  rw [rNum_ok (by rw [e]) (by rw [e]; simp only; omega), e]
theorem rText_lay {L r t : List UInt8} {p most : Nat} (h : L.drop p = (numB t.length ++ t) ++ r) (hn : t.length < 18446744073709551616) (hm : t.length ≤ most) : rText L p 0 most = (t, p + (numB t.length ++ t).length, 0) := by
  have hr := rNum_lay (L := L) (p := p) (most := most) (n := t.length) (r := t ++ r) (by rw [h, List.append_assoc]) hn hm
  have hd : L.drop (p + (numB t.length).length) = t ++ r := by
    rw [← List.drop_drop, h, List.append_assoc, List.drop_left]
  have hl := congrArg List.length hd
  rw [List.length_drop, List.length_append] at hl
  rw [rText_ok (by rw [hr]) (by rw [hr]; simp only; omega), hr]
  simp only [hd, List.take_left, List.length_append]
  refine Prod.ext rfl (Prod.ext ?_ rfl)
  simp only; omega

end Go.Proofs.Ytiepbjgcghedeab

