/- What package wire lays: the walks of layID, layIDs, layList, inByte and lay. -/
import Derived.Test.YtcpegfjjdojinaaWRight
import Derived.Test.YtcpegfjjdojinaaWalkE
namespace Go.Proofs.Ytcpegfjjdojinaa
open Go.RowKit

/-- An int as a byte. -/
def u8 (z : Int) : UInt8 := UInt8.ofNat (z % 256).toNat
theorem wrap_u8 (z : Int) : IntKind.u8.wrap z = ((u8 z).toNat : Int) := by
  have h1 := Int.emod_nonneg z (show (256 : Int) ≠ 0 by decide)
  have h2 := Int.emod_lt_of_pos z (show (0 : Int) < 256 by decide)
  have e : ((u8 z).toNat : Int) = z % 256 := by simp [u8]; omega
  rw [e]
  rfl

def layIDB (x : Int × Nat) : List UInt8 := u8 x.1 :: numB x.2
def layIDsB (xs : List (Int × Nat)) : List UInt8 := numB xs.length ++ xs.flatMap layIDB
def layListB (l : List Nat) : List UInt8 := numB l.length ++ l.flatMap numB
def inByteB (f : Nat) : Bool := f == 8 || f == 16 || f == 1024 || f == 128 || f == 512
def layF (m : Msg) (f : Nat) : List UInt8 :=
  if f = 32 then layIDB (m.tn, m.ts) else if f = 4096 then layIDsB m.refs else if f = 16384 then layListB m.list else if inByteB f = true then [u8 (m.num f : Int)] else numB (m.num f)

theorem numF_len (f n : Nat) : (numF f n).length ≤ f + 1 := by
  induction f generalizing n with
  | zero => simp [numF]
  | succ f ih => unfold numF; split <;> simp; exact ih _
theorem numB_len (n : Nat) : (numB n).length ≤ 10 := numF_len 9 n
theorem layIDB_len (x : Int × Nat) : (layIDB x).length ≤ 11 := by simp [layIDB]; exact numB_len _

/-- A Writer, and a box made behind it. -/
theorem WR.boxTo {w : World} {b : Nat} {v : Value} {l : List UInt8} (h : WR w b v l) (o : Obj) : WTo w (w.alloc o) b v v l := ⟨h.alloc o, Kept.alloc _ _ _, Moved.refl _ _⟩
theorem WR.later {w w' : World} {b : Nat} {v : Value} {l : List UInt8} (h : WR w b v l) (hb : Below w.heap.size w w') : WTo w w' b v v l := ⟨h.below hb, kept_of_below hb _, Moved.refl _ _⟩

set_option maxHeartbeats 1000000 in
theorem layID_any (x : Int × Nat) (w : World) (b : Nat) (v : Value) (l : List UInt8) (hx : U64 x.2) (h : WR w b v l) (hl : l.length + 11 ≤ 140737488355328) :
    Calls Try.prog 46 #[.pointer (some ⟨b, 0, none⟩), idv x] w fun e w' => e = .returned (.tuple #[]) ∧ ∃ v', WTo w w' b v v' (l ++ layIDB x) := by
  have hB : b < w.heap.size := h.lt
  go_enter Try.func46, Try.ntmps46
  go_wp2_with (first
    | (go_at_call 21; refine (wbyte_to _ b v l _ (u8 x.1) (wrap_u8 _) (h.alloc _) (by omega)).mono ?_; rintro e w1 ⟨rfl, v1, hto1⟩; have c1 := cell_of_row w1 w.heap.size 1 _ _ _ ((hto1.kept.block _ (by simp) ((h.new_apart (Nat.le_refl _)))).trans (heap_alloc_new w _)))
    | (go_at_call 51; refine (wnum_any _ b v1 _ x.2 hx hto1.wr (by simp; omega)).mono ?_; rintro e w2 ⟨rfl, v2, hto2⟩))
  go_end0
  exact ⟨rfl, v2, by simpa [layIDB] using ((h.boxTo _).trans hto1).trans hto2⟩

theorem flat_step {α : Type} (g : α → List UInt8) (xs : List α) (k : Nat) (hk : k < xs.length) : (xs.take (k + 1)).flatMap g = (xs.take k).flatMap g ++ g xs[k] := by
  rw [List.take_succ_eq_append_getElem hk, List.flatMap_append]
  simp
theorem flat_len {α : Type} (g : α → List UInt8) (c : Nat) (xs : List α) (h : ∀ x, (g x).length ≤ c) : (xs.flatMap g).length ≤ c * xs.length := by
  induction xs with
  | nil => simp
  | cons x r ih => have := h x; simp only [List.flatMap_cons, List.length_append, List.length_cons, Nat.mul_add]; omega

set_option maxRecDepth 20000 in
set_option maxHeartbeats 1000000 in
theorem layIDs_any (xs : List (Int × Nat)) (ao : Option Addr) (cap : Nat) (w : World) (b : Nat) (v : Value) (l : List UInt8) (hx : IDs w ao xs) (hu : ∀ x ∈ xs, U64 x.2) (hap : ∀ blk off, ao = some ⟨blk, off, none⟩ → xs ≠ [] → blk < b) (h : WR w b v l) (hl : l.length + 21 + 11 * xs.length ≤ 140737488355328) :
    Calls Try.prog 47 #[.pointer (some ⟨b, 0, none⟩), .slice ao xs.length cap] w fun e w' => e = .returned (.tuple #[]) ∧ ∃ v', WTo w w' b v v' (l ++ layIDsB xs) := by
  have hl10 := numB_len xs.length
  have hln : xs.length < 18446744073709551616 := by omega
  go_enter Try.func47, Try.ntmps47
  go_wp2_with (go_at_call 51; refine (wnum_any _ b v _ xs.length hln h (by omega)).mono ?_; rintro e w1 ⟨rfl, v1, hto1⟩)
  go_loopw [13] (fun i wr => ∃ (k : Nat) (vv : Value), k ≤ xs.length ∧ i = .int .i64 k ∧ WTo w wr b v vv (l ++ numB xs.length ++ (xs.take k).flatMap layIDB)) (fun i _ => xs.length - (intOf i).toNat)
  case atStart => exact ⟨0, v1, Nat.zero_le _, rfl, by simpa using hto1⟩
  case round =>
    obtain ⟨k, vv, hk, rfl, hto⟩ := hrel
    clear hto1
    by_cases hlt : k < xs.length
    · obtain ⟨blk, off, rfl, hblk, hat⟩ := hx (by intro e; subst e; simp at hlt)
      have hbb := hap blk off rfl (by intro e; subst e; simp at hlt)
      have hbel := hto.below h
      have a0 := (hbel.cell (p := ⟨blk, off + k * 2, none⟩) hbb).trans (hat k hlt).1
      have a1 := (hbel.cell (p := ⟨blk, off + k * 2 + 1, none⟩) hbb).trans (hat k hlt).2
      have hux := hu xs[k] (List.getElem_mem hlt)
      have HF : Hid ((xs.take (k + 1)).flatMap layIDB = (xs.take k).flatMap layIDB ++ layIDB xs[k]) := flat_step layIDB xs k hlt
      have hfl : ((xs.take k).flatMap layIDB).length ≤ 11 * xs.length := Nat.le_trans (flat_len layIDB 11 _ layIDB_len) (Nat.mul_le_mul_left _ (by simp; omega))
      have HL : Hid ((l ++ numB xs.length ++ (xs.take k).flatMap layIDB).length + 11 ≤ 140737488355328) := by show _ ≤ _; simp only [List.length_append]; omega
      clear hat hx hu hfl
      generalize xs[k] = x at *
      go_wp2_with (go_at_call 46; refine (layID_any x _ b vv _ hux (hto.wr.alloc _) HL.out).mono ?_; rintro e w2 ⟨rfl, v2, hto2⟩)
      go_roundw
      case rel =>
        refine ⟨k + 1, v2, by omega, by go_num, ?_⟩
        rw [HF.out, ← List.append_assoc]
        exact (hto.trans (hto.wr.boxTo _)).trans hto2
      case measure => simp [intOf]; omega
    · have hkl : k = xs.length := by omega
      rw [hkl, List.take_length] at hto
      clear hkl hx hap
      go_wp2
      go_end0
      exact ⟨rfl, vv, by rw [layIDsB, ← List.append_assoc]; exact hto⟩

set_option maxRecDepth 20000 in
set_option maxHeartbeats 1000000 in
theorem layList_any (xs : List Nat) (ao : Option Addr) (cap : Nat) (w : World) (b : Nat) (v : Value) (l : List UInt8) (hx : Us w ao xs) (hu : ∀ x ∈ xs, U64 x) (hap : ∀ blk off, ao = some ⟨blk, off, none⟩ → xs ≠ [] → blk < b) (h : WR w b v l) (hl : l.length + 21 + 10 * xs.length ≤ 140737488355328) :
    Calls Try.prog 48 #[.pointer (some ⟨b, 0, none⟩), .slice ao xs.length cap] w fun e w' => e = .returned (.tuple #[]) ∧ ∃ v', WTo w w' b v v' (l ++ layListB xs) := by
  have hl10 := numB_len xs.length
  have hln : xs.length < 18446744073709551616 := by omega
  go_enter Try.func48, Try.ntmps48
  go_wp2_with (go_at_call 51; refine (wnum_any _ b v _ xs.length hln h (by omega)).mono ?_; rintro e w1 ⟨rfl, v1, hto1⟩)
  go_loopw [13] (fun i wr => ∃ (k : Nat) (vv : Value), k ≤ xs.length ∧ i = .int .i64 k ∧ WTo w wr b v vv (l ++ numB xs.length ++ (xs.take k).flatMap numB)) (fun i _ => xs.length - (intOf i).toNat)
  case atStart => exact ⟨0, v1, Nat.zero_le _, rfl, by simpa using hto1⟩
  case round =>
    obtain ⟨k, vv, hk, rfl, hto⟩ := hrel
    clear hto1
    by_cases hlt : k < xs.length
    · obtain ⟨blk, off, rfl, hblk, hat⟩ := hx (by intro e; subst e; simp at hlt)
      have hbb := hap blk off rfl (by intro e; subst e; simp at hlt)
      have hbel := hto.below h
      have a0 := (hbel.cell (p := ⟨blk, off + k, none⟩) hbb).trans (hat k hlt)
      have hux : U64 xs[k] := hu xs[k] (List.getElem_mem hlt)
      have HF : Hid ((xs.take (k + 1)).flatMap numB = (xs.take k).flatMap numB ++ numB xs[k]) := flat_step numB xs k hlt
      have hfl : ((xs.take k).flatMap numB).length ≤ 10 * xs.length := Nat.le_trans (flat_len numB 10 _ numB_len) (Nat.mul_le_mul_left _ (by simp; omega))
      have HL : Hid ((l ++ numB xs.length ++ (xs.take k).flatMap numB).length + 10 ≤ 140737488355328) := by show _ ≤ _; simp only [List.length_append]; omega
      clear hat hx hu hfl
      generalize xs[k] = x at *
      go_wp2_with (go_at_call 51; refine (wnum_any _ b vv _ x hux hto.wr HL.out).mono ?_; rintro e w2 ⟨rfl, v2, hto2⟩)
      go_roundw
      case rel =>
        refine ⟨k + 1, v2, by omega, by go_num, ?_⟩
        rw [HF.out, ← List.append_assoc]
        exact hto.trans hto2
      case measure => simp [intOf]; omega
    · have hkl : k = xs.length := by omega
      rw [hkl, List.take_length] at hto
      clear hkl hx hap
      go_wp2
      go_end0
      exact ⟨rfl, vv, by rw [layListB, ← List.append_assoc]; exact hto⟩

set_option maxHeartbeats 1000000 in
theorem inByte_any (f : Nat) (hf : Fld f) (w : World) : Calls Try.prog 49 #[.int .u64 (f : Int)] w fun e w' => e = .returned (.bool (inByteB f)) ∧ w = w' := by
  rcases hf with rfl | rfl | rfl | rfl | rfl | rfl | rfl | rfl | rfl | rfl | rfl | rfl | rfl | rfl | rfl
  all_goals
    go_enter Try.func49, Try.ntmps49
    go_wp2
    go_ret
    exact ⟨rfl, rfl⟩

end Go.Proofs.Ytcpegfjjdojinaa
