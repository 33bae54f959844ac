/- What package wire lays of one field, and of all: the walks of lay and Encode. -/
import Derived.Test.YtcpegfjjdojinaaWLay
import Derived.Test.YtcpegfjjdojinaaWalkC
namespace Go.Proofs.Ytcpegfjjdojinaa
open Go.RowKit

/-- A slice's block lies below b. -/
def Low (ao : Option Addr) (b : Nat) : Prop := ∀ blk off, ao = some ⟨blk, off, none⟩ → blk < b

set_option maxRecDepth 20000 in
set_option maxHeartbeats 2000000 in
theorem lay_target (m : Msg) (ro lo : Option Addr) (rc lc : Nat) (w : World) (b : Nat) (v : Value) (l : List UInt8) (hu : U64 m.ts) (h : WR w b v l) (hl : l.length + 700 ≤ 140737488355328) :
    Calls Try.prog 23 #[.pointer (some ⟨b, 0, none⟩), m.v ro lo rc lc, .int .u64 32] w fun e w' => e = .returned (.tuple #[]) ∧ ∃ v', WTo w w' b v v' (l ++ layIDB (m.tn, m.ts)) := by
  go_enter Try.func23, Try.ntmps23
  go_wp2_with (go_at_call 46; refine (layID_any (m.tn, m.ts) _ b v l hu (h.alloc _) (by omega)).mono ?_; rintro e w1 ⟨rfl, v1, hto1⟩)
  go_end0
  exact ⟨rfl, v1, (h.boxTo _).trans hto1⟩

set_option maxRecDepth 20000 in
set_option maxHeartbeats 2000000 in
theorem lay_refs (m : Msg) (ro lo : Option Addr) (rc lc : Nat) (w : World) (b : Nat) (v : Value) (l : List UInt8) (hx : IDs w ro m.refs) (hu : ∀ x ∈ m.refs, U64 x.2) (hap : m.refs ≠ [] → Low ro b) (h2 : m.refs.length ≤ 2) (h : WR w b v l) (hl : l.length + 700 ≤ 140737488355328) :
    Calls Try.prog 23 #[.pointer (some ⟨b, 0, none⟩), m.v ro lo rc lc, .int .u64 4096] w fun e w' => e = .returned (.tuple #[]) ∧ ∃ v', WTo w w' b v v' (l ++ layIDsB m.refs) := by
  go_enter Try.func23, Try.ntmps23
  go_wp2_with (go_at_call 47; refine (layIDs_any m.refs ro rc _ b v l (hx.below ((Below.refl _ _).alloc (Nat.le_refl _) _)) hu (fun _ _ e hne => hap hne _ _ e) (h.alloc _) (by omega)).mono ?_; rintro e w1 ⟨rfl, v1, hto1⟩)
  go_end0
  exact ⟨rfl, v1, (h.boxTo _).trans hto1⟩

set_option maxRecDepth 20000 in
set_option maxHeartbeats 2000000 in
theorem lay_list (m : Msg) (ro lo : Option Addr) (rc lc : Nat) (w : World) (b : Nat) (v : Value) (l : List UInt8) (hx : Us w lo m.list) (hu : ∀ x ∈ m.list, U64 x) (hap : m.list ≠ [] → Low lo b) (h2 : m.list.length ≤ 64) (h : WR w b v l) (hl : l.length + 700 ≤ 140737488355328) :
    Calls Try.prog 23 #[.pointer (some ⟨b, 0, none⟩), m.v ro lo rc lc, .int .u64 16384] w fun e w' => e = .returned (.tuple #[]) ∧ ∃ v', WTo w w' b v v' (l ++ layListB m.list) := by
  go_enter Try.func23, Try.ntmps23
  go_wp2_with (go_at_call 48; refine (layList_any m.list lo lc _ b v l (hx.below ((Below.refl _ _).alloc (Nat.le_refl _) _)) hu (fun _ _ e hne => hap hne _ _ e) (h.alloc _) (by omega)).mono ?_; rintro e w1 ⟨rfl, v1, hto1⟩)
  go_end0
  exact ⟨rfl, v1, (h.boxTo _).trans hto1⟩

set_option maxRecDepth 20000 in
set_option maxHeartbeats 2000000 in
theorem lay_num (m : Msg) (f n : Nat) (ib : Bool) (n1 : ((f : Int) == 32) = false) (n2 : ((f : Int) == 4096) = false) (n3 : ((f : Int) == 16384) = false) (ro lo : Option Addr) (rc lc : Nat) (w : World) (b : Nat) (v : Value) (l : List UInt8)
    (hn : ∀ w, Calls Try.prog 50 #[m.v ro lo rc lc, .int .u64 (f : Int)] w fun e w' => e = .returned (.int .u64 (n : Int)) ∧ Below w.heap.size w w')
    (hi : ∀ w, Calls Try.prog 49 #[.int .u64 (f : Int)] w fun e w' => e = .returned (.bool ib) ∧ w = w') (hu : U64 n) (h : WR w b v l) (hl : l.length + 700 ≤ 140737488355328) :
    Calls Try.prog 23 #[.pointer (some ⟨b, 0, none⟩), m.v ro lo rc lc, .int .u64 (f : Int)] w fun e w' => e = .returned (.tuple #[]) ∧ ∃ v', WTo w w' b v v' (l ++ if ib = true then [u8 (n : Int)] else numB n) := by
  have hbox := MBox.new w m ro lo rc lc
  cases ib
  · go_enter Try.func23, Try.ntmps23
    go_wp2_with (first
      | (refine load_msg _ rfl (by rfl) _ rfl m ro lo rc lc hbox ?_)
      | (go_at_call 49; refine (hi _).mono ?_; rintro e w1 ⟨rfl, rfl⟩)
      | (go_at_call 50; refine (hn _).mono ?_; rintro e w2 ⟨rfl, hb2⟩; have h2 := (h.boxTo _).trans ((h.alloc _).later hb2))
      | (go_at_call 51; refine (wnum_any _ b v l n hu h2.wr (by omega)).mono ?_; rintro e w3 ⟨rfl, v3, hto3⟩))
    go_end0
    exact ⟨rfl, v3, h2.trans hto3⟩
  · go_enter Try.func23, Try.ntmps23
    go_wp2_with (first
      | (refine load_msg _ rfl (by rfl) _ rfl m ro lo rc lc hbox ?_)
      | (go_at_call 49; refine (hi _).mono ?_; rintro e w1 ⟨rfl, rfl⟩)
      | (go_at_call 50; refine (hn _).mono ?_; rintro e w2 ⟨rfl, hb2⟩; have h2 := (h.boxTo _).trans ((h.alloc _).later hb2))
      | (go_at_call 21; refine (wbyte_to _ b v l _ (u8 (n : Int)) (wrap_u8 _) h2.wr (by omega)).mono ?_; rintro e w3 ⟨rfl, v3, hto3⟩))
    go_end0
    exact ⟨rfl, v3, h2.trans hto3⟩

theorem U64.ite {c : Prop} [Decidable c] {a b : Nat} (h1 : U64 a) (h2 : U64 b) : U64 (if c then a else b) := by split <;> assumption
theorem U64.zero : U64 0 := by unfold U64; omega
theorem U64.wrap (z : Int) : U64 (u64 z) := by
  have h2 := Int.emod_lt_of_pos z (show (0 : Int) < 18446744073709551616 by decide)
  have h1 := Int.emod_nonneg z (show (18446744073709551616 : Int) ≠ 0 by decide)
  unfold U64 u64
  omega
theorem num_u64 {m : Msg} (hm : m.Ok) (f : Nat) : U64 (m.num f) := by
  unfold Msg.num
  exact U64.ite hm.call (U64.ite hm.floor (U64.ite (U64.wrap _) (U64.ite (U64.wrap _) (U64.ite (U64.wrap _) (U64.ite hm.seq (U64.ite (U64.wrap _) (U64.ite hm.at_ (U64.ite (U64.wrap _) (U64.ite (U64.wrap _) (U64.ite hm.val (U64.ite hm.stamp U64.zero)))))))))))

theorem lay_any (m : Msg) (f : Nat) (hf : Fld f) (ro lo : Option Addr) (rc lc : Nat) (w : World) (b : Nat) (v : Value) (l : List UInt8) (hm : m.Ok) (hr : IDs w ro m.refs) (hra : m.refs ≠ [] → Low ro b) (hr2 : f = 4096 → m.refs.length ≤ 2) (hx : Us w lo m.list) (hxa : m.list ≠ [] → Low lo b) (hx2 : f = 16384 → m.list.length ≤ 64)
    (h : WR w b v l) (hl : l.length + 700 ≤ 140737488355328) :
    Calls Try.prog 23 #[.pointer (some ⟨b, 0, none⟩), m.v ro lo rc lc, .int .u64 (f : Int)] w fun e w' => e = .returned (.tuple #[]) ∧ ∃ v', WTo w w' b v v' (l ++ layF m f) := by
  by_cases h1 : f = 32
  · subst h1
    rw [show layF m 32 = layIDB (m.tn, m.ts) by simp [layF], show ((32 : Nat) : Int) = 32 from rfl]
    exact lay_target m ro lo rc lc w b v l hm.ts h hl
  by_cases h2 : f = 4096
  · subst h2
    rw [show layF m 4096 = layIDsB m.refs by simp [layF], show ((4096 : Nat) : Int) = 4096 from rfl]
    exact lay_refs m ro lo rc lc w b v l hr (fun x hx => (hm.refs x hx).2) hra (hr2 rfl) h hl
  by_cases h3 : f = 16384
  · subst h3
    rw [show layF m 16384 = layListB m.list by simp [layF], show ((16384 : Nat) : Int) = 16384 from rfl]
    exact lay_list m ro lo rc lc w b v l hx hm.list hxa (hx2 rfl) h hl
  rw [show layF m f = (if inByteB f = true then [u8 (m.num f : Int)] else numB (m.num f)) by simp only [layF, if_neg h1, if_neg h2, if_neg h3]]
  exact lay_num m f _ _ (beq_eq_false_iff_ne.2 (by omega)) (beq_eq_false_iff_ne.2 (by omega)) (beq_eq_false_iff_ne.2 (by omega)) ro lo rc lc w b v l (fun w => wnumber_any m f hf ro lo rc lc w) (fun w => inByte_any f hf w) (num_u64 hm f) h hl

/-- What is laid of a field: nothing, if the Kind has it not. -/
def fieldB (m : Msg) (f : Nat) : List UInt8 := if hasF m.kind &&& f = 0 then [] else layF m f
def headB (m : Msg) : List UInt8 := [u8 m.kind, u8 m.frm, u8 m.to]
/-- All that is laid. -/
def bodyB (m : Msg) : List UInt8 := headB m ++ flds.flatMap (fieldB m)

theorem layF_len (m : Msg) (f : Nat) (hr : f = 4096 → m.refs.length ≤ 2) (hx : f = 16384 → m.list.length ≤ 64) : (layF m f).length ≤ 700 := by
  have h10 := numB_len (m.num f)
  unfold layF
  split
  · have := layIDB_len (m.tn, m.ts); omega
  split
  · rename_i _ h
    have h1 := numB_len m.refs.length
    have h2 := flat_len layIDB 11 m.refs layIDB_len
    have := hr h
    simp only [layIDsB, List.length_append]; omega
  split
  · rename_i _ _ h
    have h1 := numB_len m.list.length
    have h2 := flat_len numB 10 m.list numB_len
    have := hx h
    simp only [layListB, List.length_append]; omega
  split
  · simp
  · omega

/-- Of a message that may be the lists are short, where the Kind has them. -/
theorem right_refs {m : Msg} (h : rightB m = true) : m.refs.length ≤ 2 := by
  simp only [rightB, Bool.and_eq_true, List.all_eq_true] at h
  have h1 := h.2 4096 (by decide)
  simp only [okF, zeroB, fitsB] at h1
  split at h1
  · simp at h1; simp [h1]
  · simp [areIDsB] at h1; exact h1.1
theorem right_list {m : Msg} (h : rightB m = true) : m.list.length ≤ 64 := by
  simp only [rightB, Bool.and_eq_true, List.all_eq_true] at h
  have h1 := h.2 16384 (by decide)
  simp only [okF, zeroB, fitsB] at h1
  split at h1
  · simp at h1; simp [h1]
  · simp [isListB] at h1; exact h1.1

theorem fieldB_len {m : Msg} (h : rightB m = true) (f : Nat) : (fieldB m f).length ≤ 700 := by
  unfold fieldB
  split
  · simp
  · exact layF_len m f (fun _ => right_refs h) (fun _ => right_list h)
theorem bodyTo_len {m : Msg} (h : rightB m = true) (j : Nat) (hj : j ≤ 15) : (headB m ++ (flds.take j).flatMap (fieldB m)).length ≤ 11000 := by
  have h1 := flat_len (fieldB m) 700 (flds.take j) (fieldB_len h)
  have h2 : (flds.take j).length ≤ 15 := by simp; omega
  have h3 : (headB m).length = 3 := rfl
  rw [List.length_append]
  have h4 : 700 * (flds.take j).length ≤ 700 * 15 := Nat.mul_le_mul_left _ h2
  omega
theorem body_step (m : Msg) {j : Nat} (h : j < 15) : headB m ++ (flds.take (j + 1)).flatMap (fieldB m) = headB m ++ (flds.take j).flatMap (fieldB m) ++ fieldB m (2 ^ j) := by
  obtain ⟨h2, h3⟩ := List.getElem?_eq_some_iff.1 (fld_pow h).2.1
  rw [flat_step (fieldB m) flds j h2, h3, List.append_assoc]

theorem Low.of {w : World} {ao : Option Addr} {b : Nat} {P : Nat → Nat → Prop} (h : ∃ blk off, ao = some ⟨blk, off, none⟩ ∧ blk < w.heap.size ∧ P blk off) (hb : w.heap.size ≤ b) : Low ao b := by
  obtain ⟨blk, off, rfl, hlt, _⟩ := h
  intro k o e
  cases e
  omega

end Go.Proofs.Ytcpegfjjdojinaa
