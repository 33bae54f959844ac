import Derived.Test.YtcpegfjjdojinaaWalkB
import Derived.Test.YtcpegfjjdojinaaWLay
/- Seals: call by call. -/
/- What package wire lays of one field, and of all: the walks of lay and Encode. -/
/- The walk of Encode. -/
namespace Go.Proofs.Ytcpegfjjdojinaa
open Go.RowKit

/-- What a seal's block holds when k bytes of the sum are laid. -/
def sealRow (l : List UInt8) (k : Nat) : List Value := (l ++ (sumBytes (crc l)).take k).map bv ++ List.replicate (4 - k) (.int .u8 0)
theorem length_sealRow (l : List UInt8) (k : Nat) (hk : k ≤ 4) : (sealRow l k).length = l.length + 4 := by
  simp [sealRow, length_sumBytes]; omega

theorem sealRow_zero (l : List UInt8) : splice (List.replicate (l.length + 4) (Value.int .u8 0)) 0 (l.map bv) = sealRow l 0 := by
  simp [splice, sealRow]
theorem sealRow_four (l : List UInt8) : sealRow l 4 = (l ++ sumBytes (crc l)).map bv := by
  simp [sealRow, sumBytes]
theorem sealRow_step (l : List UInt8) (k : Nat) (hk : k < 4) (x : Int) (hx : x = (crc l / 256 ^ k % 256 : Nat)) : (sealRow l k).set (l.length + k) (.int .u8 x) = sealRow l (k + 1) := by
  subst hx
  rcases (show k = 0 ∨ k = 1 ∨ k = 2 ∨ k = 3 by omega) with rfl | rfl | rfl | rfl <;>
    simp [sealRow, sumBytes, List.replicate, bv, UInt8.toNat_ofNat']
theorem sealRow_cell {w : World} {g : Nat} {l : List UInt8} {k : Nat} {t : TypeId} (hk : k < 4) (hg : w.heap[g]? = some (.cells (sealRow l k).toArray t (0, 0))) : w.cell? ⟨g, l.length + k, none⟩ = some (.int .u8 0) := by
  rw [cell_of_row w g _ _ _ _ hg]
  rcases (show k = 0 ∨ k = 1 ∨ k = 2 ∨ k = 3 by omega) with rfl | rfl | rfl | rfl <;>
    simp [sealRow, sumBytes, List.replicate]

theorem shift_byte (c k : Nat) (hk : k < 4) : (c : Int) / 2 ^ (8 * k) % 256 = ((c / 256 ^ k % 256 : Nat) : Int) := by
  rcases (show k = 0 ∨ k = 1 ∨ k = 2 ∨ k = 3 by omega) with rfl | rfl | rfl | rfl <;> simp

set_option maxHeartbeats 400000 in
theorem seal_any (v : Value) (l : List UInt8) (w : World) (hv : Bs w v l) (hl : l.length ≤ 140737488355000) :
    Calls Try.prog 24 #[v] w fun e w' => e = .returned (.slice (some ⟨w.heap.size, 0, none⟩) (l.length + 4) (l.length + 4)) ∧
      w'.heap[w.heap.size]? = some (.cells ((l ++ sumBytes (crc l)).map bv).toArray 5 (0, 0)) ∧ Below w.heap.size w w' ∧ w.heap.size < w'.heap.size := by
  have hv0 := hv
  obtain ⟨ao, cap, rfl, hc, hx⟩ := hv
  obtain ⟨i, hi, hz0, hz1, hz2⟩ := info_parts Try.infoByte
  have hsz : (Try.prog.info? 5).map (·.size) = some 1 := by rw [hi]; simp [hz1]
  have hcs := crc_lt l
  go_enter Try.func24, Try.ntmps24
  go_wp2_with (first
    | (at_make; refine wpList_make_row _ rfl _ _ 29 rfl 5 i _ Try.underlying29 hi hz0 hz1 rfl _ _ _ _ (l.length + 4) rfl rfl (by omega) (by omega) (by rw [hz2]; omega) (by unfold maxLen; omega) ?_; intro w1 hg1 hb1 hlt1)
    | (refine wpList_copy_splice rfl (.tmp 10) (.tmp 11) 29 29 rfl 5 Try.underlying29 hsz _ ao (l.length + 4) (l.length + 4) l.length cap rfl rfl w.heap.size 0 (List.replicate (l.length + 4) (.int .u8 0)) 5 hg1 (l.map bv) (len_min l 4) (fun hp => ⟨rfl, src_of hx hb1 hp⟩) (len_fit l 4 _) (bv_oneCell l) w.heap.size w hb1 (Nat.le_refl _) ?_; intro w2 hg2 hb2)
    | (go_at_call 52; refine (sum_any _ l _ (hv0.below hb2) (by omega)).mono ?_; rintro e w' ⟨rfl, rfl⟩))
  have hg2' := hg2.out
  rw [sealRow_zero] at hg2'
  have hb2' := hb2
  generalize hG : w.heap.size = G at *
  clear hg2 hb2 hg1 hb1 hlt1 hx hv0 hi hsz hz0 hz1 hz2
  go_loopw [15] (fun i wr => ∃ k : Nat, k ≤ 4 ∧ i = .int .i64 k ∧ wr.heap[G]? = some (.cells (sealRow l k).toArray 5 (0, 0)) ∧ Below G w wr) (fun i _ => 4 - (intOf i).toNat)
  case atStart => exact ⟨0, by omega, rfl, hg2', hb2'⟩
  case round =>
    obtain ⟨k, hk, rfl, hrow, hbl⟩ := hrel
    by_cases hlt : k < 4
    · have hcell := sealRow_cell hlt hrow
      have hfz := frozen_of_row wr G (l.length + k) _ _ hrow
      go_wp2
      go_roundw
      case rel =>
        refine ⟨k + 1, by omega, by go_num, ?_, hbl.setCell (Nat.le_refl _) _⟩
        rw [heap_setCell_same wr G (l.length + k) _ _ _ hrow, shift_byte (crc l) k hlt]
        have := sealRow_step l k hlt _ rfl
        rw [← this]
        simp
      case measure => simp [intOf]; omega
    · have hk4 : k = 4 := by omega
      subst hk4
      go_wp2
      go_ret
      rw [sealRow_four] at hrow
      subst hG
      exact ⟨rfl, hrow, hbl, (Array.getElem?_eq_some_iff.1 hrow).1⟩

theorem seal_bs {w : World} {g : Nat} {t : TypeId} {l : List UInt8} (hg : w.heap[g]? = some (.cells ((l ++ sumBytes (crc l)).map bv).toArray t (0, 0))) : Bs w (.slice (some ⟨g, 0, none⟩) (l.length + 4) (l.length + 4)) (l ++ sumBytes (crc l)) := by
  have h := Bs.ofBlock (l := l ++ sumBytes (crc l)) hg (List.take_of_length_le (by simp)) (Nat.le_refl _)
  rwa [show (l ++ sumBytes (crc l)).length = l.length + 4 by simp [length_sumBytes]] at h

end Go.Proofs.Ytcpegfjjdojinaa

namespace Go.Proofs.Ytcpegfjjdojinaa
open Go.RowKit

/-- A slice's block lies below b. -/
def Low (ao : Option Addr) (b : Nat) : Prop := ∀ blk off, ao = some ⟨blk, off, none⟩ → blk < b

set_option maxRecDepth 20000 in
set_option maxHeartbeats 2000000 in
theorem lay_target (m : Msg) (ro lo : Option Addr) (rc lc : Nat) (w : World) (b : Nat) (v : Value) (l : List UInt8) (hu : U64 m.ts) (h : WR w b v l) (hl : l.length + 700 ≤ 140737488355328) :
    Calls Try.prog 23 #[.pointer (some ⟨b, 0, none⟩), m.v ro lo rc lc, .int .u64 32] w fun e w' => e = .returned (.tuple #[]) ∧ ∃ v', WTo w w' b v v' (l ++ layIDB (m.tn, m.ts)) := by
  go_enter Try.func23, Try.ntmps23
  go_wp2_with (go_at_call 46; refine (layID_any (m.tn, m.ts) _ b v l hu (h.alloc _) (by omega)).mono ?_; rintro e w1 ⟨rfl, v1, hto1⟩)
  go_end0
  exact ⟨rfl, v1, (h.boxTo _).trans hto1⟩

set_option maxRecDepth 20000 in
set_option maxHeartbeats 2000000 in
theorem lay_refs (m : Msg) (ro lo : Option Addr) (rc lc : Nat) (w : World) (b : Nat) (v : Value) (l : List UInt8) (hx : IDs w ro m.refs) (hu : ∀ x ∈ m.refs, U64 x.2) (hap : m.refs ≠ [] → Low ro b) (h2 : m.refs.length ≤ 2) (h : WR w b v l) (hl : l.length + 700 ≤ 140737488355328) :
    Calls Try.prog 23 #[.pointer (some ⟨b, 0, none⟩), m.v ro lo rc lc, .int .u64 4096] w fun e w' => e = .returned (.tuple #[]) ∧ ∃ v', WTo w w' b v v' (l ++ layIDsB m.refs) := by
  go_enter Try.func23, Try.ntmps23
  go_wp2_with (go_at_call 47; refine (layIDs_any m.refs ro rc _ b v l (hx.below ((Below.refl _ _).alloc (Nat.le_refl _) _)) hu (fun _ _ e hne => hap hne _ _ e) (h.alloc _) (by omega)).mono ?_; rintro e w1 ⟨rfl, v1, hto1⟩)
  go_end0
  exact ⟨rfl, v1, (h.boxTo _).trans hto1⟩

set_option maxRecDepth 20000 in
set_option maxHeartbeats 2000000 in
theorem lay_list (m : Msg) (ro lo : Option Addr) (rc lc : Nat) (w : World) (b : Nat) (v : Value) (l : List UInt8) (hx : Us w lo m.list) (hu : ∀ x ∈ m.list, U64 x) (hap : m.list ≠ [] → Low lo b) (h2 : m.list.length ≤ 64) (h : WR w b v l) (hl : l.length + 700 ≤ 140737488355328) :
    Calls Try.prog 23 #[.pointer (some ⟨b, 0, none⟩), m.v ro lo rc lc, .int .u64 16384] w fun e w' => e = .returned (.tuple #[]) ∧ ∃ v', WTo w w' b v v' (l ++ layListB m.list) := by
  go_enter Try.func23, Try.ntmps23
  go_wp2_with (go_at_call 48; refine (layList_any m.list lo lc _ b v l (hx.below ((Below.refl _ _).alloc (Nat.le_refl _) _)) hu (fun _ _ e hne => hap hne _ _ e) (h.alloc _) (by omega)).mono ?_; rintro e w1 ⟨rfl, v1, hto1⟩)
  go_end0
  exact ⟨rfl, v1, (h.boxTo _).trans hto1⟩

set_option maxRecDepth 20000 in
set_option maxHeartbeats 2000000 in
theorem lay_num (m : Msg) (f n : Nat) (ib : Bool) (n1 : ((f : Int) == 32) = false) (n2 : ((f : Int) == 4096) = false) (n3 : ((f : Int) == 16384) = false) (ro lo : Option Addr) (rc lc : Nat) (w : World) (b : Nat) (v : Value) (l : List UInt8)
    (hn : ∀ w, Calls Try.prog 50 #[m.v ro lo rc lc, .int .u64 (f : Int)] w fun e w' => e = .returned (.int .u64 (n : Int)) ∧ Below w.heap.size w w')
    (hi : ∀ w, Calls Try.prog 49 #[.int .u64 (f : Int)] w fun e w' => e = .returned (.bool ib) ∧ w = w') (hu : U64 n) (h : WR w b v l) (hl : l.length + 700 ≤ 140737488355328) :
    Calls Try.prog 23 #[.pointer (some ⟨b, 0, none⟩), m.v ro lo rc lc, .int .u64 (f : Int)] w fun e w' => e = .returned (.tuple #[]) ∧ ∃ v', WTo w w' b v v' (l ++ if ib = true then [u8 (n : Int)] else numB n) := by
  have hbox := MBox.new w m ro lo rc lc
  cases ib
  · go_enter Try.func23, Try.ntmps23
    go_wp2_with (first
      | (refine load_msg _ rfl (by rfl) _ rfl m ro lo rc lc hbox ?_)
      | (go_at_call 49; refine (hi _).mono ?_; rintro e w1 ⟨rfl, rfl⟩)
      | (go_at_call 50; refine (hn _).mono ?_; rintro e w2 ⟨rfl, hb2⟩; have h2 := (h.boxTo _).trans ((h.alloc _).later hb2))
      | (go_at_call 51; refine (wnum_any _ b v l n hu h2.wr (by omega)).mono ?_; rintro e w3 ⟨rfl, v3, hto3⟩))
    go_end0
    exact ⟨rfl, v3, h2.trans hto3⟩
  · go_enter Try.func23, Try.ntmps23
    go_wp2_with (first
      | (refine load_msg _ rfl (by rfl) _ rfl m ro lo rc lc hbox ?_)
      | (go_at_call 49; refine (hi _).mono ?_; rintro e w1 ⟨rfl, rfl⟩)
      | (go_at_call 50; refine (hn _).mono ?_; rintro e w2 ⟨rfl, hb2⟩; have h2 := (h.boxTo _).trans ((h.alloc _).later hb2))
      | (go_at_call 21; refine (wbyte_to _ b v l _ (u8 (n : Int)) (wrap_u8 _) h2.wr (by omega)).mono ?_; rintro e w3 ⟨rfl, v3, hto3⟩))
    go_end0
    exact ⟨rfl, v3, h2.trans hto3⟩

theorem U64.ite {c : Prop} [Decidable c] {a b : Nat} (h1 : U64 a) (h2 : U64 b) : U64 (if c then a else b) := by split <;> assumption
theorem U64.zero : U64 0 := by unfold U64; omega
theorem U64.wrap (z : Int) : U64 (u64 z) := by
  have h2 := Int.emod_lt_of_pos z (show (0 : Int) < 18446744073709551616 by decide)
  have h1 := Int.emod_nonneg z (show (18446744073709551616 : Int) ≠ 0 by decide)
  unfold U64 u64
  omega
theorem num_u64 {m : Msg} (hm : m.Ok) (f : Nat) : U64 (m.num f) := by
  unfold Msg.num
  exact U64.ite hm.call (U64.ite hm.floor (U64.ite (U64.wrap _) (U64.ite (U64.wrap _) (U64.ite (U64.wrap _) (U64.ite hm.seq (U64.ite (U64.wrap _) (U64.ite hm.at_ (U64.ite (U64.wrap _) (U64.ite (U64.wrap _) (U64.ite hm.val (U64.ite hm.stamp U64.zero)))))))))))

theorem lay_any (m : Msg) (f : Nat) (hf : Fld f) (ro lo : Option Addr) (rc lc : Nat) (w : World) (b : Nat) (v : Value) (l : List UInt8) (hm : m.Ok) (hr : IDs w ro m.refs) (hra : m.refs ≠ [] → Low ro b) (hr2 : f = 4096 → m.refs.length ≤ 2) (hx : Us w lo m.list) (hxa : m.list ≠ [] → Low lo b) (hx2 : f = 16384 → m.list.length ≤ 64)
    (h : WR w b v l) (hl : l.length + 700 ≤ 140737488355328) :
    Calls Try.prog 23 #[.pointer (some ⟨b, 0, none⟩), m.v ro lo rc lc, .int .u64 (f : Int)] w fun e w' => e = .returned (.tuple #[]) ∧ ∃ v', WTo w w' b v v' (l ++ layF m f) := by
  by_cases h1 : f = 32
  · subst h1
    rw [show layF m 32 = layIDB (m.tn, m.ts) by simp [layF], show ((32 : Nat) : Int) = 32 from rfl]
    exact lay_target m ro lo rc lc w b v l hm.ts h hl
  by_cases h2 : f = 4096
  · subst h2
    rw [show layF m 4096 = layIDsB m.refs by simp [layF], show ((4096 : Nat) : Int) = 4096 from rfl]
    exact lay_refs m ro lo rc lc w b v l hr (fun x hx => (hm.refs x hx).2) hra (hr2 rfl) h hl
  by_cases h3 : f = 16384
  · subst h3
    rw [show layF m 16384 = layListB m.list by simp [layF], show ((16384 : Nat) : Int) = 16384 from rfl]
    exact lay_list m ro lo rc lc w b v l hx hm.list hxa (hx2 rfl) h hl
  rw [show layF m f = (if inByteB f = true then [u8 (m.num f : Int)] else numB (m.num f)) by simp only [layF, if_neg h1, if_neg h2, if_neg h3]]
  exact lay_num m f _ _ (beq_eq_false_iff_ne.2 (by omega)) (beq_eq_false_iff_ne.2 (by omega)) (beq_eq_false_iff_ne.2 (by omega)) ro lo rc lc w b v l (fun w => wnumber_any m f hf ro lo rc lc w) (fun w => inByte_any f hf w) (num_u64 hm f) h hl

/-- What is laid of a field: nothing, if the Kind has it not. -/
def fieldB (m : Msg) (f : Nat) : List UInt8 := if hasF m.kind &&& f = 0 then [] else layF m f
def headB (m : Msg) : List UInt8 := [u8 m.kind, u8 m.frm, u8 m.to]
/-- All that is laid. -/
def bodyB (m : Msg) : List UInt8 := headB m ++ flds.flatMap (fieldB m)

theorem layF_len (m : Msg) (f : Nat) (hr : f = 4096 → m.refs.length ≤ 2) (hx : f = 16384 → m.list.length ≤ 64) : (layF m f).length ≤ 700 := by
  have h10 := numB_len (m.num f)
  unfold layF
  split
  · have := layIDB_len (m.tn, m.ts); omega
  split
  · rename_i _ h
    have h1 := numB_len m.refs.length
    have h2 := flat_len layIDB 11 m.refs layIDB_len
    have := hr h
    simp only [layIDsB, List.length_append]; omega
  split
  · rename_i _ _ h
    have h1 := numB_len m.list.length
    have h2 := flat_len numB 10 m.list numB_len
    have := hx h
    simp only [layListB, List.length_append]; omega
  split
  · simp
  · omega

/-- Of a message that may be the lists are short, where the Kind has them. -/
theorem right_refs {m : Msg} (h : rightB m = true) : m.refs.length ≤ 2 := by
  simp only [rightB, Bool.and_eq_true, List.all_eq_true] at h
  have h1 := h.2 4096 (by decide)
  simp only [okF, zeroB, fitsB] at h1
  split at h1
  · simp at h1; simp [h1]
  · simp [areIDsB] at h1; exact h1.1
theorem right_list {m : Msg} (h : rightB m = true) : m.list.length ≤ 64 := by
  simp only [rightB, Bool.and_eq_true, List.all_eq_true] at h
  have h1 := h.2 16384 (by decide)
  simp only [okF, zeroB, fitsB] at h1
  split at h1
  · simp at h1; simp [h1]
  · simp [isListB] at h1; exact h1.1

theorem fieldB_len {m : Msg} (h : rightB m = true) (f : Nat) : (fieldB m f).length ≤ 700 := by
  unfold fieldB
  split
  · simp
  · exact layF_len m f (fun _ => right_refs h) (fun _ => right_list h)
theorem bodyTo_len {m : Msg} (h : rightB m = true) (j : Nat) (hj : j ≤ 15) : (headB m ++ (flds.take j).flatMap (fieldB m)).length ≤ 11000 := by
  have h1 := flat_len (fieldB m) 700 (flds.take j) (fieldB_len h)
  have h2 : (flds.take j).length ≤ 15 := by simp; omega
  have h3 : (headB m).length = 3 := rfl
  rw [List.length_append]
  have h4 : 700 * (flds.take j).length ≤ 700 * 15 := Nat.mul_le_mul_left _ h2
  omega
theorem body_step (m : Msg) {j : Nat} (h : j < 15) : headB m ++ (flds.take (j + 1)).flatMap (fieldB m) = headB m ++ (flds.take j).flatMap (fieldB m) ++ fieldB m (2 ^ j) := by
  obtain ⟨h2, h3⟩ := List.getElem?_eq_some_iff.1 (fld_pow h).2.1
  rw [flat_step (fieldB m) flds j h2, h3, List.append_assoc]

theorem Low.of {w : World} {ao : Option Addr} {b : Nat} {P : Nat → Nat → Prop} (h : ∃ blk off, ao = some ⟨blk, off, none⟩ ∧ blk < w.heap.size ∧ P blk off) (hb : w.heap.size ≤ b) : Low ao b := by
  obtain ⟨blk, off, rfl, hlt, _⟩ := h
  intro k o e
  cases e
  omega

end Go.Proofs.Ytcpegfjjdojinaa

namespace Go.Proofs.Ytcpegfjjdojinaa
open Go.RowKit

set_option maxRecDepth 20000 in
set_option maxHeartbeats 4000000 in
theorem encode_no (m : Msg) (ro lo : Option Addr) (rc lc : Nat) (w : World) (hr : IDs w ro m.refs) (hlr : m.refs.length ≤ 140737488355328) (hl : Us w lo m.list) (hll : m.list.length ≤ 140737488355328) (h : rightB m = false) :
    Calls Try.prog 9 #[m.v ro lo rc lc] w fun e w' => e = .returned (.tuple #[.slice none 0 0, .int .i64 1]) ∧ Below w.heap.size w w' := by
  have hbox := MBox.new w m ro lo rc lc
  have hb0 : Below w.heap.size w (w.alloc (.cells #[.int .i64 m.kind, .int .i64 m.frm, .int .i64 m.to, .int .u64 (m.call : Int), .int .u64 (m.floor : Int), .int .i64 m.op, .int .i64 m.fld, .int .i64 m.item,
    .int .i64 m.tn, .int .u64 (m.ts : Int), .slice ro m.refs.length rc, .int .u64 (m.val : Int), .int .i64 m.code, .int .u64 (m.seq : Int), .int .i64 m.vou, .int .u64 (m.at_ : Int), .int .i64 m.dist, .int .u64 (m.stamp : Int), .slice lo m.list.length lc] 28)) := (Below.refl _ _).alloc (Nat.le_refl _) _
  have hri := right_any m ro lo rc lc _ (hr.below hb0) hlr (hl.below hb0) hll
  rw [h] at hri
  go_enter Try.func9, Try.ntmps9
  go_wp2_with (first
    | (refine load_msg _ rfl (by rfl) _ rfl m ro lo rc lc hbox ?_)
    | (go_at_call 13; refine hri.mono ?_; rintro e w1 ⟨rfl, hb1⟩))
  go_ret2
  exact ⟨rfl, below_alloc hb1⟩

set_option maxRecDepth 20000 in
set_option maxHeartbeats 4000000 in
theorem encode_ok (m : Msg) (ro lo : Option Addr) (rc lc : Nat) (w : World) (hm : m.Ok) (hr : IDs w ro m.refs) (hl : Us w lo m.list) (h : rightB m = true) :
    Calls Try.prog 9 #[m.v ro lo rc lc] w fun e w' => ∃ k, w.heap.size < k ∧ e = .returned (.tuple #[.slice (some ⟨k, 0, none⟩) ((bodyB m).length + 4) ((bodyB m).length + 4), .int .i64 0]) ∧
      w'.heap[k]? = some (.cells ((bodyB m ++ sumBytes (crc (bodyB m))).map bv).toArray 5 (0, 0)) ∧ Below w.heap.size w w' := by
  have hbox := MBox.new w m ro lo rc lc
  have hb0 : Below w.heap.size w (w.alloc (.cells #[.int .i64 m.kind, .int .i64 m.frm, .int .i64 m.to, .int .u64 (m.call : Int), .int .u64 (m.floor : Int), .int .i64 m.op, .int .i64 m.fld, .int .i64 m.item,
    .int .i64 m.tn, .int .u64 (m.ts : Int), .slice ro m.refs.length rc, .int .u64 (m.val : Int), .int .i64 m.code, .int .u64 (m.seq : Int), .int .i64 m.vou, .int .u64 (m.at_ : Int), .int .i64 m.dist, .int .u64 (m.stamp : Int), .slice lo m.list.length lc] 28)) := (Below.refl _ _).alloc (Nat.le_refl _) _
  have hr2 := right_refs h
  have hl2 := right_list h
  have hri := right_any m ro lo rc lc _ (hr.below hb0) (by omega) (hl.below hb0) (by omega)
  rw [h] at hri
  have hfo := fun w => fieldsOf_any m.kind w
  have hhl := hasF_lt m.kind
  have HFB : Hid (∀ f, fieldB m f = if hasF m.kind &&& f = 0 then [] else layF m f) := fun _ => rfl
  have HLEN : Hid (∀ j, j ≤ 15 → (headB m ++ (flds.take j).flatMap (fieldB m)).length ≤ 11000) := bodyTo_len h
  clear h
  generalize hasF m.kind = hs at *
  go_enter Try.func9, Try.ntmps9
  go_wp2_with (first
    | (refine load_msg _ rfl (by rfl) _ rfl m ro lo rc lc hbox ?_)
    | (go_at_call 13; refine hri.mono ?_; rintro e w1 ⟨rfl, hb1⟩)
    | (go_at_call 20; refine (newWriter_any _).mono ?_; rintro e w2 ⟨rfl, hw2, hb2⟩; have hx2 := (hbox.below hb1 (by simp)).below hb2 (by have := hb1.size; simp at this; omega); have c20 := hx2.cells.1)
    | (go_at_call 21; refine (wbyte_to _ _ _ _ _ (u8 m.kind) (wrap_u8 _) hw2 (by simp)).mono ?_; rintro e w3 ⟨rfl, v3, hto3⟩; have hw3 := hto3.wr; have hB3 := hto3.below hw2; clear hw2 hto3; have hx3 := hx2.below hB3 (by have := hb1.size; simp at this; omega); have c31 := hx3.cells.2.1; clear hx2 c20)
    | (go_at_call 21; refine (wbyte_to _ _ _ _ _ (u8 m.frm) (wrap_u8 _) hw3 (by simp)).mono ?_; rintro e w4 ⟨rfl, v4, hto4⟩; have hw4 := hto4.wr; have hB4 := hto4.below hw3; clear hw3 hto4; have hx4 := hx3.below hB4 (by have := hb1.size; simp at this; omega); have c42 := hx4.cells.2.2.1; clear hx3 c31)
    | (go_at_call 21; refine (wbyte_to _ _ _ _ _ (u8 m.to) (wrap_u8 _) hw4 (by simp)).mono ?_; rintro e w5 ⟨rfl, v5, hto5⟩; have hw5 := hto5.wr; have hB5 := hto5.below hw4; clear hw4 hto5; have hx5 := hx4.below hB5 (by have := hb1.size; simp at this; omega); have c50 := hx5.cells.1; clear hx4 c42)
    | (go_at_call 22; refine (hfo _).mono ?_; rintro e w6 ⟨rfl, rfl⟩))
  have hsz : w.heap.size < w1.heap.size := by have := hb1.size; simp at this; omega
  have hB1 : Below w.heap.size w w1 := below_alloc hb1
  have hBs : Below w.heap.size w w5 := hB1.trans ((hb2.mono (by omega)).trans (((hB3.trans hB4).trans hB5).mono (by omega)))
  clear c50 hB3 hB4 hB5 hri hfo hb1 hb2 hbox hb0 hB1
  generalize w1.heap.size = wb at *
  go_loopw [6] (fun f wr => ∃ (j : Nat) (vv : Value), j ≤ 15 ∧ f = .int .u64 ((2 ^ j : Nat) : Int) ∧ WR wr wb vv (headB m ++ (flds.take j).flatMap (fieldB m)) ∧ MBox wr w.heap.size m ro lo rc lc ∧ Below w.heap.size w wr) (fun f _ => 65536 - (intOf f).toNat)
  case atStart => exact ⟨0, v5, by omega, rfl, by simpa [headB] using hw5, hx5, hBs⟩
  case round =>
    obtain ⟨j, vv, hj, rfl, hwr, hbx, hbr⟩ := hrel
    clear hx5 hBs hw5
    have hlen := HLEN.out j hj
    by_cases hlt : j < 15
    · obtain ⟨hF, _, hF2⟩ := fld_pow hlt
      have hst := body_step m hlt
      rw [HFB.out] at hst
      have hand : bits .and .u64 (hs : Int) ((2 ^ j : Nat) : Int) = ((hs &&& 2 ^ j : Nat) : Int) := u64_and_nat _ _ (by omega) (by omega)
      have hla := fun w v l h1 h2 h3 h4 h5 h6 => lay_any m _ hF ro lo rc lc w wb v l hm h1 h2 (fun _ => hr2) h3 h4 (fun _ => hl2) h5 h6
      have HP : Hid (2 ^ (j + 1) = 2 * 2 ^ j) := by show _ = _; rw [Nat.pow_succ]; omega
      have hpos : 0 < 2 ^ j := Nat.pow_pos (by omega)
      have HS : Hid (headB m ++ (flds.take (j + 1)).flatMap (fieldB m) = headB m ++ (flds.take j).flatMap (fieldB m) ++ if hs &&& 2 ^ j = 0 then [] else layF m (2 ^ j)) := hst
      have HR : Hid (IDs wr ro m.refs ∧ (m.refs ≠ [] → Low ro wb)) := ⟨hr.below hbr, fun hne => Low.of (w := w) (hr hne) (by omega)⟩
      have HU : Hid (Us wr lo m.list ∧ (m.list ≠ [] → Low lo wb)) := ⟨hl.below hbr, fun hne => Low.of (w := w) (hl hne) (by omega)⟩
      clear hst hF hr hl HFB HLEN
      generalize headB m ++ (flds.take j).flatMap (fieldB m) = L at *
      generalize layF m (2 ^ j) = LF at *
      generalize hs &&& 2 ^ j = A at *
      generalize 2 ^ j = F at *
      by_cases hA : A = 0
      · subst hA
        have hA1 : (((0 : Nat) : Int) != 0) = false := rfl
        go_wp2
        go_roundw
        case rel => exact ⟨j + 1, vv, by omega, by rw [HP.out]; exact congrArg _ (by omega), by rw [HS.out]; simpa using hwr, hbx, hbr⟩
        case measure => simp [intOf]; omega
      · have hA1 : ((A : Int) != 0) = true := by simpa using hA
        go_wp2_with (first
          | (refine load_msg _ rfl (by rfl) _ rfl m ro lo rc lc hbx ?_)
          | (go_at_call 23; refine (hla _ vv L HR.out.1 HR.out.2 HU.out.1 HU.out.2 hwr (by omega)).mono ?_; rintro e w7 ⟨rfl, v7, hto7⟩))
        go_roundw
        case rel => exact ⟨j + 1, v7, by omega, by rw [HP.out]; exact congrArg _ (by omega), by rw [HS.out, if_neg hA]; exact hto7.wr, hbx.below (hto7.below hwr) (by omega), hbr.trans ((hto7.below hwr).mono (by omega))⟩
        case measure => simp [intOf]; omega
    · have hj15 : j = 15 := by omega
      subst hj15
      have HBD : Hid (headB m ++ (flds.take 15).flatMap (fieldB m) = bodyB m) := rfl
      rw [HBD.out] at hwr hlen
      have hz := hwr.lt
      clear HLEN HFB HBD hr hl
      generalize hLL : bodyB m = L at *
      have HLL : Hid (bodyB m = L) := hLL
      clear hLL
      go_wp2_with (first
        | (go_at_call 25; refine (wbytes_any _ _ vv L hwr (by omega)).mono ?_; rintro e w7 ⟨rfl, hg7, hb7, hlt7⟩)
        | (go_at_call 24; refine (seal_any _ L _ (Bs.ofBlock hg7 (List.take_of_length_le (by simp)) (Nat.le_refl _)) (by omega)).mono ?_; rintro e w8 ⟨rfl, hg8, hb8, hlt8⟩))
      go_ret2
      rw [HLL.out]
      exact ⟨w7.heap.size, by omega, rfl, hg8, hbr.trans ((hb7.mono (by omega)).trans (hb8.mono (by omega)))⟩

end Go.Proofs.Ytcpegfjjdojinaa

