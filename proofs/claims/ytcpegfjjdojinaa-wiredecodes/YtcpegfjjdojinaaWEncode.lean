/- The walk of Encode. -/
import Derived.Test.YtcpegfjjdojinaaWEnc
namespace Go.Proofs.Ytcpegfjjdojinaa
open Go.RowKit

set_option maxRecDepth 20000 in
set_option maxHeartbeats 4000000 in
theorem encode_no (m : Msg) (ro lo : Option Addr) (rc lc : Nat) (w : World) (hr : IDs w ro m.refs) (hlr : m.refs.length ≤ 140737488355328) (hl : Us w lo m.list) (hll : m.list.length ≤ 140737488355328) (h : rightB m = false) :
    Calls Try.prog 9 #[m.v ro lo rc lc] w fun e w' => e = .returned (.tuple #[.slice none 0 0, .int .i64 1]) ∧ Below w.heap.size w w' := by
  have hbox := MBox.new w m ro lo rc lc
  have hb0 : Below w.heap.size w (w.alloc (.cells #[.int .i64 m.kind, .int .i64 m.frm, .int .i64 m.to, .int .u64 (m.call : Int), .int .u64 (m.floor : Int), .int .i64 m.op, .int .i64 m.fld, .int .i64 m.item,
    .int .i64 m.tn, .int .u64 (m.ts : Int), .slice ro m.refs.length rc, .int .u64 (m.val : Int), .int .i64 m.code, .int .u64 (m.seq : Int), .int .i64 m.vou, .int .u64 (m.at_ : Int), .int .i64 m.dist, .int .u64 (m.stamp : Int), .slice lo m.list.length lc] 28)) := (Below.refl _ _).alloc (Nat.le_refl _) _
  have hri := right_any m ro lo rc lc _ (hr.below hb0) hlr (hl.below hb0) hll
  rw [h] at hri
  go_enter Try.func9, Try.ntmps9
  go_wp2_with (first
    | (refine load_msg _ rfl (by rfl) _ rfl m ro lo rc lc hbox ?_)
    | (go_at_call 13; refine hri.mono ?_; rintro e w1 ⟨rfl, hb1⟩))
  go_ret2
  exact ⟨rfl, below_alloc hb1⟩

set_option maxRecDepth 20000 in
set_option maxHeartbeats 4000000 in
theorem encode_ok (m : Msg) (ro lo : Option Addr) (rc lc : Nat) (w : World) (hm : m.Ok) (hr : IDs w ro m.refs) (hl : Us w lo m.list) (h : rightB m = true) :
    Calls Try.prog 9 #[m.v ro lo rc lc] w fun e w' => ∃ k, w.heap.size < k ∧ e = .returned (.tuple #[.slice (some ⟨k, 0, none⟩) ((bodyB m).length + 4) ((bodyB m).length + 4), .int .i64 0]) ∧
      w'.heap[k]? = some (.cells ((bodyB m ++ sumBytes (crc (bodyB m))).map bv).toArray 5 (0, 0)) ∧ Below w.heap.size w w' := by
  have hbox := MBox.new w m ro lo rc lc
  have hb0 : Below w.heap.size w (w.alloc (.cells #[.int .i64 m.kind, .int .i64 m.frm, .int .i64 m.to, .int .u64 (m.call : Int), .int .u64 (m.floor : Int), .int .i64 m.op, .int .i64 m.fld, .int .i64 m.item,
    .int .i64 m.tn, .int .u64 (m.ts : Int), .slice ro m.refs.length rc, .int .u64 (m.val : Int), .int .i64 m.code, .int .u64 (m.seq : Int), .int .i64 m.vou, .int .u64 (m.at_ : Int), .int .i64 m.dist, .int .u64 (m.stamp : Int), .slice lo m.list.length lc] 28)) := (Below.refl _ _).alloc (Nat.le_refl _) _
  have hr2 := right_refs h
  have hl2 := right_list h
  have hri := right_any m ro lo rc lc _ (hr.below hb0) (by omega) (hl.below hb0) (by omega)
  rw [h] at hri
  have hfo := fun w => fieldsOf_any m.kind w
  have hhl := hasF_lt m.kind
  have HFB : Hid (∀ f, fieldB m f = if hasF m.kind &&& f = 0 then [] else layF m f) := fun _ => rfl
  have HLEN : Hid (∀ j, j ≤ 15 → (headB m ++ (flds.take j).flatMap (fieldB m)).length ≤ 11000) := bodyTo_len h
  clear h
  generalize hasF m.kind = hs at *
  go_enter Try.func9, Try.ntmps9
  go_wp2_with (first
    | (refine load_msg _ rfl (by rfl) _ rfl m ro lo rc lc hbox ?_)
    | (go_at_call 13; refine hri.mono ?_; rintro e w1 ⟨rfl, hb1⟩)
    | (go_at_call 20; refine (newWriter_any _).mono ?_; rintro e w2 ⟨rfl, hw2, hb2⟩; have hx2 := (hbox.below hb1 (by simp)).below hb2 (by have := hb1.size; simp at this; omega); have c20 := hx2.cells.1)
    | (go_at_call 21; refine (wbyte_to _ _ _ _ _ (u8 m.kind) (wrap_u8 _) hw2 (by simp)).mono ?_; rintro e w3 ⟨rfl, v3, hto3⟩; have hw3 := hto3.wr; have hB3 := hto3.below hw2; clear hw2 hto3; have hx3 := hx2.below hB3 (by have := hb1.size; simp at this; omega); have c31 := hx3.cells.2.1; clear hx2 c20)
    | (go_at_call 21; refine (wbyte_to _ _ _ _ _ (u8 m.frm) (wrap_u8 _) hw3 (by simp)).mono ?_; rintro e w4 ⟨rfl, v4, hto4⟩; have hw4 := hto4.wr; have hB4 := hto4.below hw3; clear hw3 hto4; have hx4 := hx3.below hB4 (by have := hb1.size; simp at this; omega); have c42 := hx4.cells.2.2.1; clear hx3 c31)
    | (go_at_call 21; refine (wbyte_to _ _ _ _ _ (u8 m.to) (wrap_u8 _) hw4 (by simp)).mono ?_; rintro e w5 ⟨rfl, v5, hto5⟩; have hw5 := hto5.wr; have hB5 := hto5.below hw4; clear hw4 hto5; have hx5 := hx4.below hB5 (by have := hb1.size; simp at this; omega); have c50 := hx5.cells.1; clear hx4 c42)
    | (go_at_call 22; refine (hfo _).mono ?_; rintro e w6 ⟨rfl, rfl⟩))
  have hsz : w.heap.size < w1.heap.size := by have := hb1.size; simp at this; omega
  have hB1 : Below w.heap.size w w1 := below_alloc hb1
  have hBs : Below w.heap.size w w5 := hB1.trans ((hb2.mono (by omega)).trans (((hB3.trans hB4).trans hB5).mono (by omega)))
  clear c50 hB3 hB4 hB5 hri hfo hb1 hb2 hbox hb0 hB1
  generalize w1.heap.size = wb at *
  go_loopw [6] (fun f wr => ∃ (j : Nat) (vv : Value), j ≤ 15 ∧ f = .int .u64 ((2 ^ j : Nat) : Int) ∧ WR wr wb vv (headB m ++ (flds.take j).flatMap (fieldB m)) ∧ MBox wr w.heap.size m ro lo rc lc ∧ Below w.heap.size w wr) (fun f _ => 65536 - (intOf f).toNat)
  case atStart => exact ⟨0, v5, by omega, rfl, by simpa [headB] using hw5, hx5, hBs⟩
  case round =>
    obtain ⟨j, vv, hj, rfl, hwr, hbx, hbr⟩ := hrel
    clear hx5 hBs hw5
    have hlen := HLEN.out j hj
    by_cases hlt : j < 15
    · obtain ⟨hF, _, hF2⟩ := fld_pow hlt
      have hst := body_step m hlt
      rw [HFB.out] at hst
      have hand : bits .and .u64 (hs : Int) ((2 ^ j : Nat) : Int) = ((hs &&& 2 ^ j : Nat) : Int) := u64_and_nat _ _ (by omega) (by omega)
      have hla := fun w v l h1 h2 h3 h4 h5 h6 => lay_any m _ hF ro lo rc lc w wb v l hm h1 h2 (fun _ => hr2) h3 h4 (fun _ => hl2) h5 h6
      have HP : Hid (2 ^ (j + 1) = 2 * 2 ^ j) := by show _ = _; rw [Nat.pow_succ]; omega
      have hpos : 0 < 2 ^ j := Nat.pow_pos (by omega)
      have HS : Hid (headB m ++ (flds.take (j + 1)).flatMap (fieldB m) = headB m ++ (flds.take j).flatMap (fieldB m) ++ if hs &&& 2 ^ j = 0 then [] else layF m (2 ^ j)) := hst
      have HR : Hid (IDs wr ro m.refs ∧ (m.refs ≠ [] → Low ro wb)) := ⟨hr.below hbr, fun hne => Low.of (w := w) (hr hne) (by omega)⟩
      have HU : Hid (Us wr lo m.list ∧ (m.list ≠ [] → Low lo wb)) := ⟨hl.below hbr, fun hne => Low.of (w := w) (hl hne) (by omega)⟩
      clear hst hF hr hl HFB HLEN
      generalize headB m ++ (flds.take j).flatMap (fieldB m) = L at *
      generalize layF m (2 ^ j) = LF at *
      generalize hs &&& 2 ^ j = A at *
      generalize 2 ^ j = F at *
      by_cases hA : A = 0
      · subst hA
        have hA1 : (((0 : Nat) : Int) != 0) = false := rfl
        go_wp2
        go_roundw
        case rel => exact ⟨j + 1, vv, by omega, by rw [HP.out]; exact congrArg _ (by omega), by rw [HS.out]; simpa using hwr, hbx, hbr⟩
        case measure => simp [intOf]; omega
      · have hA1 : ((A : Int) != 0) = true := by simpa using hA
        go_wp2_with (first
          | (refine load_msg _ rfl (by rfl) _ rfl m ro lo rc lc hbx ?_)
          | (go_at_call 23; refine (hla _ vv L HR.out.1 HR.out.2 HU.out.1 HU.out.2 hwr (by omega)).mono ?_; rintro e w7 ⟨rfl, v7, hto7⟩))
        go_roundw
        case rel => exact ⟨j + 1, v7, by omega, by rw [HP.out]; exact congrArg _ (by omega), by rw [HS.out, if_neg hA]; exact hto7.wr, hbx.below (hto7.below hwr) (by omega), hbr.trans ((hto7.below hwr).mono (by omega))⟩
        case measure => simp [intOf]; omega
    · have hj15 : j = 15 := by omega
      subst hj15
      have HBD : Hid (headB m ++ (flds.take 15).flatMap (fieldB m) = bodyB m) := rfl
      rw [HBD.out] at hwr hlen
      have hz := hwr.lt
      clear HLEN HFB HBD hr hl
      generalize hLL : bodyB m = L at *
      have HLL : Hid (bodyB m = L) := hLL
      clear hLL
      go_wp2_with (first
        | (go_at_call 25; refine (wbytes_any _ _ vv L hwr (by omega)).mono ?_; rintro e w7 ⟨rfl, hg7, hb7, hlt7⟩)
        | (go_at_call 24; refine (seal_any _ L _ (Bs.ofBlock hg7 (List.take_of_length_le (by simp)) (Nat.le_refl _)) (by omega)).mono ?_; rintro e w8 ⟨rfl, hg8, hb8, hlt8⟩))
      go_ret2
      rw [HLL.out]
      exact ⟨w7.heap.size, by omega, rfl, hg8, hbr.trans ((hb7.mono (by omega)).trans (hb8.mono (by omega)))⟩

end Go.Proofs.Ytcpegfjjdojinaa
