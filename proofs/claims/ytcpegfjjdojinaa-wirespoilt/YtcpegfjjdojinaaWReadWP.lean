import Derived.Test.YtcpegfjjdojinaaWReadAll
import Derived.Test.YtcpegfjjdojinaaWCopy
import Derived.Test.YtcpegfjjdojinaaWalkDP
/- What package wire reads: the walk of readAll where there is a Kind. -/
/- What is read is of its types, and its lists are short. -/
/- Decode of what is not sealed rightly. -/
/- The walk of Decode. -/
/- The walk of Decode where all could be read. -/
/- Decode of any bytes. -/
namespace Go.Proofs.Ytcpegfjjdojinaa
open Go.RowKit

theorem MR.start {w : World} {mb : Nat} {m : Msg} (h : MAt w mb m none none 0 0) (hr : m.refs = []) (hl : m.list = []) : MR w mb m none none 0 0 := ⟨h, Or.inl ⟨rfl, rfl, hr⟩, Or.inl ⟨rfl, rfl, hl⟩⟩

set_option maxRecDepth 20000 in
set_option maxHeartbeats 8000000 in
theorem readAll_some (w : World) (rb g : Nat) (L : List UInt8) (p e : Nat) (h : RD w rb g L p e) (hk : (rByte L p e 11).1 ≠ 0) :
    Calls Try.prog 28 #[.pointer (some ⟨rb, 0, none⟩)] w fun r w' => ∃ ro lo rc lc, r = .returned ((rFs L 15 (rHead L p e)).1.v ro lo rc lc) ∧ RowI w' ro rc (rFs L 15 (rHead L p e)).1.refs w.heap.size ∧ RowU w' lo lc (rFs L 15 (rHead L p e)).1.list w.heap.size ∧ RTo w w' rb g L (rFs L 15 (rHead L p e)).2.1 (rFs L 15 (rHead L p e)).2.2 := by
  have hsz := h.size
  have hgl := h.lt
  have hb0 := fun w h => rbyte_any w rb g L p e 11 h
  have hb1 := fun w h => rbyte_any w rb g L (rByte L p e 11).2.1 (rByte L p e 11).2.2 64 h
  have hb2 := fun w h => rbyte_any w rb g L (rByte L (rByte L p e 11).2.1 (rByte L p e 11).2.2 64).2.1 (rByte L (rByte L p e 11).2.1 (rByte L p e 11).2.2 64).2.2 64 h
  obtain ⟨x0, hx0⟩ := rb_u8 L p e 11
  obtain ⟨x1, hx1⟩ := rb_u8 L (rByte L p e 11).2.1 (rByte L p e 11).2.2 64
  obtain ⟨x2, hx2⟩ := rb_u8 L (rByte L (rByte L p e 11).2.1 (rByte L p e 11).2.2 64).2.1 (rByte L (rByte L p e 11).2.1 (rByte L p e 11).2.2 64).2.2 64
  have HH : Hid (rHead L p e = ({ zeroM with kind := (x0.toNat : Int), frm := (x1.toNat : Int), to := (x2.toNat : Int) }, (rByte L (rByte L (rByte L p e 11).2.1 (rByte L p e 11).2.2 64).2.1 (rByte L (rByte L p e 11).2.1 (rByte L p e 11).2.2 64).2.2 64).2)) := by
    show _ = _
    rw [← hx0, ← hx1, ← hx2]
    rfl
  rw [hx0] at hb0 hk
  rw [hx1] at hb1
  rw [hx2] at hb2
  generalize (rByte L (rByte L (rByte L p e 11).2.1 (rByte L p e 11).2.2 64).2.1 (rByte L (rByte L p e 11).2.1 (rByte L p e 11).2.2 64).2.2 64).2 = K2 at *
  generalize (rByte L (rByte L p e 11).2.1 (rByte L p e 11).2.2 64).2 = K1 at *
  generalize (rByte L p e 11).2 = K0 at *
  have t0 := x0.toNat_lt
  have t1 := x1.toNat_lt
  have t2 := x2.toNat_lt
  clear hx0 hx1 hx2
  have hk0 : ((x0.toNat : Int) == 0) = false := by rw [beq_eq_false_iff_ne]; omega
  have hfo := fun w => fieldsOf_any (x0.toNat : Int) w
  have hhl := hasF_lt (x0.toNat : Int)
  have HHS : Hid (∀ j, j ≤ 15 → hasF (rFs L j (rHead L p e)).1.kind = hasF (x0.toNat : Int)) := by
    intro j hj
    rw [(rFs_kind L j _ hj).1, HH.out]
  generalize hasF (x0.toNat : Int) = hs at *
  go_enter Try.func28, Try.ntmps28
  go_wp2_with (first
    | (go_at_call 55; refine (hb0 _ (h.below ((Below.refl _ _).alloc (Nat.le_refl _) _))).mono ?_; clear hb0; rintro r w1 ⟨rfl, hto1⟩; have s1 := hto1.kept.size; have hZ1 := (hto1.kept.block w.heap.size (by simp) (by omega)).trans (heap_alloc_new w _); simp at s1; have k1 : Kept w w1 (fun k => k = rb) := (Kept.alloc w _ _).trans hto1.kept (fun _ _ h => h); have r1 := hto1.rd; clear hto1)
    | (refine store_msg _ _ rfl rfl w1.heap.size rfl { zeroM with kind := (x0.toNat : Int) } none none 0 0 rfl (by simp) (there_row (cs := zeroCells) (heap_alloc_new w1 _) (Nat.le_refl 19)) ?_; intro w3 hm3 hk3 hsz3; have c0 := hm3.cells 0 _ rfl; simp at hsz3; have r3 := (r1.below ((Below.refl _ _).alloc (Nat.le_refl _) _)).keep hk3 (by omega) (by omega); have k3 : Kept w w3 (fun k => k = rb ∨ k = w1.heap.size) := (kept_or k1).trans ((Kept.alloc w1 _ _).trans (kept_or2 hk3) (fun _ _ h => h)) (fun _ _ h => h); have hZ3 := (hk3.block w.heap.size (by simp; omega) (by omega)).trans ((Below.heap_alloc w1 _ w.heap.size (by omega)).trans hZ1); clear hk3 r1 k1 hZ1)
    | (go_at_call 55; refine (hb1 _ r3).mono ?_; clear hb1; rintro r w4 ⟨rfl, hto4⟩; have s4 := hto4.kept.size; have hm4 := hm3.keep hto4.kept (by omega); have c1 := hm4.cells 1 _ rfl; have z1 := frozen_at hm4 1 (by omega); have hm5 := hm4.set (m' := { zeroM with kind := (x0.toNat : Int), frm := (x1.toNat : Int) }) (ro' := none) (lo' := none) (rc' := 0) (lc' := 0) 1 (.int .i64 (x1.toNat : Int)) (by omega) rfl; have r5 := hto4.rd.keep (Kept.setCell w4 ⟨w1.heap.size, 1, none⟩ (.int .i64 (x1.toNat : Int))) (by simp; omega) (by simp; omega); have k5 := (k3.trans (kept_or hto4.kept) (fun _ _ h => h)).trans (kept_or2 (Kept.setCell w4 ⟨w1.heap.size, 1, none⟩ (.int .i64 (x1.toNat : Int)))) (fun _ _ h => h); have hZ5 := (heap_setCell_other w4 ⟨w1.heap.size, 1, none⟩ w.heap.size (.int .i64 (x1.toNat : Int)) (by simp; omega)).trans ((hto4.kept.block w.heap.size (by omega) (by omega)).trans hZ3); clear hto4 hm3 hm4 k3 r3 hZ3 c0)
    | (go_at_call 55; refine (hb2 _ r5).mono ?_; clear hb2; rintro r w6 ⟨rfl, hto6⟩; have s6 := hto6.kept.size; simp at s6; have hm6 := hm5.keep hto6.kept (by omega); have c2 := hm6.cells 2 _ rfl; have z2 := frozen_at hm6 2 (by omega); have hm7 := hm6.set (m' := { zeroM with kind := (x0.toNat : Int), frm := (x1.toNat : Int), to := (x2.toNat : Int) }) (ro' := none) (lo' := none) (rc' := 0) (lc' := 0) 2 (.int .i64 (x2.toNat : Int)) (by omega) rfl; have c7 := hm7.cells 0 _ rfl; have r7 := hto6.rd.keep (Kept.setCell w6 ⟨w1.heap.size, 2, none⟩ (.int .i64 (x2.toNat : Int))) (by simp; omega) (by simp; omega); have k7 := (k5.trans (kept_or hto6.kept) (fun _ _ h => h)).trans (kept_or2 (Kept.setCell w6 ⟨w1.heap.size, 2, none⟩ (.int .i64 (x2.toNat : Int)))) (fun _ _ h => h); have hZ7 := (heap_setCell_other w6 ⟨w1.heap.size, 2, none⟩ w.heap.size (.int .i64 (x2.toNat : Int)) (by simp; omega)).trans ((hto6.kept.block w.heap.size (by simp; omega) (by omega)).trans hZ5); clear hto6 hm5 hm6 k5 r5 hZ5 c1 z1)
    | (go_at_call 22; refine (hfo _).mono ?_; rintro r w8 ⟨rfl, rfl⟩))
  have hm8 := MR.start hm7 rfl rfl
  generalize hW7 : w6.setCell ⟨w1.heap.size, 2, none⟩ (.int .i64 (x2.toNat : Int)) = w7 at *
  clear hm7 hfo hW7 c2 z2 c7
  generalize hMB : w1.heap.size = mb at *
  go_loopw [5] (fun f wr => ∃ j : Nat, j ≤ 15 ∧ f = .int .u64 ((2 ^ j : Nat) : Int) ∧ RM w wr rb g mb L (rFs L j (rHead L p e)) ∧ wr.heap[w.heap.size]? = some (.cells zeroCells 28 (0, 0))) (fun f _ => 65536 - (intOf f).toNat)
  case atStart => exact ⟨0, by omega, rfl, ⟨by show RD _ _ _ _ (rHead L p e).2.1 (rHead L p e).2.2; rw [HH.out]; exact r7, ⟨none, none, 0, 0, by show MR _ _ (rHead L p e).1 _ _ _ _; rw [HH.out]; exact hm8⟩, k7⟩, hZ7⟩
  case round =>
    obtain ⟨j, hj, rfl, hrm, hzr⟩ := hrel
    clear r7 hm8 k7 hZ7
    have hzs : w.heap.size < wr.heap.size := (Array.getElem?_eq_some_iff.1 hzr).1
    by_cases hlt : j < 15
    · obtain ⟨hF, _, hF2⟩ := fld_pow hlt
      have HS : Hid (rFs L (j + 1) (rHead L p e) = if hs &&& 2 ^ j = 0 then rFs L j (rHead L p e) else rF L (rFs L j (rHead L p e)).1 (2 ^ j) (rFs L j (rHead L p e)).2.1 (rFs L j (rHead L p e)).2.2) := by
        show _ = _
        rw [rFs_step L j _ hlt]
        unfold rStep
        rw [HHS.out j hj]
      have hand : bits .and .u64 (hs : Int) ((2 ^ j : Nat) : Int) = ((hs &&& 2 ^ j : Nat) : Int) := u64_and_nat _ _ (by omega) (by omega)
      have HP : Hid (2 ^ (j + 1) = 2 * 2 ^ j) := by show _ = _; rw [Nat.pow_succ]; omega
      have hpos : 0 < 2 ^ j := Nat.pow_pos (by omega)
      generalize rFs L j (rHead L p e) = X at *
      obtain ⟨ro, lo, rc, lc, hmr⟩ := hrm.mr
      have hrd := read_any wr rb g mb L X.2.1 X.2.2 X.1 ro lo rc lc (2 ^ j) hF (by omega) hrm.rd hmr
      generalize rF L X.1 (2 ^ j) X.2.1 X.2.2 = Y at *
      generalize hs &&& 2 ^ j = A at *
      generalize 2 ^ j = F at *
      clear hF
      by_cases hA : A = 0
      · subst hA
        have hA1 : (((0 : Nat) : Int) != 0) = false := rfl
        go_wp2
        go_roundw
        case rel => exact ⟨j + 1, by omega, by rw [HP.out]; exact congrArg _ (by omega), by rw [HS.out]; exact hrm, hzr⟩
        case measure => simp [intOf]; omega
      · have hA1 : ((A : Int) != 0) = true := by simpa using hA
        go_wp2_with (go_at_call 56; refine hrd.mono ?_; rintro r w9 ⟨rfl, hrm9⟩)
        go_roundw
        case rel => exact ⟨j + 1, by omega, by rw [HP.out]; exact congrArg _ (by omega), by rw [HS.out, if_neg hA]; exact ⟨hrm9.rd, hrm9.mr, hrm.kept.trans hrm9.kept (fun _ _ h => h)⟩, (hrm9.kept.block w.heap.size hzs (by omega)).trans hzr⟩
        case measure => simp [intOf]; omega
    · have hj15 : j = 15 := by omega
      subst hj15
      clear HHS
      generalize hX : rFs L 15 (rHead L p e) = X at *
      have HX : Hid (rFs L 15 (rHead L p e) = X) := hX
      clear hX
      obtain ⟨ro, lo, rc, lc, hmr⟩ := hrm.mr
      have hmx := hmr.at_
      go_wp2_with (first
        | (refine load_mat _ rfl (by rfl) _ rfl X.1 ro lo rc lc hmx ?_)
        | (refine store_msg _ _ rfl rfl w.heap.size rfl X.1 ro lo rc lc rfl hzs (there_row (cs := zeroCells) hzr (Nat.le_refl 19)) ?_; intro w9 hm9 hk9 hsz9))
      (try simp only [Exit.inBlock, Exit.then])
      rw [HX.out]
      refine bodyPost_ret (res_msg1 rfl _ rfl hm9) rfl ⟨ro, lo, rc, lc, rfl, ?_, ?_, hrm.rd.keep hk9 (by omega) (by omega), ?_⟩
      · rcases hmr.refs.keep hk9 (fun k hk e => by omega) with h1 | ⟨k, h1, h2, h3, h4⟩
        · exact Or.inl h1
        · exact Or.inr ⟨k, h1, h2, by omega, h4⟩
      · rcases hmr.list.keep hk9 (fun k hk e => by omega) with h1 | ⟨k, h1, h2, h3, h4⟩
        · exact Or.inl h1
        · exact Or.inr ⟨k, h1, h2, by omega, h4⟩
      · exact (hrm.kept.trans (hk9.mono (S' := fun k => k = w.heap.size ∨ k = mb ∨ k = rb) (fun _ _ e => Or.inl e)) (fun i hi e => by omega)).mono (fun i hi e => by omega)

theorem rb_zero {L : List UInt8} {p e : Nat} : (rByte L p e 11).1 = 0 ∨ (rByte L p e 11).1 ≠ 0 := Nat.eq_zero_or_pos _ |>.imp id (fun h => by omega)

theorem readAll_any (w : World) (rb g : Nat) (L : List UInt8) (p e : Nat) (h : RD w rb g L p e) :
    Calls Try.prog 28 #[.pointer (some ⟨rb, 0, none⟩)] w fun r w' => ∃ ro lo rc lc, r = .returned ((rAll L p e).1.v ro lo rc lc) ∧ RowI w' ro rc (rAll L p e).1.refs w.heap.size ∧ RowU w' lo lc (rAll L p e).1.list w.heap.size ∧ RTo w w' rb g L (rAll L p e).2.1 (rAll L p e).2.2 := by
  unfold rAll
  rcases rb_zero (L := L) (p := p) (e := e) with hk | hk
  · rw [if_pos hk]
    refine (readAll_none w rb g L p e h hk).mono ?_
    rintro r w' ⟨rfl, hto⟩
    exact ⟨none, none, 0, 0, rfl, Or.inl ⟨rfl, rfl, rfl⟩, Or.inl ⟨rfl, rfl, rfl⟩, hto⟩
  · rw [if_neg hk]
    exact readAll_some w rb g L p e h hk

end Go.Proofs.Ytcpegfjjdojinaa

namespace Go.Proofs.Ytcpegfjjdojinaa
open Go.RowKit

theorem RowI.ids {w : World} {ao : Option Addr} {c : Nat} {xs : List (Int × Nat)} {B : Nat} (h : RowI w ao c xs B) : IDs w ao xs := by
  intro hne
  rcases h with ⟨_, _, h⟩ | ⟨k, rfl, _, _, hg⟩
  · exact absurd h hne
  · have hc : ∀ i j, i < xs.length → j < 2 → ∀ (hi : i < xs.length), w.cell? ⟨k, 0 + i * 2 + j, none⟩ = (idCells xs[i])[j]? := by
      intro i j hi hj hi'
      rw [cell_of_row w k _ _ _ _ hg, ← flat2 idCells (fun _ => rfl) xs i j hi hj, Nat.zero_add]
      simp
    refine ⟨k, 0, rfl, (Array.getElem?_eq_some_iff.1 hg).1, fun i hi => ⟨?_, ?_⟩⟩
    · have := hc i 0 hi (by omega) hi
      simpa [idCells] using this
    · have := hc i 1 hi (by omega) hi
      simpa [idCells] using this
theorem RowU.us {w : World} {ao : Option Addr} {c : Nat} {xs : List Nat} {B : Nat} (h : RowU w ao c xs B) : Us w ao xs := by
  intro hne
  rcases h with ⟨_, _, h⟩ | ⟨k, rfl, _, _, hg⟩
  · exact absurd h hne
  · refine ⟨k, 0, rfl, (Array.getElem?_eq_some_iff.1 hg).1, fun i hi => ?_⟩
    rw [cell_of_row w k _ _ _ _ hg, Nat.zero_add]
    simp [nv64, hi]

/-- All is of its types, the lists are short. -/
structure Msg.Sm (m : Msg) : Prop where
  ok : m.Ok
  refs : m.refs.length ≤ 2
  list : m.list.length ≤ 64

theorem i64_nat {n : Nat} (h : n ≤ 9223372036854775807) : I64 (n : Int) := by unfold I64; omega
theorem zero_sm : zeroM.Sm := ⟨by constructor <;> simp [zeroM, I64, U64], by simp [zeroM], by simp [zeroM]⟩

theorem setF_sm {m : Msg} (h : m.Sm) (f n : Nat) (hu : U64 n) (hn : f = 4 ∨ f = 8 ∨ f = 16 ∨ f = 128 ∨ f = 512 ∨ f = 1024 → n ≤ 9223372036854775807) : (m.setF f n).Sm := by
  have o := h.ok
  unfold Msg.setF
  by_cases h1 : f = 1
  · rw [if_pos h1]; exact ⟨{ o with call := hu }, h.refs, h.list⟩
  rw [if_neg h1]
  by_cases h2 : f = 2
  · rw [if_pos h2]; exact ⟨{ o with floor := hu }, h.refs, h.list⟩
  rw [if_neg h2]
  by_cases h3 : f = 4
  · rw [if_pos h3]; exact ⟨{ o with item := i64_nat (hn (by omega)) }, h.refs, h.list⟩
  rw [if_neg h3]
  by_cases h4 : f = 8
  · rw [if_pos h4]; exact ⟨{ o with op := i64_nat (hn (by omega)) }, h.refs, h.list⟩
  rw [if_neg h4]
  by_cases h5 : f = 16
  · rw [if_pos h5]; exact ⟨{ o with fld := i64_nat (hn (by omega)) }, h.refs, h.list⟩
  rw [if_neg h5]
  by_cases h6 : f = 64
  · rw [if_pos h6]; exact ⟨{ o with seq := hu }, h.refs, h.list⟩
  rw [if_neg h6]
  by_cases h7 : f = 128
  · rw [if_pos h7]; exact ⟨{ o with vou := i64_nat (hn (by omega)) }, h.refs, h.list⟩
  rw [if_neg h7]
  by_cases h8 : f = 256
  · rw [if_pos h8]; exact ⟨{ o with at_ := hu }, h.refs, h.list⟩
  rw [if_neg h8]
  by_cases h9 : f = 512
  · rw [if_pos h9]; exact ⟨{ o with dist := i64_nat (hn (by omega)) }, h.refs, h.list⟩
  rw [if_neg h9]
  by_cases h10 : f = 1024
  · rw [if_pos h10]; exact ⟨{ o with code := i64_nat (hn (by omega)) }, h.refs, h.list⟩
  rw [if_neg h10]
  by_cases h11 : f = 2048
  · rw [if_pos h11]; exact ⟨{ o with val := hu }, h.refs, h.list⟩
  rw [if_neg h11]
  by_cases h12 : f = 8192
  · rw [if_pos h12]; exact ⟨{ o with stamp := hu }, h.refs, h.list⟩
  rw [if_neg h12]
  exact h

theorem topF_lt (k : Int) (f : Nat) : topF k f < 18446744073709551616 := by
  unfold topF
  repeat' split
  all_goals omega

theorem rID_ok (L : List UInt8) (p e : Nat) : I64 (rID L p e).1.1 ∧ U64 (rID L p e).1.2 := by
  have h1 := rByte_le L p e 64
  have h2 := rNum_le L (rByte L p e 64).2.1 (rByte L p e 64).2.2 72057594037927935
  exact ⟨i64_nat (by omega), by unfold U64; show (rNum L (rByte L p e 64).2.1 (rByte L p e 64).2.2 72057594037927935).1 < _; omega⟩
theorem rIn_ok (L : List UInt8) (n p e : Nat) : ∀ x ∈ (rIn L n p e).1, I64 x.1 ∧ U64 x.2 := by
  induction n with
  | zero => intro x hx; simp [rIn] at hx
  | succ n ih =>
    intro x hx
    simp only [rIn, List.mem_append, List.mem_singleton] at hx
    rcases hx with hx | rfl
    · exact ih x hx
    · exact rID_ok _ _ _
theorem rLs_ok (L : List UInt8) (n p e : Nat) : ∀ x ∈ (rLs L n p e).1, U64 x := by
  induction n with
  | zero => intro x hx; simp [rLs] at hx
  | succ n ih =>
    intro x hx
    simp only [rLs, List.mem_append, List.mem_singleton] at hx
    rcases hx with hx | rfl
    · exact ih x hx
    · have := rNum_le L (rLs L n p e).2.1 (rLs L n p e).2.2 72057594037927935
      unfold U64; omega

theorem rF_sm (L : List UInt8) {m : Msg} (f p e : Nat) (hf : Fld f) (h : m.Sm) : (rF L m f p e).1.Sm := by
  have o := h.ok
  unfold rF
  by_cases h1 : f = 32
  · rw [if_pos h1]
    have := rID_ok L p e
    exact ⟨{ o with tn := this.1, ts := this.2 }, h.refs, h.list⟩
  rw [if_neg h1]
  by_cases h2 : f = 4096
  · rw [if_pos h2]
    refine ⟨{ o with refs := rIn_ok _ _ _ _ }, ?_, h.list⟩
    show (rIn L (rNum L p e 2).1 (rNum L p e 2).2.1 (rNum L p e 2).2.2).1.length ≤ 2
    rw [rIn_len]; exact rNum_le L p e 2
  rw [if_neg h2]
  by_cases h3 : f = 16384
  · rw [if_pos h3]
    refine ⟨{ o with list := rLs_ok _ _ _ _ }, h.refs, ?_⟩
    show (rLs L (rNum L p e 64).1 (rNum L p e 64).2.1 (rNum L p e 64).2.2).1.length ≤ 64
    rw [rLs_len]; exact rNum_le L p e 64
  rw [if_neg h3]
  by_cases h4 : inByteB f = true
  · rw [if_pos h4]
    obtain ⟨x, hx⟩ := rb_u8 L p e (topF m.kind f)
    have := x.toNat_lt
    exact setF_sm h _ _ (by unfold U64; omega) (fun _ => by omega)
  · rw [if_neg h4]
    have h5 := rNum_le L p e (topF m.kind f)
    have h6 := topF_lt m.kind f
    refine setF_sm h _ _ (by unfold U64; omega) (fun hh => ?_)
    have h7 : f = 4 := by
      rcases hh with rfl | rfl | rfl | rfl | rfl | rfl
      · rfl
      all_goals exact absurd rfl h4
    have e4 : topF m.kind f = 4095 := by subst h7; rfl
    omega

theorem rFs_sm (L : List UInt8) (j : Nat) (x : Msg × Nat × Nat) (h : j ≤ 15) (hx : x.1.Sm) : (rFs L j x).1.Sm := by
  induction j with
  | zero => exact hx
  | succ j ih =>
    rw [rFs_step L j x (by omega)]
    unfold rStep
    split
    · exact ih (by omega)
    · exact rF_sm _ _ _ _ (fld_pow (by omega)).1 (ih (by omega))

theorem rHead_sm (L : List UInt8) (p e : Nat) : (rHead L p e).1.Sm := by
  have h1 := rByte_le L p e 11
  have h2 := rByte_le L (rByte L p e 11).2.1 (rByte L p e 11).2.2 64
  have h3 := rByte_le L (rByte L (rByte L p e 11).2.1 (rByte L p e 11).2.2 64).2.1 (rByte L (rByte L p e 11).2.1 (rByte L p e 11).2.2 64).2.2 64
  exact ⟨{ zero_sm.ok with kind := i64_nat (by omega), frm := i64_nat (by omega), to := i64_nat (by omega) }, zero_sm.refs, zero_sm.list⟩

theorem rAll_sm (L : List UInt8) (p e : Nat) : (rAll L p e).1.Sm := by
  unfold rAll
  split
  · exact zero_sm
  · exact rFs_sm L 15 _ (Nat.le_refl _) (rHead_sm L p e)

end Go.Proofs.Ytcpegfjjdojinaa

namespace Go.Proofs.Ytcpegfjjdojinaa
open Go.RowKit

set_option maxRecDepth 20000 in
set_option maxHeartbeats 4000000 in
theorem decode_bad (v : Value) (l : List UInt8) (e0 : Nat) (w : World) (hv : Bs w v l) (hl : l.length ≤ 1024) (he : ((e0 : Int) != 0) = true)
    (hu : ∀ w', Below w.heap.size w w' → Calls Try.prog 26 #[v] w' fun e w'' => e = .returned (.tuple #[.slice none 0 0, .int .i64 (e0 : Int)]) ∧ w' = w'') :
    Calls Try.prog 10 #[v] w fun e w' => e = .returned (.tuple #[zeroM.v none none 0 0, .int .i64 (e0 : Int)]) ∧ Below w.heap.size w w' := by
  obtain ⟨ao, cap, rfl, hc, hx⟩ := hv
  go_enter Try.func10, Try.ntmps10
  go_wp2_with (first
    | (go_at_call 26; refine (hu _ ((Below.refl _ _).alloc (Nat.le_refl _) _)).mono ?_; rintro e w1 ⟨rfl, rfl⟩)
    | (refine store_msg _ _ rfl rfl w.heap.size rfl zeroM none none 0 0 rfl (by simp) (there_row (cs := zeroCells) (heap_alloc_new w _) (Nat.le_refl 19)) ?_; intro w3 hm3 hk3 hsz3))
  (try simp only [Exit.inBlock, Exit.then])
  refine bodyPost_ret (res_msg2 rfl _ rfl hm3) rfl ⟨rfl, ?_⟩
  exact ((Below.refl _ _).alloc (Nat.le_refl _) _).trans (hk3.below (by simp) (fun k hk e => by omega))

end Go.Proofs.Ytcpegfjjdojinaa

namespace Go.Proofs.Ytcpegfjjdojinaa
open Go.RowKit

/-- What Decode says of a body whose sum is right. -/
def decE (M : List UInt8) : Nat :=
  if rEnd M (rAll M 0 0).2.1 (rAll M 0 0).2.2 ≠ 0 then rEnd M (rAll M 0 0).2.1 (rAll M 0 0).2.2 else if rightB (rAll M 0 0).1 = true then 0 else 21

set_option maxRecDepth 20000 in
set_option maxHeartbeats 4000000 in
theorem decode_long (v : Value) (l : List UInt8) (w : World) (hv : Bs w v l) (hl : 1024 < l.length) (hl2 : l.length ≤ 140737488355328) :
    Calls Try.prog 10 #[v] w fun e w' => e = .returned (.tuple #[zeroM.v none none 0 0, .int .i64 22]) ∧ Below w.heap.size w w' := by
  obtain ⟨ao, cap, rfl, hc, hx⟩ := hv
  go_enter Try.func10, Try.ntmps10
  go_wp2_with (refine store_msg _ _ rfl rfl w.heap.size rfl zeroM none none 0 0 rfl (by simp) (there_row (cs := zeroCells) (heap_alloc_new w _) (Nat.le_refl 19)) ?_; intro w3 hm3 hk3 hsz3)
  (try simp only [Exit.inBlock, Exit.then])
  refine bodyPost_ret (res_msg2 rfl _ rfl hm3) rfl ⟨rfl, ?_⟩
  exact ((Below.refl _ _).alloc (Nat.le_refl _) _).trans (hk3.below (by simp) (fun k hk e => by omega))

set_option maxRecDepth 20000 in
set_option maxHeartbeats 4000000 in
theorem decode_err (v : Value) (M : List UInt8) (x0 x1 x2 x3 : UInt8) (w : World) (hv : Bs w v (M ++ [x0, x1, x2, x3])) (hl : M.length + 4 ≤ 1024) (hs : sumOf x0 x1 x2 x3 = crc M) (he : rEnd M (rAll M 0 0).2.1 (rAll M 0 0).2.2 ≠ 0) :
    Calls Try.prog 10 #[v] w fun e w' => e = .returned (.tuple #[zeroM.v none none 0 0, .int .i64 (decE M : Int)]) ∧ Below w.heap.size w w' := by
  have HE : Hid (decE M = rEnd M (rAll M 0 0).2.1 (rAll M 0 0).2.2) := by show _ = _; unfold decE; rw [if_pos he]
  have hu := fun w' hb => unseal_ok v M x0 x1 x2 x3 w' (hv.below hb) (by omega) hs
  have hlen : (M ++ [x0, x1, x2, x3]).length = M.length + 4 := by simp
  obtain ⟨ao, cap, hve, hc, hx⟩ := hv
  rw [hlen] at hve
  subst hve
  clear hx hc
  have hra := fun w rb g h => readAll_any w rb g M 0 0 h
  have hen := fun w rb g h => rend_any w rb g M (rAll M 0 0).2.1 (rAll M 0 0).2.2 h
  have hsm := rAll_sm M 0 0
  have t : ((rEnd M (rAll M 0 0).2.1 (rAll M 0 0).2.2 : Int) == 0) = false := by rw [beq_eq_false_iff_ne]; omega
  have t2 : ((rEnd M (rAll M 0 0).2.1 (rAll M 0 0).2.2 : Int) != 0) = true := by rw [bne_iff_ne]; omega
  generalize rEnd M (rAll M 0 0).2.1 (rAll M 0 0).2.2 = E at *
  generalize rAll M 0 0 = X at *
  clear he hs
  have hz : ∀ o, (w.alloc o).heap.size = w.heap.size + 1 := fun o => by simp
  go_enter Try.func10, Try.ntmps10
  go_wp2_with (first
    | (go_at_call 26; refine (hu _ ((Below.refl _ _).alloc (Nat.le_refl _) _)).mono ?_; clear hu; rintro r w1 ⟨rfl, hg1, hb1, hlt1⟩; rw [hz] at hg1 hlt1 hb1)
    | (go_at_call 27; refine (newReader_any _ M w1 (Bs.ofBlock hg1 (List.take_of_length_le (by simp)) (Nat.le_refl _)) (by omega)).mono ?_; rintro r w2 ⟨rb, hrb, rfl, hr2, hb2⟩)
    | (go_at_call 28; refine (hra w2 rb _ hr2).mono ?_; clear hra; rintro r w3 ⟨ro, lo, rc, lc, rfl, hri, hru, hto3⟩)
    | (refine store_msg _ _ rfl rfl w3.heap.size rfl X.1 ro lo rc lc rfl (by simp) (there_row (cs := zeroCells) (heap_alloc_new w3 _) (Nat.le_refl 19)) ?_; intro w4 hm4 hk4 hsz4; simp at hsz4; have r4 := (hto3.rd.below ((Below.refl _ _).alloc (Nat.le_refl _) _)).keep hk4 (by have := hto3.rd.size; omega) (by have := hto3.rd.size; have := hto3.rd.lt; omega))
    | (go_at_call 29; refine (hen w4 rb _ r4).mono ?_; clear hen; rintro r w5 ⟨rfl, hto5⟩; have z2 := hb2.size; have z3 := hto3.kept.size; have z5 := hto5.kept.size; have hZ : w5.heap[w.heap.size]? = some (.cells zeroCells 28 (0, 0)) := (hto5.kept.block w.heap.size (by omega) (by omega)).trans ((hk4.block w.heap.size (by simp; omega) (by omega)).trans ((Below.heap_alloc w3 _ w.heap.size (by omega)).trans ((hto3.kept.block w.heap.size (by omega) (by omega)).trans ((hb2.block w.heap.size (by omega)).trans ((hb1.block w.heap.size (by omega)).trans (heap_alloc_new w _)))))))
    | (refine store_msg _ _ rfl rfl w.heap.size rfl zeroM none none 0 0 rfl (by omega) (there_row (cs := zeroCells) hZ (Nat.le_refl 19)) ?_; intro w6 hm6 hk6 hsz6))
  (try simp only [Exit.inBlock, Exit.then])
  rw [HE.out]
  refine bodyPost_ret (res_msg2 rfl _ rfl hm6) rfl ⟨rfl, ?_⟩
  have q1 : Below w.heap.size w w2 := (((Below.refl _ _).alloc (Nat.le_refl _) _).trans (hb1.mono (by omega))).trans (hb2.mono (by omega))
  have q2 : Below w.heap.size w2 w3 := hto3.bel (by omega) (by omega)
  have q3 : Below w.heap.size w3 w4 := ((Below.refl _ _).alloc (by omega) _).trans (hk4.below (by simp; omega) (fun k hk e => by omega))
  have q4 : Below w.heap.size w4 w5 := hto5.bel (by omega) (by omega)
  exact (((q1.trans q2).trans q3).trans q4).trans (hk6.below (by omega) (fun k hk e => by omega))

end Go.Proofs.Ytcpegfjjdojinaa

namespace Go.Proofs.Ytcpegfjjdojinaa
open Go.RowKit

/-- The rows of what was read, behind the later calls. -/
theorem rows_on {w w2 w3 w4 w5 : World} {rb g : Nat} {M : List UInt8} {p e p2 e2 : Nat} {m : Msg} {ro lo : Option Addr} {rc lc : Nat} {o : Obj} (hlt : w.heap.size < w2.heap.size) (hrb : rb < w2.heap.size) (hri : RowI w3 ro rc m.refs w2.heap.size) (hru : RowU w3 lo lc m.list w2.heap.size)
    (hk4 : Kept (w3.alloc o) w4 (fun k => k = w3.heap.size)) (hto5 : RTo w4 w5 rb g M p2 e2) (hto3 : RTo w2 w3 rb g M p e) : RowI w5 ro rc m.refs (w.heap.size + 1) ∧ RowU w5 lo lc m.list (w.heap.size + 1) := by
  have hlt3 := hto3.kept.size
  constructor
  · rcases hri with h | ⟨k, h1, h2, h3, h4⟩
    · exact Or.inl h
    · have hk := (Array.getElem?_eq_some_iff.1 h4).1
      exact Or.inr ⟨k, h1, h2, by omega, (hto5.kept.block k (by have := hk4.size; simp at this; omega) (by omega)).trans ((hk4.block k (by simp; omega) (by omega)).trans ((Below.heap_alloc w3 _ k hk).trans h4))⟩
  · rcases hru with h | ⟨k, h1, h2, h3, h4⟩
    · exact Or.inl h
    · have hk := (Array.getElem?_eq_some_iff.1 h4).1
      exact Or.inr ⟨k, h1, h2, by omega, (hto5.kept.block k (by have := hk4.size; simp at this; omega) (by omega)).trans ((hk4.block k (by simp; omega) (by omega)).trans ((Below.heap_alloc w3 _ k hk).trans h4))⟩

set_option maxRecDepth 20000 in
set_option maxHeartbeats 4000000 in
theorem decode_form (v : Value) (M : List UInt8) (x0 x1 x2 x3 : UInt8) (w : World) (hv : Bs w v (M ++ [x0, x1, x2, x3])) (hl : M.length + 4 ≤ 1024) (hs : sumOf x0 x1 x2 x3 = crc M) (he : rEnd M (rAll M 0 0).2.1 (rAll M 0 0).2.2 = 0) (hri : rightB (rAll M 0 0).1 = false) :
    Calls Try.prog 10 #[v] w fun e w' => e = .returned (.tuple #[zeroM.v none none 0 0, .int .i64 21]) ∧ Below w.heap.size w w' := by
  have hu := fun w' hb => unseal_ok v M x0 x1 x2 x3 w' (hv.below hb) (by omega) hs
  have hlen : (M ++ [x0, x1, x2, x3]).length = M.length + 4 := by simp
  obtain ⟨ao, cap, hve, hc, hx⟩ := hv
  rw [hlen] at hve
  subst hve
  clear hx hc
  have hra := fun w rb g h => readAll_any w rb g M 0 0 h
  have hen := fun w rb g h => rend_any w rb g M (rAll M 0 0).2.1 (rAll M 0 0).2.2 h
  have hsm := rAll_sm M 0 0
  rw [he] at hen
  have hrt := fun w ro lo rc lc h1 h2 => right_any (rAll M 0 0).1 ro lo rc lc w h1 (by have := hsm.refs; omega) h2 (by have := hsm.list; omega)
  rw [hri] at hrt
  generalize rAll M 0 0 = X at *
  clear he hs hri
  have hz : ∀ o, (w.alloc o).heap.size = w.heap.size + 1 := fun o => by simp
  go_enter Try.func10, Try.ntmps10
  go_wp2_with (first
    | (refine load_mat _ rfl (by rfl) _ rfl X.1 ro lo rc lc hm5 ?_)
    | (go_at_call 26; refine (hu _ ((Below.refl _ _).alloc (Nat.le_refl _) _)).mono ?_; clear hu; rintro r w1 ⟨rfl, hg1, hb1, hlt1⟩; rw [hz] at hg1 hlt1 hb1)
    | (go_at_call 27; refine (newReader_any _ M w1 (Bs.ofBlock hg1 (List.take_of_length_le (by simp)) (Nat.le_refl _)) (by omega)).mono ?_; rintro r w2 ⟨rb, hrb, rfl, hr2, hb2⟩)
    | (go_at_call 28; refine (hra w2 rb _ hr2).mono ?_; clear hra; rintro r w3 ⟨ro, lo, rc, lc, rfl, hri, hru, hto3⟩)
    | (refine store_msg _ _ rfl rfl w3.heap.size rfl X.1 ro lo rc lc rfl (by simp) (there_row (cs := zeroCells) (heap_alloc_new w3 _) (Nat.le_refl 19)) ?_; intro w4 hm4 hk4 hsz4; simp at hsz4; have r4 := (hto3.rd.below ((Below.refl _ _).alloc (Nat.le_refl _) _)).keep hk4 (by have := hto3.rd.size; omega) (by have := hto3.rd.size; have := hto3.rd.lt; omega))
    | (go_at_call 29; refine (hen w4 rb _ r4).mono ?_; clear hen; rintro r w5 ⟨rfl, hto5⟩; have z2 := hb2.size; have z3 := hto3.kept.size; have z5 := hto5.kept.size; have hZ5 : w5.heap[w.heap.size]? = some (.cells zeroCells 28 (0, 0)) := (hto5.kept.block w.heap.size (by omega) (by omega)).trans ((hk4.block w.heap.size (by simp; omega) (by omega)).trans ((Below.heap_alloc w3 _ w.heap.size (by omega)).trans ((hto3.kept.block w.heap.size (by omega) (by omega)).trans ((hb2.block w.heap.size (by omega)).trans ((hb1.block w.heap.size (by omega)).trans (heap_alloc_new w _)))))); have hm5 := hm4.keep hto5.kept (by have := hto3.rd.size; omega); have rows := rows_on (w := w) (by omega) (by have := hr2.size; omega) hri hru hk4 hto5 hto3; have hids := rows.1.ids; have hus := rows.2.us)
    | (go_at_call 13; refine (hrt w5 ro lo rc lc hids hus).mono ?_; rintro r w6 ⟨rfl, hb6⟩; have hZ : w6.heap[w.heap.size]? = some (.cells zeroCells 28 (0, 0)) := (hb6.block w.heap.size (by omega)).trans hZ5; have z6 := hb6.size)
    | (refine store_msg _ _ rfl rfl w.heap.size rfl zeroM none none 0 0 rfl (by omega) (there_row (cs := zeroCells) hZ (Nat.le_refl 19)) ?_; intro w7 hm7 hk7 hsz7))
  (try simp only [Exit.inBlock, Exit.then])
  refine bodyPost_ret (res_msg2 rfl _ rfl hm7) rfl ⟨rfl, ?_⟩
  have q1 : Below w.heap.size w w2 := (((Below.refl _ _).alloc (Nat.le_refl _) _).trans (hb1.mono (by omega))).trans (hb2.mono (by omega))
  have q2 : Below w.heap.size w2 w3 := hto3.bel (by omega) (by omega)
  have q3 : Below w.heap.size w3 w4 := ((Below.refl _ _).alloc (by omega) _).trans (hk4.below (by simp; omega) (fun k hk e => by omega))
  have q4 : Below w.heap.size w4 w5 := hto5.bel (by omega) (by omega)
  exact ((((q1.trans q2).trans q3).trans q4).trans (hb6.mono (by omega))).trans (hk7.below (by omega) (fun k hk e => by omega))

set_option maxRecDepth 20000 in
set_option maxHeartbeats 4000000 in
theorem decode_ok (v : Value) (M : List UInt8) (x0 x1 x2 x3 : UInt8) (w : World) (hv : Bs w v (M ++ [x0, x1, x2, x3])) (hl : M.length + 4 ≤ 1024) (hs : sumOf x0 x1 x2 x3 = crc M) (he : rEnd M (rAll M 0 0).2.1 (rAll M 0 0).2.2 = 0) (hri : rightB (rAll M 0 0).1 = true) :
    Calls Try.prog 10 #[v] w fun e w' => ∃ ro lo rc lc, e = .returned (.tuple #[(rAll M 0 0).1.v ro lo rc lc, .int .i64 0]) ∧ RowI w' ro rc (rAll M 0 0).1.refs (w.heap.size + 1) ∧ RowU w' lo lc (rAll M 0 0).1.list (w.heap.size + 1) ∧ Below w.heap.size w w' := by
  have hu := fun w' hb => unseal_ok v M x0 x1 x2 x3 w' (hv.below hb) (by omega) hs
  have hlen : (M ++ [x0, x1, x2, x3]).length = M.length + 4 := by simp
  obtain ⟨ao, cap, hve, hc, hx⟩ := hv
  rw [hlen] at hve
  subst hve
  clear hx hc
  have hra := fun w rb g h => readAll_any w rb g M 0 0 h
  have hen := fun w rb g h => rend_any w rb g M (rAll M 0 0).2.1 (rAll M 0 0).2.2 h
  have hsm := rAll_sm M 0 0
  rw [he] at hen
  have hrt := fun w ro lo rc lc h1 h2 => right_any (rAll M 0 0).1 ro lo rc lc w h1 (by have := hsm.refs; omega) h2 (by have := hsm.list; omega)
  rw [hri] at hrt
  generalize rAll M 0 0 = X at *
  clear he hs hri
  have hz : ∀ o, (w.alloc o).heap.size = w.heap.size + 1 := fun o => by simp
  go_enter Try.func10, Try.ntmps10
  go_wp2_with (first
    | (refine load_mat _ rfl (by rfl) _ rfl X.1 ro lo rc lc hm6 ?_)
    | (refine load_mat _ rfl (by rfl) _ rfl X.1 ro lo rc lc hm5 ?_)
    | (go_at_call 26; refine (hu _ ((Below.refl _ _).alloc (Nat.le_refl _) _)).mono ?_; clear hu; rintro r w1 ⟨rfl, hg1, hb1, hlt1⟩; rw [hz] at hg1 hlt1 hb1)
    | (go_at_call 27; refine (newReader_any _ M w1 (Bs.ofBlock hg1 (List.take_of_length_le (by simp)) (Nat.le_refl _)) (by omega)).mono ?_; rintro r w2 ⟨rb, hrb, rfl, hr2, hb2⟩)
    | (go_at_call 28; refine (hra w2 rb _ hr2).mono ?_; clear hra; rintro r w3 ⟨ro, lo, rc, lc, rfl, hri, hru, hto3⟩)
    | (refine store_msg _ _ rfl rfl w3.heap.size rfl X.1 ro lo rc lc rfl (by simp) (there_row (cs := zeroCells) (heap_alloc_new w3 _) (Nat.le_refl 19)) ?_; intro w4 hm4 hk4 hsz4; simp at hsz4; have r4 := (hto3.rd.below ((Below.refl _ _).alloc (Nat.le_refl _) _)).keep hk4 (by have := hto3.rd.size; omega) (by have := hto3.rd.size; have := hto3.rd.lt; omega))
    | (go_at_call 29; refine (hen w4 rb _ r4).mono ?_; clear hen; rintro r w5 ⟨rfl, hto5⟩; have z2 := hb2.size; have z3 := hto3.kept.size; have z5 := hto5.kept.size; have hZ5 : w5.heap[w.heap.size]? = some (.cells zeroCells 28 (0, 0)) := (hto5.kept.block w.heap.size (by omega) (by omega)).trans ((hk4.block w.heap.size (by simp; omega) (by omega)).trans ((Below.heap_alloc w3 _ w.heap.size (by omega)).trans ((hto3.kept.block w.heap.size (by omega) (by omega)).trans ((hb2.block w.heap.size (by omega)).trans ((hb1.block w.heap.size (by omega)).trans (heap_alloc_new w _)))))); have hm5 := hm4.keep hto5.kept (by have := hto3.rd.size; omega); have rows := rows_on (w := w) (by omega) (by have := hr2.size; omega) hri hru hk4 hto5 hto3; have hids := rows.1.ids; have hus := rows.2.us)
    | (go_at_call 13; refine (hrt w5 ro lo rc lc hids hus).mono ?_; rintro r w6 ⟨rfl, hb6⟩; have hZ : w6.heap[w.heap.size]? = some (.cells zeroCells 28 (0, 0)) := (hb6.block w.heap.size (by omega)).trans hZ5; have z6 := hb6.size; have hm6 := hm5.below hb6 hm5.lt)
    | (refine store_msg _ _ rfl rfl w.heap.size rfl X.1 ro lo rc lc rfl (by omega) (there_row (cs := zeroCells) hZ (Nat.le_refl 19)) ?_; intro w7 hm7 hk7 hsz7))
  (try simp only [Exit.inBlock, Exit.then])
  refine bodyPost_ret (res_msg2 rfl _ rfl hm7) rfl ⟨ro, lo, rc, lc, rfl, (rows.1.keep (kept_of_below hb6 (fun _ => False)) (fun _ _ h => h)).keep hk7 (fun k hk e => by omega), (rows.2.keep (kept_of_below hb6 (fun _ => False)) (fun _ _ h => h)).keep hk7 (fun k hk e => by omega), ?_⟩
  have q1 : Below w.heap.size w w2 := (((Below.refl _ _).alloc (Nat.le_refl _) _).trans (hb1.mono (by omega))).trans (hb2.mono (by omega))
  have q2 : Below w.heap.size w2 w3 := hto3.bel (by omega) (by omega)
  have q3 : Below w.heap.size w3 w4 := ((Below.refl _ _).alloc (by omega) _).trans (hk4.below (by simp; omega) (fun k hk e => by omega))
  have q4 : Below w.heap.size w4 w5 := hto5.bel (by omega) (by omega)
  exact ((((q1.trans q2).trans q3).trans q4).trans (hb6.mono (by omega))).trans (hk7.below (by omega) (fun k hk e => by omega))

end Go.Proofs.Ytcpegfjjdojinaa

namespace Go.Proofs.Ytcpegfjjdojinaa
open Go.RowKit

def bodyOf (l : List UInt8) : List UInt8 := l.take (l.length - 4)
def sumAt (l : List UInt8) : Nat := match l.drop (l.length - 4) with
  | [a, b, c, d] => sumOf a b c d
  | _ => 0
/-- What Decode says of any bytes. -/
def decN (l : List UInt8) : Nat := if 1024 < l.length then 22 else if l.length < 4 then 20 else if sumAt l ≠ crc (bodyOf l) then 23 else decE (bodyOf l)

theorem split4 {l : List UInt8} (h : 4 ≤ l.length) : ∃ x0 x1 x2 x3, l = bodyOf l ++ [x0, x1, x2, x3] ∧ sumAt l = sumOf x0 x1 x2 x3 := by
  have hd : (l.drop (l.length - 4)).length = 4 := by simp; omega
  have hs := List.take_append_drop (l.length - 4) l
  unfold bodyOf sumAt
  generalize l.drop (l.length - 4) = r at *
  match r, hd with
  | [a, b, c, d], _ => exact ⟨a, b, c, d, hs.symm, rfl⟩

theorem sum_back {x0 x1 x2 x3 : UInt8} {c : Nat} (hc : c < 4294967296) (h : sumOf x0 x1 x2 x3 = c) : sumBytes c = [x0, x1, x2, x3] := by
  have e := sumOf_sumBytes c hc
  rw [← h] at e
  obtain ⟨h1, h2, h3, h4⟩ := sumOf_inj e
  rw [h] at h1 h2 h3 h4
  unfold sumBytes
  rw [h1, h2, h3, h4]

theorem decode_wrong (v : Value) (l : List UInt8) (w : World) (hv : Bs w v l) (hl : l.length ≤ 140737488355328) (he : decN l ≠ 0) :
    Calls Try.prog 10 #[v] w fun e w' => e = .returned (.tuple #[zeroM.v none none 0 0, .int .i64 (decN l : Int)]) ∧ Below w.heap.size w w' := by
  unfold decN at he ⊢
  by_cases h1 : 1024 < l.length
  · rw [if_pos h1]
    exact decode_long v l w hv h1 hl
  rw [if_neg h1] at he ⊢
  by_cases h2 : l.length < 4
  · rw [if_pos h2]
    exact decode_bad v l 20 w hv (by omega) rfl (fun w' hb => unseal_short v l w' (hv.below hb) h2)
  rw [if_neg h2] at he ⊢
  obtain ⟨x0, x1, x2, x3, hsp, hsum⟩ := split4 (l := l) (by omega)
  have hbl : (bodyOf l).length + 4 = l.length := by unfold bodyOf; simp; omega
  rw [hsum] at he ⊢
  by_cases h3 : sumOf x0 x1 x2 x3 ≠ crc (bodyOf l)
  · rw [if_pos h3]
    rw [hsp] at hv
    exact decode_bad v _ 23 w hv (by simp; omega) rfl (fun w' hb => unseal_bad v (bodyOf l) x0 x1 x2 x3 w' (hv.below hb) (by omega) h3)
  · rw [if_neg h3] at he ⊢
    rw [hsp] at hv
    have hs : sumOf x0 x1 x2 x3 = crc (bodyOf l) := Decidable.not_not.1 h3
    by_cases h4 : rEnd (bodyOf l) (rAll (bodyOf l) 0 0).2.1 (rAll (bodyOf l) 0 0).2.2 = 0
    · have h5 : rightB (rAll (bodyOf l) 0 0).1 = false := by
        cases hr : rightB (rAll (bodyOf l) 0 0).1 with
        | false => rfl
        | true => exact absurd (by unfold decE; rw [if_neg (by simp [h4]), if_pos hr]) he
      have e : decE (bodyOf l) = 21 := by unfold decE; rw [if_neg (by simp [h4]), if_neg (by rw [h5]; decide)]
      rw [e]
      exact decode_form v (bodyOf l) x0 x1 x2 x3 w hv (by omega) hs h4 h5
    · exact decode_err v (bodyOf l) x0 x1 x2 x3 w hv (by omega) hs h4

theorem decN_ok {l : List UInt8} (h : decN l = 0) : l.length ≤ 1024 ∧ ∃ x0 x1 x2 x3, l = bodyOf l ++ [x0, x1, x2, x3] ∧ sumOf x0 x1 x2 x3 = crc (bodyOf l) ∧ rEnd (bodyOf l) (rAll (bodyOf l) 0 0).2.1 (rAll (bodyOf l) 0 0).2.2 = 0 ∧ rightB (rAll (bodyOf l) 0 0).1 = true := by
  unfold decN at h
  by_cases h1 : 1024 < l.length
  · rw [if_pos h1] at h; cases h
  rw [if_neg h1] at h
  by_cases h2 : l.length < 4
  · rw [if_pos h2] at h; cases h
  rw [if_neg h2] at h
  obtain ⟨x0, x1, x2, x3, hsp, hsum⟩ := split4 (l := l) (by omega)
  rw [hsum] at h
  by_cases h3 : sumOf x0 x1 x2 x3 ≠ crc (bodyOf l)
  · rw [if_pos h3] at h; cases h
  · rw [if_neg h3] at h
    refine ⟨by omega, x0, x1, x2, x3, hsp, Decidable.not_not.1 h3, ?_⟩
    unfold decE at h
    by_cases h4 : rEnd (bodyOf l) (rAll (bodyOf l) 0 0).2.1 (rAll (bodyOf l) 0 0).2.2 = 0
    · refine ⟨h4, ?_⟩
      rw [if_neg (by simp [h4])] at h
      by_cases h5 : rightB (rAll (bodyOf l) 0 0).1 = true
      · exact h5
      · rw [if_neg h5] at h; cases h
    · rw [if_pos h4] at h
      exact absurd h h4

theorem decode_right (v : Value) (l : List UInt8) (w : World) (hv : Bs w v l) (he : decN l = 0) :
    Calls Try.prog 10 #[v] w fun e w' => ∃ ro lo rc lc, e = .returned (.tuple #[(rAll (bodyOf l) 0 0).1.v ro lo rc lc, .int .i64 0]) ∧ RowI w' ro rc (rAll (bodyOf l) 0 0).1.refs (w.heap.size + 1) ∧ RowU w' lo lc (rAll (bodyOf l) 0 0).1.list (w.heap.size + 1) ∧ Below w.heap.size w w' := by
  obtain ⟨h1, x0, x1, x2, x3, hsp, hs, h4, h5⟩ := decN_ok he
  have hbl : (bodyOf l).length + 4 = l.length := by conv => rhs; rw [hsp]
                                                    simp
  rw [hsp] at hv
  exact decode_ok v (bodyOf l) x0 x1 x2 x3 w hv (by omega) hs h4 h5

end Go.Proofs.Ytcpegfjjdojinaa

