/- What package wire reads: the walk of readAll where there is a Kind. -/
import Derived.Test.YtiepbjgcghedeabWReadAll
namespace Go.Proofs.Ytiepbjgcghedeab
open Go.RowKit

theorem MR.start {w : World} {mb : Nat} {m : Msg} (h : MAt w mb m none none 0 0) (hr : m.refs = []) (hl : m.list = []) : MR w mb m none none 0 0 := ⟨h, Or.inl ⟨rfl, rfl, hr⟩, Or.inl ⟨rfl, rfl, hl⟩⟩

set_option maxRecDepth 20000 in
set_option maxHeartbeats 8000000 in
theorem readAll_some (w : World) (rb g : Nat) (L : List UInt8) (p e : Nat) (h : RD w rb g L p e) (hk : (rByte L p e 11).1 ≠ 0) :
    Calls Try.prog 31 #[.pointer (some ⟨rb, 0, none⟩)] w fun r w' => ∃ ro lo rc lc, r = .returned ((rFs L 15 (rHead L p e)).1.v ro lo rc lc) ∧ RowI w' ro rc (rFs L 15 (rHead L p e)).1.refs w.heap.size ∧ RowU w' lo lc (rFs L 15 (rHead L p e)).1.list w.heap.size ∧ RTo w w' rb g L (rFs L 15 (rHead L p e)).2.1 (rFs L 15 (rHead L p e)).2.2 := by
  have hsz := h.size
  have hgl := h.lt
  have hb0 := fun w h => rbyte_any w rb g L p e 11 h
  have hb1 := fun w h => rbyte_any w rb g L (rByte L p e 11).2.1 (rByte L p e 11).2.2 64 h
  have hb2 := fun w h => rbyte_any w rb g L (rByte L (rByte L p e 11).2.1 (rByte L p e 11).2.2 64).2.1 (rByte L (rByte L p e 11).2.1 (rByte L p e 11).2.2 64).2.2 64 h
  obtain ⟨x0, hx0⟩ := rb_u8 L p e 11
  obtain ⟨x1, hx1⟩ := rb_u8 L (rByte L p e 11).2.1 (rByte L p e 11).2.2 64
  obtain ⟨x2, hx2⟩ := rb_u8 L (rByte L (rByte L p e 11).2.1 (rByte L p e 11).2.2 64).2.1 (rByte L (rByte L p e 11).2.1 (rByte L p e 11).2.2 64).2.2 64
  have HH : Hid (rHead L p e = ({ zeroM with kind := (x0.toNat : Int), frm := (x1.toNat : Int), to := (x2.toNat : Int) }, (rByte L (rByte L (rByte L p e 11).2.1 (rByte L p e 11).2.2 64).2.1 (rByte L (rByte L p e 11).2.1 (rByte L p e 11).2.2 64).2.2 64).2)) := by
    show _ = _
    rw [← hx0, ← hx1, ← hx2]
    rfl
  rw [hx0] at hb0 hk
  rw [hx1] at hb1
  rw [hx2] at hb2
  generalize (rByte L (rByte L (rByte L p e 11).2.1 (rByte L p e 11).2.2 64).2.1 (rByte L (rByte L p e 11).2.1 (rByte L p e 11).2.2 64).2.2 64).2 = K2 at *
  generalize (rByte L (rByte L p e 11).2.1 (rByte L p e 11).2.2 64).2 = K1 at *
  generalize (rByte L p e 11).2 = K0 at *
  have t0 := x0.toNat_lt
  have t1 := x1.toNat_lt
  have t2 := x2.toNat_lt
  clear hx0 hx1 hx2
  have hk0 : ((x0.toNat : Int) == 0) = false := by rw [beq_eq_false_iff_ne]; omega
  have hfo := fun w => fieldsOf_any (x0.toNat : Int) w
  have hhl := hasF_lt (x0.toNat : Int)
  have HHS : Hid (∀ j, j ≤ 15 → hasF (rFs L j (rHead L p e)).1.kind = hasF (x0.toNat : Int)) := by
    intro j hj
    rw [(rFs_kind L j _ hj).1, HH.out]
  generalize hasF (x0.toNat : Int) = hs at *
  go_enter Try.func31, Try.ntmps31
  go_wp2_with (first
    | (go_at_call 52; refine (hb0 _ (h.below ((Below.refl _ _).alloc (Nat.le_refl _) _))).mono ?_; clear hb0; rintro r w1 ⟨rfl, hto1⟩; have s1 := hto1.kept.size; have hZ1 := (hto1.kept.block w.heap.size (by simp) (by omega)).trans (heap_alloc_new w _); simp at s1; have k1 : Kept w w1 (fun k => k = rb) := (Kept.alloc w _ _).trans hto1.kept (fun _ _ h => h); have r1 := hto1.rd; clear hto1)
    | (refine store_msg _ _ rfl rfl w1.heap.size rfl { zeroM with kind := (x0.toNat : Int) } none none 0 0 rfl (by simp) (there_row (cs := zeroCells) (heap_alloc_new w1 _) (Nat.le_refl 19)) ?_; intro w3 hm3 hk3 hsz3; have c0 := hm3.cells 0 _ rfl; simp at hsz3; have r3 := (r1.below ((Below.refl _ _).alloc (Nat.le_refl _) _)).keep hk3 (by omega) (by omega); have k3 : Kept w w3 (fun k => k = rb ∨ k = w1.heap.size) := (kept_or k1).trans ((Kept.alloc w1 _ _).trans (kept_or2 hk3) (fun _ _ h => h)) (fun _ _ h => h); have hZ3 := (hk3.block w.heap.size (by simp; omega) (by omega)).trans ((Below.heap_alloc w1 _ w.heap.size (by omega)).trans hZ1); clear hk3 r1 k1 hZ1)
    | (go_at_call 52; refine (hb1 _ r3).mono ?_; clear hb1; rintro r w4 ⟨rfl, hto4⟩; have s4 := hto4.kept.size; have hm4 := hm3.keep hto4.kept (by omega); have c1 := hm4.cells 1 _ rfl; have z1 := frozen_at hm4 1 (by omega); have hm5 := hm4.set (m' := { zeroM with kind := (x0.toNat : Int), frm := (x1.toNat : Int) }) (ro' := none) (lo' := none) (rc' := 0) (lc' := 0) 1 (.int .i64 (x1.toNat : Int)) (by omega) rfl; have r5 := hto4.rd.keep (Kept.setCell w4 ⟨w1.heap.size, 1, none⟩ (.int .i64 (x1.toNat : Int))) (by simp; omega) (by simp; omega); have k5 := (k3.trans (kept_or hto4.kept) (fun _ _ h => h)).trans (kept_or2 (Kept.setCell w4 ⟨w1.heap.size, 1, none⟩ (.int .i64 (x1.toNat : Int)))) (fun _ _ h => h); have hZ5 := (heap_setCell_other w4 ⟨w1.heap.size, 1, none⟩ w.heap.size (.int .i64 (x1.toNat : Int)) (by simp; omega)).trans ((hto4.kept.block w.heap.size (by omega) (by omega)).trans hZ3); clear hto4 hm3 hm4 k3 r3 hZ3 c0)
    | (go_at_call 52; refine (hb2 _ r5).mono ?_; clear hb2; rintro r w6 ⟨rfl, hto6⟩; have s6 := hto6.kept.size; simp at s6; have hm6 := hm5.keep hto6.kept (by omega); have c2 := hm6.cells 2 _ rfl; have z2 := frozen_at hm6 2 (by omega); have hm7 := hm6.set (m' := { zeroM with kind := (x0.toNat : Int), frm := (x1.toNat : Int), to := (x2.toNat : Int) }) (ro' := none) (lo' := none) (rc' := 0) (lc' := 0) 2 (.int .i64 (x2.toNat : Int)) (by omega) rfl; have c7 := hm7.cells 0 _ rfl; have r7 := hto6.rd.keep (Kept.setCell w6 ⟨w1.heap.size, 2, none⟩ (.int .i64 (x2.toNat : Int))) (by simp; omega) (by simp; omega); have k7 := (k5.trans (kept_or hto6.kept) (fun _ _ h => h)).trans (kept_or2 (Kept.setCell w6 ⟨w1.heap.size, 2, none⟩ (.int .i64 (x2.toNat : Int)))) (fun _ _ h => h); have hZ7 := (heap_setCell_other w6 ⟨w1.heap.size, 2, none⟩ w.heap.size (.int .i64 (x2.toNat : Int)) (by simp; omega)).trans ((hto6.kept.block w.heap.size (by simp; omega) (by omega)).trans hZ5); clear hto6 hm5 hm6 k5 r5 hZ5 c1 z1)
    | (go_at_call 24; refine (hfo _).mono ?_; rintro r w8 ⟨rfl, rfl⟩))
  have hm8 := MR.start hm7 rfl rfl
  generalize hW7 : w6.setCell ⟨w1.heap.size, 2, none⟩ (.int .i64 (x2.toNat : Int)) = w7 at *
  clear hm7 hfo hW7 c2 z2 c7
  generalize hMB : w1.heap.size = mb at *
  go_loopw [5] (fun f wr => ∃ j : Nat, j ≤ 15 ∧ f = .int .u64 ((2 ^ j : Nat) : Int) ∧ RM w wr rb g mb L (rFs L j (rHead L p e)) ∧ wr.heap[w.heap.size]? = some (.cells zeroCells 28 (0, 0))) (fun f _ => 65536 - (intOf f).toNat)
  case atStart => exact ⟨0, by omega, rfl, ⟨by show RD _ _ _ _ (rHead L p e).2.1 (rHead L p e).2.2; rw [HH.out]; exact r7, ⟨none, none, 0, 0, by show MR _ _ (rHead L p e).1 _ _ _ _; rw [HH.out]; exact hm8⟩, k7⟩, hZ7⟩
  case round =>
    obtain ⟨j, hj, rfl, hrm, hzr⟩ := hrel
    clear r7 hm8 k7 hZ7
    have hzs : w.heap.size < wr.heap.size := (Array.getElem?_eq_some_iff.1 hzr).1
    by_cases hlt : j < 15
    · obtain ⟨hF, _, hF2⟩ := fld_pow hlt
      have HS : Hid (rFs L (j + 1) (rHead L p e) = if hs &&& 2 ^ j = 0 then rFs L j (rHead L p e) else rF L (rFs L j (rHead L p e)).1 (2 ^ j) (rFs L j (rHead L p e)).2.1 (rFs L j (rHead L p e)).2.2) := by
        show _ = _
        rw [rFs_step L j _ hlt]
        unfold rStep
        rw [HHS.out j hj]
      have hand : bits .and .u64 (hs : Int) ((2 ^ j : Nat) : Int) = ((hs &&& 2 ^ j : Nat) : Int) := u64_and_nat _ _ (by omega) (by omega)
      have HP : Hid (2 ^ (j + 1) = 2 * 2 ^ j) := by show _ = _; rw [Nat.pow_succ]; omega
      have hpos : 0 < 2 ^ j := Nat.pow_pos (by omega)
      generalize rFs L j (rHead L p e) = X at *
      obtain ⟨ro, lo, rc, lc, hmr⟩ := hrm.mr
      have hrd := read_any wr rb g mb L X.2.1 X.2.2 X.1 ro lo rc lc (2 ^ j) hF (by omega) hrm.rd hmr
      generalize rF L X.1 (2 ^ j) X.2.1 X.2.2 = Y at *
      generalize hs &&& 2 ^ j = A at *
      generalize 2 ^ j = F at *
      clear hF
      by_cases hA : A = 0
      · subst hA
        have hA1 : (((0 : Nat) : Int) != 0) = false := rfl
        go_wp2
        go_roundw
        case rel => exact ⟨j + 1, by omega, by rw [HP.out]; exact congrArg _ (by omega), by rw [HS.out]; exact hrm, hzr⟩
        case measure => simp [intOf]; omega
      · have hA1 : ((A : Int) != 0) = true := by simpa using hA
        go_wp2_with (go_at_call 53; refine hrd.mono ?_; rintro r w9 ⟨rfl, hrm9⟩)
        go_roundw
        case rel => exact ⟨j + 1, by omega, by rw [HP.out]; exact congrArg _ (by omega), by rw [HS.out, if_neg hA]; exact ⟨hrm9.rd, hrm9.mr, hrm.kept.trans hrm9.kept (fun _ _ h => h)⟩, (hrm9.kept.block w.heap.size hzs (by omega)).trans hzr⟩
        case measure => simp [intOf]; omega
    · have hj15 : j = 15 := by omega
      subst hj15
      clear HHS
      generalize hX : rFs L 15 (rHead L p e) = X at *
      have HX : Hid (rFs L 15 (rHead L p e) = X) := hX
      clear hX
      obtain ⟨ro, lo, rc, lc, hmr⟩ := hrm.mr
      have hmx := hmr.at_
      go_wp2_with (first
        | (refine load_mat _ rfl (by rfl) _ rfl X.1 ro lo rc lc hmx ?_)
        | (refine store_msg _ _ rfl rfl w.heap.size rfl X.1 ro lo rc lc rfl hzs (there_row (cs := zeroCells) hzr (Nat.le_refl 19)) ?_; intro w9 hm9 hk9 hsz9))
      (try simp only [Exit.inBlock, Exit.then])
      rw [HX.out]
      refine bodyPost_ret (res_msg1 rfl _ rfl hm9) rfl ⟨ro, lo, rc, lc, rfl, ?_, ?_, hrm.rd.keep hk9 (by omega) (by omega), ?_⟩
      · rcases hmr.refs.keep hk9 (fun k hk e => by omega) with h1 | ⟨k, h1, h2, h3, h4⟩
        · exact Or.inl h1
        · exact Or.inr ⟨k, h1, h2, by omega, h4⟩
      · rcases hmr.list.keep hk9 (fun k hk e => by omega) with h1 | ⟨k, h1, h2, h3, h4⟩
        · exact Or.inl h1
        · exact Or.inr ⟨k, h1, h2, by omega, h4⟩
      · exact (hrm.kept.trans (hk9.mono (S' := fun k => k = w.heap.size ∨ k = mb ∨ k = rb) (fun _ _ e => Or.inl e)) (fun i hi e => by omega)).mono (fun i hi e => by omega)

theorem rb_zero {L : List UInt8} {p e : Nat} : (rByte L p e 11).1 = 0 ∨ (rByte L p e 11).1 ≠ 0 := Nat.eq_zero_or_pos _ |>.imp id (fun h => by omega)

theorem readAll_any (w : World) (rb g : Nat) (L : List UInt8) (p e : Nat) (h : RD w rb g L p e) :
    Calls Try.prog 31 #[.pointer (some ⟨rb, 0, none⟩)] w fun r w' => ∃ ro lo rc lc, r = .returned ((rAll L p e).1.v ro lo rc lc) ∧ RowI w' ro rc (rAll L p e).1.refs w.heap.size ∧ RowU w' lo lc (rAll L p e).1.list w.heap.size ∧ RTo w w' rb g L (rAll L p e).2.1 (rAll L p e).2.2 := by
  unfold rAll
  rcases rb_zero (L := L) (p := p) (e := e) with hk | hk
  · rw [if_pos hk]
    refine (readAll_none w rb g L p e h hk).mono ?_
    rintro r w' ⟨rfl, hto⟩
    exact ⟨none, none, 0, 0, rfl, Or.inl ⟨rfl, rfl, rfl⟩, Or.inl ⟨rfl, rfl, rfl⟩, hto⟩
  · rw [if_neg hk]
    exact readAll_some w rb g L p e h hk

end Go.Proofs.Ytiepbjgcghedeab
