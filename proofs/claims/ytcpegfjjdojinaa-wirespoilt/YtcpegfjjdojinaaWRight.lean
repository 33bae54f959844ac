/- Whether a message may be: the walk of Right. -/
import Derived.Test.YtcpegfjjdojinaaWFitF
import Derived.Laws.BitsAllLaws
namespace Go.Proofs.Ytcpegfjjdojinaa
open Go.RowKit

def flds : List Nat := [1, 2, 4, 8, 16, 32, 64, 128, 256, 512, 1024, 2048, 4096, 8192, 16384]
/-- A field is as it may be, if the Kind has it, and zero else. -/
def okF (m : Msg) (f : Nat) : Bool := if hasF m.kind &&& f = 0 then zeroB m f else fitsB m f
def rightB (m : Msg) : Bool := !(hasF m.kind == 0) && isNodeB m.frm && isNodeB m.to && !(m.frm == m.to) && flds.all (okF m)

theorem hasF_lt (k : Int) : hasF k < 32768 := by unfold hasF; (repeat' split) <;> decide
theorem fld_pow {j : Nat} (h : j < 15) : Fld (2 ^ j) ∧ flds[j]? = some (2 ^ j) ∧ 2 ^ j ≤ 16384 := by
  have : ∀ j, j < 15 → (flds[j]? = some (2 ^ j) ∧ 2 ^ j ≤ 16384) ∧ (2 ^ j = 1 ∨ 2 ^ j = 2 ∨ 2 ^ j = 4 ∨ 2 ^ j = 8 ∨ 2 ^ j = 16 ∨ 2 ^ j = 32 ∨ 2 ^ j = 64 ∨ 2 ^ j = 128 ∨ 2 ^ j = 256 ∨ 2 ^ j = 512 ∨ 2 ^ j = 1024 ∨ 2 ^ j = 2048 ∨ 2 ^ j = 4096 ∨ 2 ^ j = 8192 ∨ 2 ^ j = 16384) := by decide
  exact ⟨(this j h).2, (this j h).1.1, (this j h).1.2⟩
theorem flds_step {m : Msg} {j : Nat} (h : j < 15) : (flds.drop j).all (okF m) = (okF m (2 ^ j) && (flds.drop (j + 1)).all (okF m)) := by
  have h1 := (fld_pow h).2.1
  obtain ⟨h2, h3⟩ := List.getElem?_eq_some_iff.1 h1
  rw [List.drop_eq_getElem_cons h2, h3, List.all_cons]

theorem shl_one (F : Nat) (h : F ≤ 16384) : IntKind.u64.wrap ((F : Int) * 2 ^ 1) = ((2 * F : Nat) : Int) := by
  rw [wrap_u64, u64]
  omega

set_option maxRecDepth 20000 in
set_option maxHeartbeats 4000000 in
theorem right_loop (m : Msg) (ro lo : Option Addr) (rc lc : Nat) (w : World) (hr : IDs w ro m.refs) (hlr : m.refs.length ≤ 140737488355328) (hl : Us w lo m.list) (hll : m.list.length ≤ 140737488355328)
    (h0 : ((hasF m.kind : Int) == 0) = false) (h1 : isNodeB m.frm = true) (h2 : isNodeB m.to = true) (h3 : (m.frm == m.to) = false) :
    Calls Try.prog 13 #[m.v ro lo rc lc] w fun e w' => e = .returned (.bool (flds.all (okF m))) ∧ Below w.heap.size w w' := by
  have hfo := fun w => fieldsOf_any m.kind w
  have hn1 := fun w => isNode_any m.frm w
  have hn2 := fun w => isNode_any m.to w
  change ∀ w, Calls _ _ _ w fun e w' => e = .returned (.bool (isNodeB m.frm)) ∧ w = w' at hn1
  change ∀ w, Calls _ _ _ w fun e w' => e = .returned (.bool (isNodeB m.to)) ∧ w = w' at hn2
  rw [h1] at hn1
  rw [h2] at hn2
  clear h1 h2
  have hhl := hasF_lt m.kind
  have HOK : Hid (∀ f, okF m f = if hasF m.kind &&& f = 0 then zeroB m f else fitsB m f) := fun _ => rfl
  generalize hasF m.kind = hs at *
  have hbox := MBox.new w m ro lo rc lc
  have hb0 : Below w.heap.size w (w.alloc (.cells #[.int .i64 m.kind, .int .i64 m.frm, .int .i64 m.to, .int .u64 (m.call : Int), .int .u64 (m.floor : Int), .int .i64 m.op, .int .i64 m.fld, .int .i64 m.item,
    .int .i64 m.tn, .int .u64 (m.ts : Int), .slice ro m.refs.length rc, .int .u64 (m.val : Int), .int .i64 m.code, .int .u64 (m.seq : Int), .int .i64 m.vou, .int .u64 (m.at_ : Int), .int .i64 m.dist, .int .u64 (m.stamp : Int), .slice lo m.list.length lc] 28)) := (Below.refl _ _).alloc (Nat.le_refl _) _
  go_enter Try.func13, Try.ntmps13
  go_wp2_with (first
    | (go_at_call 22; refine (hfo _).mono ?_; rintro e w1 ⟨rfl, rfl⟩)
    | (go_at_call 32; refine (hn1 _).mono ?_; rintro e w2 ⟨rfl, rfl⟩)
    | (go_at_call 32; refine (hn2 _).mono ?_; rintro e w2 ⟨rfl, rfl⟩))
  go_loopw [4] (fun f wr => ∃ j : Nat, j ≤ 15 ∧ f = .int .u64 ((2 ^ j : Nat) : Int) ∧ (flds.drop j).all (okF m) = flds.all (okF m) ∧ MBox wr w.heap.size m ro lo rc lc ∧ Below w.heap.size w wr) (fun f _ => 65536 - (intOf f).toNat)
  case atStart => exact ⟨0, by omega, rfl, rfl, hbox, hb0⟩
  case round =>
    obtain ⟨j, hj, rfl, hall, hbx, hbr⟩ := hrel
    by_cases hlt : j < 15
    · obtain ⟨hF, _, hF2⟩ := fld_pow hlt
      rw [flds_step hlt, HOK.out] at hall
      have hpow : 2 ^ (j + 1) = 2 * 2 ^ j := by rw [Nat.pow_succ]; omega
      have hand : bits .and .u64 (hs : Int) ((2 ^ j : Nat) : Int) = ((hs &&& 2 ^ j : Nat) : Int) := u64_and_nat _ _ (by omega) (by omega)
      have hz := fun w => isZero_any m _ hF ro lo rc lc w
      have hft := fun w h1 h2 => fits_any m _ hF ro lo rc lc w h1 hlr h2 hll
      have hpos : 0 < 2 ^ j := Nat.pow_pos (by omega)
      generalize hs &&& 2 ^ j = A at *
      generalize zeroB m (2 ^ j) = Z at *
      generalize fitsB m (2 ^ j) = T at *
      have hsh := shl_one _ hF2
      have HA : Hid (((if A = 0 then Z else T) && (flds.drop (j + 1)).all (okF m)) = flds.all (okF m)) := hall
      have HP : Hid (2 ^ (j + 1) = 2 * 2 ^ j) := hpow
      clear hpow hall HOK hfo hn1 hn2 hbox hb0 hF
      have HR : Hid (IDs wr ro m.refs) := hr.below hbr
      have HU : Hid (Us wr lo m.list) := hl.below hbr
      clear hr hl
      generalize 2 ^ j = F at *
      by_cases hA : A = 0
      · subst hA
        cases Z
        · go_wp2_with (first
            | (refine load_msg _ rfl (by rfl) _ rfl m ro lo rc lc hbx ?_)
            | (go_at_call 33; refine (hz _).mono ?_; rintro e w2 ⟨rfl, hb2⟩))
          go_ret
          exact ⟨congrArg (fun x => Ending.returned (.bool x)) (by rw [← HA.out]; rfl), hbr.trans (hb2.mono hbr.size)⟩
        · go_wp2_with (first
            | (refine load_msg _ rfl (by rfl) _ rfl m ro lo rc lc hbx ?_)
            | (go_at_call 33; refine (hz _).mono ?_; rintro e w2 ⟨rfl, hb2⟩))
          go_roundw
          case rel => exact ⟨j + 1, by omega, by rw [HP.out]; exact congrArg _ (by omega), by rw [← HA.out]; rfl, hbx.below hb2 (Array.getElem?_eq_some_iff.1 hbx).1, hbr.trans (hb2.mono hbr.size)⟩
          case measure => simp [intOf]; omega
      · have hA0 : ((A : Int) == 0) = false := beq_eq_false_iff_ne.2 (by omega)
        have hA1 : ((A : Int) != 0) = true := by simpa using hA
        rw [if_neg hA] at HA
        cases T
        · go_wp2_with (first
            | (refine load_msg _ rfl (by rfl) _ rfl m ro lo rc lc hbx ?_)
            | (go_at_call 34; refine (hft _ HR.out HU.out).mono ?_; rintro e w2 ⟨rfl, hb2⟩))
          go_ret
          exact ⟨congrArg (fun x => Ending.returned (.bool x)) (by rw [← HA.out]; rfl), hbr.trans (hb2.mono hbr.size)⟩
        · go_wp2_with (first
            | (refine load_msg _ rfl (by rfl) _ rfl m ro lo rc lc hbx ?_)
            | (go_at_call 34; refine (hft _ HR.out HU.out).mono ?_; rintro e w2 ⟨rfl, hb2⟩))
          go_roundw
          case rel => exact ⟨j + 1, by omega, by rw [HP.out]; exact congrArg _ (by omega), by rw [← HA.out]; rfl, hbx.below hb2 (Array.getElem?_eq_some_iff.1 hbx).1, hbr.trans (hb2.mono hbr.size)⟩
          case measure => simp [intOf]; omega
    · have hj15 : j = 15 := by omega
      subst hj15
      go_wp2
      go_ret
      exact ⟨congrArg (fun x => Ending.returned (.bool x)) (by rw [← hall]; rfl), hbr⟩

set_option maxRecDepth 20000 in
set_option maxHeartbeats 4000000 in
theorem right_no (m : Msg) (ro lo : Option Addr) (rc lc : Nat) (w : World) (p1 p2 p3 : Bool) (hp1 : isNodeB m.frm = p1) (hp2 : isNodeB m.to = p2) (hp3 : (m.frm == m.to) = p3) (h : hasF m.kind = 0 ∨ (¬ hasF m.kind = 0 ∧ (p1 && p2 && !p3) = false)) :
    Calls Try.prog 13 #[m.v ro lo rc lc] w fun e w' => e = .returned (.bool false) ∧ Below w.heap.size w w' := by
  have hfo := fun w => fieldsOf_any m.kind w
  have hn1 := fun w => isNode_any m.frm w
  have hn2 := fun w => isNode_any m.to w
  change ∀ w, Calls _ _ _ w fun e w' => e = .returned (.bool (isNodeB m.frm)) ∧ w = w' at hn1
  change ∀ w, Calls _ _ _ w fun e w' => e = .returned (.bool (isNodeB m.to)) ∧ w = w' at hn2
  rw [hp1] at hn1
  rw [hp2] at hn2
  clear hp1 hp2
  rcases h with h | ⟨h, hc⟩
  · rw [h] at hfo
    clear h
    go_enter Try.func13, Try.ntmps13
    go_wp2_with (go_at_call 22; refine (hfo _).mono ?_; rintro e w1 ⟨rfl, rfl⟩)
    go_ret
    exact ⟨rfl, (Below.refl _ _).alloc (Nat.le_refl _) _⟩
  · generalize hasF m.kind = hs at *
    have hA0 : ((hs : Int) == 0) = false := beq_eq_false_iff_ne.2 (by omega)
    clear h
    cases p1
    · go_enter Try.func13, Try.ntmps13
      go_wp2_with (first
        | (go_at_call 22; refine (hfo _).mono ?_; rintro e w1 ⟨rfl, rfl⟩)
        | (go_at_call 32; refine (hn1 _).mono ?_; rintro e w2 ⟨rfl, rfl⟩))
      go_ret
      exact ⟨rfl, (Below.refl _ _).alloc (Nat.le_refl _) _⟩
    · cases p2
      · go_enter Try.func13, Try.ntmps13
        go_wp2_with (first
          | (go_at_call 22; refine (hfo _).mono ?_; rintro e w1 ⟨rfl, rfl⟩)
          | (go_at_call 32; refine (hn1 _).mono ?_; rintro e w2 ⟨rfl, rfl⟩)
          | (go_at_call 32; refine (hn2 _).mono ?_; rintro e w2 ⟨rfl, rfl⟩))
        go_ret
        exact ⟨rfl, (Below.refl _ _).alloc (Nat.le_refl _) _⟩
      · have h3 : p3 = true := by simpa using hc
        subst h3
        go_enter Try.func13, Try.ntmps13
        go_wp2_with (first
          | (go_at_call 22; refine (hfo _).mono ?_; rintro e w1 ⟨rfl, rfl⟩)
          | (go_at_call 32; refine (hn1 _).mono ?_; rintro e w2 ⟨rfl, rfl⟩)
          | (go_at_call 32; refine (hn2 _).mono ?_; rintro e w2 ⟨rfl, rfl⟩))
        go_ret
        exact ⟨rfl, (Below.refl _ _).alloc (Nat.le_refl _) _⟩

theorem right_any (m : Msg) (ro lo : Option Addr) (rc lc : Nat) (w : World) (hr : IDs w ro m.refs) (hlr : m.refs.length ≤ 140737488355328) (hl : Us w lo m.list) (hll : m.list.length ≤ 140737488355328) :
    Calls Try.prog 13 #[m.v ro lo rc lc] w fun e w' => e = .returned (.bool (rightB m)) ∧ Below w.heap.size w w' := by
  by_cases h0 : hasF m.kind = 0
  · rw [show rightB m = false by simp [rightB, h0]]
    exact right_no m ro lo rc lc w _ _ _ rfl rfl rfl (Or.inl h0)
  · cases hc : (isNodeB m.frm && isNodeB m.to && !(m.frm == m.to)) with
    | false =>
      rw [show rightB m = false by
        have : rightB m = (!(hasF m.kind == 0) && (isNodeB m.frm && isNodeB m.to && !(m.frm == m.to)) && flds.all (okF m)) := by simp only [rightB, Bool.and_assoc]
        rw [this, hc]; simp]
      exact right_no m ro lo rc lc w _ _ _ rfl rfl rfl (Or.inr ⟨h0, hc⟩)
    | true =>
      have hc' := hc
      simp only [Bool.and_eq_true, Bool.not_eq_true'] at hc'
      rw [show rightB m = flds.all (okF m) by simp [rightB, h0, hc'.1.1, hc'.1.2, hc'.2]]
      exact right_loop m ro lo rc lc w hr hlr hl hll (beq_eq_false_iff_ne.2 (by omega)) hc'.1.1 hc'.1.2 hc'.2

end Go.Proofs.Ytcpegfjjdojinaa
