import Derived.Test.YtcpegfjjdojinaaWalkE
import Derived.Test.YtcpegfjjdojinaaBase
import Derived.Deep.RegionHeldLaw
import Derived.Test.YtcpegfjjdojinaaRSmall
import Derived.Test.YtcpegfjjdojinaaWLay
import Derived.Deep.RegionLaw
/- The plain Num: its walk. -/
/- An append inside a region that draws its order. -/
/- What the plain body lays, field by field: the walks of laid's calls. -/
/- What the plain body lays, field by field: laid.one, laid.id. -/
namespace Go.Proofs.Ytcpegfjjdojinaa
open Go.RowKit

theorem Bs.one' (w : World) (x : UInt8) (t : TypeId) (z : Int) (hz : z = (x.toNat : Int)) : Bs (w.alloc (.cells #[.int .u8 z] t)) (.slice (some ⟨w.heap.size, 0, none⟩) 1 1) [x] := by
  subst hz
  exact Bs.one w x t

set_option maxRecDepth 20000 in
set_option maxHeartbeats 1000000 in
theorem refNum_any (N : Nat) (hN : N < 18446744073709551616) (w : World) :
    Calls Try.prog 70 #[.int .u64 (N : Int)] w fun e w' => ∃ v, e = .returned v ∧ w'.ownsRow w.heap.size 5 1 v (numB N).length ((numB N).map bv) ∧ Below w.heap.size w w' := by
  obtain ⟨i, hi, hz0, hz1, hz2⟩ := info_parts Try.infoByte
  go_enter Try.func70, Try.ntmps70
  go_wp2
  go_loopw [0, 3] (fun n out wr => ∃ (m f : Nat) (pre : List UInt8), n = .int .u64 (m : Int) ∧ m < 18446744073709551616 ∧ m < 128 ^ (f + 1) ∧ pre ++ numF f m = numB N ∧ wr.ownsRow w.heap.size 5 1 out pre.length (pre.map bv) ∧ Below w.heap.size w wr) (fun n _ _ => (intOf n).toNat)
  case atStart => exact ⟨N, 9, [], rfl, hN, by omega, rfl, World.ownsRow_nil _ _ _ _, Below.refl _ _⟩
  case round =>
    obtain ⟨m, f, pre, rfl, hm, hmf, hpre, hown, hbr⟩ := hrel
    have hzr := hbr.size
    have hlen : pre.length < 100 := by
      have h1 := length_numB N
      have h3 := congrArg List.length hpre
      simp only [List.length_append] at h3
      omega
    obtain ⟨ao, n0, c0, hv⟩ := own_form hown
    subst hv
    by_cases hlt : m < 128
    · have HP : Hid (pre ++ numF f m = numB N) := hpre
      have HM : Hid (m < 128 ^ (f + 1)) := hmf
      clear hpre hmf
      go_wp2_with (at_builtin; refine wpList_append_bs rfl (.tmp 15) (.tmp 18) 29 rfl w.heap.size 5 i Try.underlying29 hi hz0 hz1 hz2 (.slice ao n0 c0) pre.length pre rfl rfl (hown.alloc _) _ rfl [UInt8.ofNat m] (Bs.one' wr (UInt8.ofNat m) _ _ (byte_last m hlt)) ((by simp; omega)) ((by simp; omega)) ?_; intro v2 w2 hown2 hk2 hmv2)
      go_ret
      have e := HP.out
      rw [numF_last f m hlt] at e
      rw [e] at hown2
      refine ⟨v2, rfl, hown2, hbr.trans (((Below.refl _ _).alloc hzr _).trans (own_below (hown.alloc _) hk2 (by simp; omega)))⟩
    · obtain ⟨f, rfl⟩ : ∃ f', f = f' + 1 := by
        cases f with
        | zero => omega
        | succ f => exact ⟨f, rfl⟩
      have HP : Hid (pre ++ numF (f + 1) m = numB N) := hpre
      have HM : Hid (m < 128 ^ (f + 1 + 1)) := hmf
      clear hpre hmf
      go_wp2_with (at_builtin; refine wpList_append_bs rfl (.tmp 6) (.tmp 11) 29 rfl w.heap.size 5 i Try.underlying29 hi hz0 hz1 hz2 (.slice ao n0 c0) pre.length pre rfl rfl (hown.alloc _) _ rfl [UInt8.ofNat (m % 128 + 128)] (Bs.one' wr (UInt8.ofNat (m % 128 + 128)) _ _ (byte_more m)) ((by simp; omega)) ((by simp; omega)) ?_; intro v2 w2 hown2 hk2 hmv2)
      go_roundw
      case rel =>
        refine ⟨m / 128, f, pre ++ [UInt8.ofNat (m % 128 + 128)], by go_num, by omega, ?_, ?_, hown2, hbr.trans (((Below.refl _ _).alloc hzr _).trans (own_below (hown.alloc _) hk2 (by simp; omega)))⟩
        · have := HM.out
          rw [Nat.pow_succ] at this
          omega
        · have e := HP.out
          rw [numF_more f m hlt] at e
          rw [← e, List.append_assoc]; rfl
      case measure => simp [intOf]; omega

end Go.Proofs.Ytcpegfjjdojinaa

namespace Go.Proofs.Ytcpegfjjdojinaa
open Go.RowKit

/-- The same as one step of a region that draws its order. -/
theorem step_append_bs {P : Program} {w : World} {ops : Array Oper} {o : Oper} {a : Act} {K : Act → World → Prop} {Q : Exit → Act → World → Prop} {E : Prop} (hgd : o.guard = none) (s x : Operand) (t : TypeId)
    (ho : o.op = .call { callee := .builtin .append, args := #[s, x], argTypes := #[t, t] })
    (base : Nat) (e : TypeId) (i : TypeInfo) (ht : P.underlying t = some (.slice e)) (hi : P.info? e = some i) (hz : i.zero = some (.int .u8 0)) (hsize : i.size = 1) (hby : i.bytes = 1)
    (v : Value) (n : Nat) (l : List UInt8) (hs : a.eval s = v) (hn : n = l.length) (hown : w.ownsRow base e 1 v n (l.map bv))
    (sv : Value) (hx : a.eval x = sv) (m : List UInt8) (hsv : Bs w sv m) (hlen : n + m.length ≤ 140737488355328) (hbase : base ≤ w.heap.size)
    (h : ∀ v' w', w'.ownsRow base e 1 v' (l ++ m).length ((l ++ m).map bv) → Kept w w' (fun k => v.ownBlock = some k) → Moved w v v' → K (a.put o.dst v') w') :
    if Region.wanted o (yielded ops a.tmps) = true then Oper.wp P o a w K Q else E := by
  have hw : Region.wanted o (yielded ops a.tmps) = true := by simp [Region.wanted, hgd]
  rw [if_pos hw]
  subst hn
  obtain ⟨ao, cap, rfl, hc, hxx⟩ := hsv
  cases ao with
  | none =>
    have hm : m.length = 0 := by have := hc.2 rfl; omega
    have hm' : m = [] := List.eq_nil_of_length_eq_zero hm
    subst hm'
    have h0 : cap = 0 := hc.2 rfl
    subst h0
    have hr := run_append_owned_none (P := P) (w := w) base t o.type e i 1 ht hi v l.length (l.map bv) hown
    unfold Oper.wp
    simp [execOp, ho, resolve, invoke, builtin, hs, hx, hr, Result.andThen]
    exact h v w (by simpa using hown) (Kept.refl _ _) (Moved.refl _ _)
  | some ad =>
    obtain ⟨v', w', hr, h1, h2, _, h4⟩ := run_append_own_at (P := P) w base t o.type e i (.int .u8 0) 1 1 ht hi hz hsize hby rfl (by decide) v l.length (l.map bv) hown ad m.length cap (m.map bv) (by simp) (by
      intro j u hu
      have hne : m ≠ [] := by intro e; subst e; simp at hu
      obtain ⟨b, off, e, _, hseg⟩ := hxx hne
      cases e
      exact hseg.src j u hu) (bv_oneCell m) (by unfold maxLen; omega) (by omega) hbase
    unfold Oper.wp execOp
    simp only [ho, resolve, invoke, builtin, Sem.run_bind, Sem.run_pure, Result.andThen_ok, List.map_toArray, List.map_cons, List.map_nil, hs, hx, hr]
    refine h v' w' (by simpa using h1) (Kept.grown h2) ?_
    intro k hk
    rcases h4 with h4 | h4
    · exact Or.inl (h4 ▸ hk)
    · rw [h4] at hk
      simp only [Option.some.injEq] at hk
      exact Or.inr (by omega)

end Go.Proofs.Ytcpegfjjdojinaa

namespace Go.Proofs.Ytcpegfjjdojinaa
open Go.RowKit

/-- What was laid so far lies in block b: its kind, and its bytes in a row of their own, from block g on. -/
structure LD (w : World) (b : Nat) (k : Int) (v : Value) (l : List UInt8) (g : Nat) : Prop where
  box : w.heap[b]? = some (.cells #[.int .i64 k, v] 92 (0, 0))
  own : w.ownsRow g 5 1 v l.length (l.map bv)
  le : g ≤ b
  ne : v.ownBlock ≠ some b

section
variable {w w' : World} {b : Nat} {k : Int} {v : Value} {l : List UInt8} {g : Nat}
theorem LD.size (h : LD w b k v l g) : b < w.heap.size := (Array.getElem?_eq_some_iff.1 h.box).1
theorem LD.c0 (h : LD w b k v l g) : w.cell? ⟨b, 0, none⟩ = some (.int .i64 k) := by rw [cell_of_row w b 0 _ _ _ h.box]; rfl
theorem LD.c1 (h : LD w b k v l g) : w.cell? ⟨b, 1, none⟩ = some v := by rw [cell_of_row w b 1 _ _ _ h.box]; rfl
theorem LD.below (h : LD w b k v l g) (hb : Below w.heap.size w w') : LD w' b k v l g :=
  ⟨(hb.block b h.size).trans h.box, ownsRow_later h.own hb, h.le, h.ne⟩
where
  ownsRow_later {w w' : World} {v : Value} {n : Nat} {xs : List Value} {g : Nat} (h : w.ownsRow g 5 1 v n xs) (hb : Below w.heap.size w w') : w'.ownsRow g 5 1 v n xs := by
    obtain ⟨h0, h1 | ⟨q, cap, cur, h1, h2, h3, h4⟩⟩ := h
    · exact ⟨h0, Or.inl h1⟩
    · exact ⟨h0, Or.inr ⟨q, cap, cur, h1, h2, (hb.block q (Array.getElem?_eq_some_iff.1 h3).1).trans h3, h4⟩⟩
/-- The bytes are stored. -/
theorem LD.stored {w2 w3 : World} {v2 : Value} {l2 : List UInt8} (h : LD w2 b k v l g) (hown : w3.ownsRow g 5 1 v2 l2.length (l2.map bv)) (hk : Kept w2 w3 (fun x => v.ownBlock = some x)) (hm : Moved w2 v v2) :
    LD (w3.setCell ⟨b, 1, none⟩ v2) b k v2 l2 g ∧ Below g w2 (w3.setCell ⟨b, 1, none⟩ v2) := by
  have hb3 := (hk.block b h.size h.ne).trans h.box
  have hne : v2.ownBlock ≠ some b := by
    intro e
    rcases hm b e with h1 | h1
    · exact h.ne h1
    · have := h.size; omega
  refine ⟨⟨?_, ?_, h.le, hne⟩, ?_⟩
  · rw [heap_setCell_same w3 b 1 _ _ _ hb3]; rfl
  · obtain ⟨h0, h1 | ⟨q, cap, cur, h1, h2, h3, h4⟩⟩ := hown
    · exact ⟨h0, Or.inl h1⟩
    · have hqb : q ≠ b := by intro e; subst e; rw [h1] at hne; exact hne rfl
      exact ⟨h0, Or.inr ⟨q, cap, cur, h1, h2, (heap_setCell_other w3 ⟨b, 1, none⟩ q v2 hqb).trans h3, h4⟩⟩
  · exact (hk.below (Nat.le_trans h.le (Nat.le_of_lt h.size)) (fun i hi e => by have := h.own.lt i e; omega)).setCell h.le _
end

theorem ld_form {w : World} {b : Nat} {k : Int} {v : Value} {l : List UInt8} {g : Nat} (h : LD w b k v l g) : ∃ ao n c, v = .slice ao n c := own_form h.own

set_option maxRecDepth 20000 in
set_option maxHeartbeats 4000000 in
theorem lnum_no (w : World) (b : Nat) (k : Int) (v : Value) (l : List UInt8) (g f n : Nat) (W : List UInt8) (hf : Fld f) (hw : wordOf f = W) (hp : hasB k f = false) (hld : LD w b k v l g) :
    Calls Try.prog 67 #[.pointer (some ⟨b, 0, none⟩), sv W, .int .u64 (n : Int)] w fun e w' => e = .returned (.tuple #[]) ∧ LD w' b k v l g ∧ Below g w w' := by
  have c0 := hld.c0
  have hs := hld.size
  have hle := hld.le
  have hh := fun w => rhas_any k f hf W hw w
  rw [hp] at hh
  go_enter Try.func67, Try.ntmps67
  go_wp2_with (go_at_call 38; refine (hh _).mono ?_; rintro e w1 ⟨rfl, hb1⟩)
  go_end0
  exact ⟨rfl, hld.below hb1, hb1.mono (by omega)⟩

set_option maxRecDepth 20000 in
set_option maxHeartbeats 4000000 in
theorem lnum_yes (w : World) (b : Nat) (k : Int) (v : Value) (l : List UInt8) (g f n : Nat) (W : List UInt8) (hf : Fld f) (hw : wordOf f = W) (hn : n < 18446744073709551616) (hp : hasB k f = true) (hld : LD w b k v l g) (hl : l.length + 10 ≤ 140737488355328) :
    Calls Try.prog 67 #[.pointer (some ⟨b, 0, none⟩), sv W, .int .u64 (n : Int)] w fun e w' => e = .returned (.tuple #[]) ∧ ∃ v', LD w' b k v' (l ++ numB n) g ∧ Below g w w' := by
  have c0 := hld.c0
  have hs := hld.size
  have hle := hld.le
  have hh := fun w => rhas_any k f hf W hw w
  rw [hp] at hh
  have hnl := numB_len n
  obtain ⟨i, hi, hz0, hz1, hz2⟩ := info_parts Try.infoByte
  obtain ⟨ao, n0, c, hv⟩ := ld_form hld
  subst hv
  go_enter Try.func67, Try.ntmps67
  go_wp2_with (go_at_call 38; refine (hh _).mono ?_; rintro e w1 ⟨rfl, hb1⟩)
  have h1 := hld.below hb1
  have hd : Below w1.heap.size w1 w1.drew := (Below.refl _ _).drew
  have h2 := h1.below hd
  have d1 := h2.c1
  have HB1 : Hid (Below w.heap.size w w1.drew) := hb1.trans (hd.mono hb1.size)
  clear hh
  go_region_law (first
    | (refine step_append_bs rfl (.tmp 16) (.tmp 18) 29 rfl g 5 i Try.underlying29 hi hz0 hz1 hz2 (.slice ao n0 c) l.length l rfl rfl h3.own _ rfl (numB n) hs2 (by omega) (by have := h3.size; omega) ?_; intro v4 w4 ho4 hk4 hm4; obtain ⟨ao4, n4, c4, hv4⟩ := own_form ho4; subst hv4; have hb4 := (hk4.block b h3.size h3.ne).trans h3.box; have e1 := cell_of_row w4 b 1 _ _ _ hb4; have e2 := frozen_of_row w4 b 1 _ _ hb4)
    | (go_simp; go_wp2_with (go_at_call 70; refine (refNum_any n hn _).mono ?_; rintro e w2 ⟨v2, rfl, ho2, hb2⟩; have h3 := h2.below hb2; have d3 := h3.c1; obtain ⟨ao2, n2, c2, hv2⟩ := own_form ho2; subst hv2; have hs2 := Bs.ofOwns ho2)))
  all_goals
    go_wp2
    go_end0
    have hst := h3.stored ho4 hk4 hm4
    refine ⟨rfl, _, hst.1, ?_⟩
    exact (HB1.out.mono (by omega)).trans ((hb2.mono (by have := HB1.out.size; omega)).trans hst.2)

end Go.Proofs.Ytcpegfjjdojinaa

namespace Go.Proofs.Ytcpegfjjdojinaa
open Go.RowKit

theorem Bs.one2 (w : World) (x : UInt8) (t : TypeId) (z : Int) (hz : z = (x.toNat : Int)) : Bs (w.alloc (.cells #[.int .u8 z] t)) (.slice (some ⟨w.heap.size, 0, none⟩) 1 1) [x] := Bs.one' w x t z hz

set_option maxRecDepth 20000 in
set_option maxHeartbeats 4000000 in
theorem lone_no (w : World) (b : Nat) (k : Int) (v : Value) (l : List UInt8) (g f : Nat) (z : Int) (W : List UInt8) (hf : Fld f) (hw : wordOf f = W) (hp : hasB k f = false) (hld : LD w b k v l g) :
    Calls Try.prog 68 #[.pointer (some ⟨b, 0, none⟩), sv W, .int .i64 z] w fun e w' => e = .returned (.tuple #[]) ∧ LD w' b k v l g ∧ Below g w w' := by
  have c0 := hld.c0
  have hs := hld.size
  have hle := hld.le
  have hh := fun w => rhas_any k f hf W hw w
  rw [hp] at hh
  go_enter Try.func68, Try.ntmps68
  go_wp2_with (go_at_call 38; refine (hh _).mono ?_; rintro e w1 ⟨rfl, hb1⟩)
  go_end0
  exact ⟨rfl, hld.below hb1, hb1.mono (by omega)⟩

set_option maxRecDepth 20000 in
set_option maxHeartbeats 4000000 in
theorem lone_yes (w : World) (b : Nat) (k : Int) (v : Value) (l : List UInt8) (g f : Nat) (z : Int) (W : List UInt8) (hf : Fld f) (hw : wordOf f = W) (hp : hasB k f = true) (hld : LD w b k v l g) (hl : l.length + 10 ≤ 140737488355328) :
    Calls Try.prog 68 #[.pointer (some ⟨b, 0, none⟩), sv W, .int .i64 z] w fun e w' => e = .returned (.tuple #[]) ∧ ∃ v', LD w' b k v' (l ++ [u8 z]) g ∧ Below g w w' := by
  have c0 := hld.c0
  have hs := hld.size
  have hle := hld.le
  have hh := fun w => rhas_any k f hf W hw w
  rw [hp] at hh
  obtain ⟨i, hi, hz0, hz1, hz2⟩ := info_parts Try.infoByte
  obtain ⟨ao, n0, c, hv⟩ := ld_form hld
  subst hv
  go_enter Try.func68, Try.ntmps68
  go_wp2_with (first
    | (at_builtin; go_must (refine wpList_append_bs rfl (.tmp 16) (.tmp 19) 29 rfl g 5 i Try.underlying29 hi hz0 hz1 hz2 (.slice ao n0 c) l.length l rfl rfl h2.own _ rfl [u8 z] (Bs.one2 w1 (u8 z) _ _ (wrap_u8 z)) ((by simp; omega)) ((by have := hb1.size; simp; omega)) ?_); intro v4 w4 ho4 hk4 hm4; obtain ⟨ao4, n4, c4, hv4⟩ := own_form ho4; subst hv4; have hb4 := (hk4.block b h2.size h2.ne).trans h2.box; have e1 := cell_of_row w4 b 1 _ _ _ hb4; have e2 := frozen_of_row w4 b 1 _ _ hb4)
    | (go_at_call 38; refine (hh _).mono ?_; rintro e w1 ⟨rfl, hb1⟩; have h1 := hld.below hb1; have d1 := h1.c1; have q2 : Below w1.heap.size w1 (w1.alloc (.cells #[.int .u8 (z % 256)] 5)) := (Below.refl _ _).alloc (Nat.le_refl _) _; have h2 := h1.below q2))
  go_end0
  have hst := h2.stored ho4 hk4 hm4
  refine ⟨rfl, _, hst.1, ?_⟩
  exact (hb1.mono (by omega)).trans ((q2.mono (by have := hb1.size; omega)).trans hst.2)

end Go.Proofs.Ytcpegfjjdojinaa

