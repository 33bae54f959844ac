/- The Writer: call by call. -/
import Derived.Test.YtcpegfjjdojinaaWalkB
namespace Go.Proofs.Ytcpegfjjdojinaa
open Go.RowKit

/-- A Writer lies at the head of block b; it has laid l, which lies where v says. -/
structure WR (w : World) (b : Nat) (v : Value) (l : List UInt8) : Prop where
  box : w.heap[b]? = some (.cells #[v] 73 (0, 0))
  own : w.ownsRow (b + 1) 5 1 v l.length (l.map bv)

theorem WR.lt {w : World} {b : Nat} {v : Value} {l : List UInt8} (h : WR w b v l) : b < w.heap.size := (Array.getElem?_eq_some_iff.1 h.box).1
theorem WR.cell {w : World} {b : Nat} {v : Value} {l : List UInt8} (h : WR w b v l) : w.cell? ⟨b, 0, none⟩ = some v := by rw [cell_of_row w b 0 _ _ _ h.box]; rfl
theorem WR.free {w : World} {b : Nat} {v : Value} {l : List UInt8} (h : WR w b v l) : w.frozen? ⟨b, 0, none⟩ = false := frozen_of_row w b 0 _ _ h.box

/-- What a Writer's call may turn. -/
def WS (b : Nat) (v : Value) (k : Nat) : Prop := k = b ∨ v.ownBlock = some k

theorem WR.apart {w : World} {b : Nat} {v : Value} {l : List UInt8} (h : WR w b v l) : ∀ k, v.ownBlock = some k → b < k ∧ k < w.heap.size := by
  intro k hk
  have := h.own.lt k hk
  omega

/-- What it is told of a Writer stays, where neither of its blocks turns. -/
theorem WR.keep {w w' : World} {b : Nat} {v : Value} {l : List UInt8} {S : Nat → Prop} (h : WR w b v l) (hk : Kept w w' S) (hs : ∀ k, WS b v k → ¬ S k) : WR w' b v l := by
  refine ⟨(hk.block b h.lt (hs b (Or.inl rfl))).trans h.box, ?_⟩
  obtain ⟨h1, h2 | ⟨g, cap, cur, hv, hb, hg, r⟩⟩ := h.own
  · exact ⟨h1, Or.inl h2⟩
  · refine ⟨h1, Or.inr ⟨g, cap, cur, hv, hb, ?_, r⟩⟩
    rw [hk.block g (Array.getElem?_eq_some_iff.1 hg).1 (hs g (Or.inr (by rw [hv]; rfl)))]
    exact hg

theorem WR.alloc {w : World} {b : Nat} {v : Value} {l : List UInt8} (h : WR w b v l) (o : Obj) : WR (w.alloc o) b v l := h.keep (Kept.alloc w o (fun _ => False)) (fun _ _ e => e)
theorem WR.below {w w' : World} {b : Nat} {v : Value} {l : List UInt8} (h : WR w b v l) (hb : Below w.heap.size w w') : WR w' b v l := h.keep (kept_of_below hb (fun _ => False)) (fun _ _ e => e)
theorem WR.new_apart {w : World} {b : Nat} {v : Value} {l : List UInt8} (h : WR w b v l) {k : Nat} (hk : w.heap.size ≤ k) : ¬ WS b v k := by
  intro e
  rcases e with e | e
  · have := h.lt; omega
  · have := h.apart k e; omega

/-- The store that ends a Writer's call. -/
theorem WR.stored {w w1 : World} {b : Nat} {v v' : Value} {l m : List UInt8} (h : WR w b v l) (hk : Kept w w1 (fun k => v.ownBlock = some k)) (ho : w1.ownsRow (b + 1) 5 1 v' m.length (m.map bv)) :
    WR (w1.setCell ⟨b, 0, none⟩ v') b v' m ∧ Kept w (w1.setCell ⟨b, 0, none⟩ v') (WS b v) := by
  have hb1 : w1.heap[b]? = some (.cells #[v] 73 (0, 0)) := (hk.block b h.lt (fun e => by have := h.apart b e; omega)).trans h.box
  refine ⟨⟨?_, ownsRow_setCell_below ho (by simp) _⟩, ?_⟩
  · rw [heap_setCell_same w1 b 0 _ _ _ hb1]; rfl
  · refine (hk.mono (fun i _ e => Or.inr e)).trans (Kept.setCell w1 _ _) ?_
    intro i _ e
    exact Or.inl e

theorem WR.still {w w1 : World} {b : Nat} {v : Value} {l : List UInt8} (h : WR w b v l) (hk : Kept w w1 (fun k => v.ownBlock = some k)) : w1.cell? ⟨b, 0, none⟩ = some v ∧ w1.frozen? ⟨b, 0, none⟩ = false := by
  have hb1 : w1.heap[b]? = some (.cells #[v] 73 (0, 0)) := (hk.block b h.lt (fun e => by have := h.apart b e; omega)).trans h.box
  exact ⟨by rw [cell_of_row w1 b 0 _ _ _ hb1]; rfl, frozen_of_row w1 b 0 _ _ hb1⟩

set_option maxHeartbeats 400000 in
theorem newWriter_any (w : World) :
    Calls Try.prog 20 #[] w fun e w' => e = .returned (.pointer (some ⟨w.heap.size, 0, none⟩)) ∧ WR w' w.heap.size (.slice none 0 0) [] ∧ Below w.heap.size w w' := by
  go_enter Try.func20, Try.ntmps20
  go_wp2
  go_ret
  exact ⟨rfl, ⟨heap_alloc_new w _, World.ownsRow_nil _ _ _ _⟩, (Below.refl _ _).alloc (Nat.le_refl _) _⟩

set_option maxHeartbeats 400000 in
theorem wbyte_any (w : World) (b : Nat) (v : Value) (l : List UInt8) (x : Int) (u : UInt8) (hx : x = (u.toNat : Int)) (h : WR w b v l) (hl : l.length < 140737488355328) :
    Calls Try.prog 21 #[.pointer (some ⟨b, 0, none⟩), .int .u8 x] w fun e w' => e = .returned (.tuple #[]) ∧
      ∃ v', WR w' b v' (l ++ [u]) ∧ Kept w w' (WS b v) ∧ Moved w v v' := by
  subst hx
  have hcell := h.cell
  have hfz := h.free
  have hlt := h.lt
  obtain ⟨i, hi, hz0, hz1, hz2⟩ := info_parts Try.infoByte
  go_enter Try.func21, Try.ntmps21
  go_wp2_with (at_builtin; refine wpList_append_bs rfl _ _ 29 rfl (b + 1) 5 i Try.underlying29 hi hz0 hz1 hz2 v l.length l rfl rfl (h.own.alloc _) _ rfl [u] (Bs.one w u _) (by simp; omega) (by simp; omega) ?_; intro v' w1 hown hkept hmoved; have hk1 := (Kept.alloc w _ (fun k => v.ownBlock = some k)).trans hkept (fun _ _ h => h); have hm1 := Moved.trans (Moved.refl w v) hmoved (by simp); obtain ⟨ao', n', cp', rfl⟩ := own_form hown; obtain ⟨hc1, hf1⟩ := h.still hk1)
  go_end0
  have hs := h.stored hk1 hown
  exact ⟨rfl, _, hs.1, hs.2, hm1⟩

theorem WS.moved {w : World} {b : Nat} {v v1 : Value} (hm : Moved w v v1) : ∀ i, i < w.heap.size → WS b v1 i → WS b v i := by
  intro i hi h
  rcases h with h | h
  · exact Or.inl h
  · rcases hm i h with h1 | h1
    · exact Or.inr h1
    · omega

/-- How far a Writer has come since w. -/
structure WTo (w w' : World) (b : Nat) (v v' : Value) (l : List UInt8) : Prop where
  wr : WR w' b v' l
  kept : Kept w w' (WS b v)
  moved : Moved w v v'
theorem WTo.refl {w : World} {b : Nat} {v : Value} {l : List UInt8} (h : WR w b v l) : WTo w w b v v l := ⟨h, Kept.refl _ _, Moved.refl _ _⟩
theorem WTo.trans {w w1 w2 : World} {b : Nat} {v v1 v2 : Value} {l m : List UInt8} (h : WTo w w1 b v v1 l) (k : WTo w1 w2 b v1 v2 m) : WTo w w2 b v v2 m :=
  ⟨k.wr, h.kept.trans k.kept (WS.moved h.moved), h.moved.trans k.moved h.kept.size⟩

theorem WTo.below {w w' : World} {b : Nat} {v v' : Value} {l m : List UInt8} (h : WTo w w' b v v' m) (hr : WR w b v l) : Below b w w' :=
  h.kept.below (Nat.le_of_lt hr.lt) (fun i hi e => by
    rcases e with e | e
    · omega
    · have := hr.apart i e; omega)

theorem wbyte_to (w : World) (b : Nat) (v : Value) (l : List UInt8) (x : Int) (u : UInt8) (hx : x = (u.toNat : Int)) (h : WR w b v l) (hl : l.length < 140737488355328) :
    Calls Try.prog 21 #[.pointer (some ⟨b, 0, none⟩), .int .u8 x] w fun e w' => e = .returned (.tuple #[]) ∧ ∃ v', WTo w w' b v v' (l ++ [u]) :=
  (wbyte_any w b v l x u hx h hl).mono fun _ _ ⟨h1, v', h2, h3, h4⟩ => ⟨h1, v', h2, h3, h4⟩

theorem byte_more (m : Nat) : (m : Int) % 128 + 128 = ((UInt8.ofNat (m % 128 + 128)).toNat : Int) := by
  rw [UInt8.toNat_ofNat']; omega
theorem byte_last (m : Nat) (h : m < 128) : (m : Int) = ((UInt8.ofNat m).toNat : Int) := by
  rw [UInt8.toNat_ofNat']; omega

set_option maxRecDepth 20000 in
set_option maxHeartbeats 400000 in
theorem wnum_any (w : World) (b : Nat) (v : Value) (l : List UInt8) (N : Nat) (hN : N < 18446744073709551616) (h : WR w b v l) (hl : l.length + 10 ≤ 140737488355328) :
    Calls Try.prog 51 #[.pointer (some ⟨b, 0, none⟩), .int .u64 (N : Int)] w fun e w' => e = .returned (.tuple #[]) ∧ ∃ v', WTo w w' b v v' (l ++ numB N) := by
  go_enter Try.func51, Try.ntmps51
  go_wp2
  go_loopw [1] (fun n wr => ∃ (m f : Nat) (pre : List UInt8) (v1 : Value), n = .int .u64 m ∧ m < 18446744073709551616 ∧ m < 128 ^ (f + 1) ∧ pre ++ numF f m = numB N ∧ WTo w wr b v v1 (l ++ pre)) (fun n _ => (intOf n).toNat)
  case atStart => exact ⟨N, 9, [], v, rfl, hN, by omega, rfl, by simpa using WTo.refl h⟩
  case round =>
    obtain ⟨m, f, pre, v1, rfl, hm, hmf, hpre, hto⟩ := hrel
    have hlen : (l ++ pre).length < 140737488355328 := by
      have h1 := length_numB N
      have h2 : 0 < (numF f m).length := by cases f <;> simp [numF]; split <;> simp
      have h3 := congrArg List.length hpre
      simp only [List.length_append] at h3 ⊢
      omega
    by_cases hlt : m < 128
    · have HP : Hid (pre ++ numF f m = numB N) := hpre
      have HM : Hid (m < 128 ^ (f + 1)) := hmf
      clear hpre hmf
      go_wp2_with (go_at_call 21; refine (wbyte_to _ b v1 (l ++ pre) _ (UInt8.ofNat m) (byte_last m hlt) hto.wr hlen).mono ?_; rintro e w' ⟨rfl, v2, hto2⟩)
      go_end0
      refine ⟨rfl, v2, ?_⟩
      have e := HP.out
      rw [numF_last f m hlt] at e
      rw [← e, ← List.append_assoc]
      exact hto.trans hto2
    · obtain ⟨f, rfl⟩ : ∃ f', f = f' + 1 := by
        cases f with
        | zero => omega
        | succ f => exact ⟨f, rfl⟩
      have HP : Hid (pre ++ numF (f + 1) m = numB N) := hpre
      have HM : Hid (m < 128 ^ (f + 1 + 1)) := hmf
      clear hpre hmf
      go_wp2_with (go_at_call 21; refine (wbyte_to _ b v1 (l ++ pre) _ (UInt8.ofNat (m % 128 + 128)) (byte_more m) hto.wr hlen).mono ?_; rintro e w' ⟨rfl, v2, hto2⟩)
      go_roundw
      case rel =>
        refine ⟨m / 128, f, pre ++ [UInt8.ofNat (m % 128 + 128)], v2, by go_num, by omega, ?_, ?_, ?_⟩
        · have := HM.out
          rw [Nat.pow_succ] at this
          omega
        · have e := HP.out
          rw [numF_more f m hlt] at e
          rw [← e, List.append_assoc]; rfl
        · rw [← List.append_assoc]
          exact hto.trans hto2
      case measure => simp [intOf]; omega

theorem WR.stored_to {w w1 : World} {b : Nat} {v v' : Value} {l m : List UInt8} (h : WR w b v l) (hk : Kept w w1 (fun k => v.ownBlock = some k)) (hm : Moved w v v') (ho : w1.ownsRow (b + 1) 5 1 v' m.length (m.map bv)) :
    WTo w (w1.setCell ⟨b, 0, none⟩ v') b v v' m := ⟨(h.stored hk ho).1, (h.stored hk ho).2, hm⟩

set_option maxHeartbeats 400000 in
theorem wbytes_any (w : World) (b : Nat) (v : Value) (l : List UInt8) (h : WR w b v l) (hl : l.length ≤ 140737488355328) :
    Calls Try.prog 25 #[.pointer (some ⟨b, 0, none⟩)] w fun e w' => e = .returned (.slice (some ⟨w.heap.size, 0, none⟩) l.length l.length) ∧
      w'.heap[w.heap.size]? = some (.cells (l.map bv).toArray 5 (0, 0)) ∧ Below w.heap.size w w' ∧ w.heap.size < w'.heap.size := by
  have hcell := h.cell
  have hv := Bs.ofOwns h.own
  obtain ⟨ao', n', cp', rfl⟩ := own_form h.own
  go_enter Try.func25, Try.ntmps25
  go_wp2_with (go_at_call 53; refine (fresh_any _ l _ hv hl).mono ?_; rintro e w' ⟨rfl, hg, hb, hlt⟩)
  go_ret
  exact ⟨rfl, hg, hb, hlt⟩

end Go.Proofs.Ytcpegfjjdojinaa
