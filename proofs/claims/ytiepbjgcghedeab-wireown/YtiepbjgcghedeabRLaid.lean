/- What the plain body lays, field by field: the walks of laid's calls. -/
import Derived.Test.YtiepbjgcghedeabWFitBP
import Derived.Test.YtiepbjgcghedeabMathP
import Derived.Test.YtiepbjgcghedeabWLay
import Derived.Deep.RegionLaw
namespace Go.Proofs.Ytiepbjgcghedeab
open Go.RowKit

/-- What was laid so far lies in block b: its kind, and its bytes in a row of their own, from block g on. -/
structure LD (w : World) (b : Nat) (k : Int) (v : Value) (l : List UInt8) (g : Nat) : Prop where
  box : w.heap[b]? = some (.cells #[.int .i64 k, v] 91 (0, 0))
  own : w.ownsRow g 5 1 v l.length (l.map bv)
  le : g ≤ b
  ne : v.ownBlock ≠ some b

section
variable {w w' : World} {b : Nat} {k : Int} {v : Value} {l : List UInt8} {g : Nat}
theorem LD.size (h : LD w b k v l g) : b < w.heap.size := (Array.getElem?_eq_some_iff.1 h.box).1
theorem LD.c0 (h : LD w b k v l g) : w.cell? ⟨b, 0, none⟩ = some (.int .i64 k) := by rw [cell_of_row w b 0 _ _ _ h.box]; rfl
theorem LD.c1 (h : LD w b k v l g) : w.cell? ⟨b, 1, none⟩ = some v := by rw [cell_of_row w b 1 _ _ _ h.box]; rfl
theorem LD.below (h : LD w b k v l g) (hb : Below w.heap.size w w') : LD w' b k v l g :=
  ⟨(hb.block b h.size).trans h.box, ownsRow_later h.own hb, h.le, h.ne⟩
where
  ownsRow_later {w w' : World} {v : Value} {n : Nat} {xs : List Value} {g : Nat} (h : w.ownsRow g 5 1 v n xs) (hb : Below w.heap.size w w') : w'.ownsRow g 5 1 v n xs := by
    obtain ⟨h0, h1 | ⟨q, cap, cur, h1, h2, h3, h4⟩⟩ := h
    · exact ⟨h0, Or.inl h1⟩
    · exact ⟨h0, Or.inr ⟨q, cap, cur, h1, h2, (hb.block q (Array.getElem?_eq_some_iff.1 h3).1).trans h3, h4⟩⟩
/-- The bytes are stored. -/
theorem LD.stored {w2 w3 : World} {v2 : Value} {l2 : List UInt8} (h : LD w2 b k v l g) (hown : w3.ownsRow g 5 1 v2 l2.length (l2.map bv)) (hk : Kept w2 w3 (fun x => v.ownBlock = some x)) (hm : Moved w2 v v2) :
    LD (w3.setCell ⟨b, 1, none⟩ v2) b k v2 l2 g ∧ Below g w2 (w3.setCell ⟨b, 1, none⟩ v2) := by
  have hb3 := (hk.block b h.size h.ne).trans h.box
  have hne : v2.ownBlock ≠ some b := by
    intro e
    rcases hm b e with h1 | h1
    · exact h.ne h1
    · have := h.size; omega
  refine ⟨⟨?_, ?_, h.le, hne⟩, ?_⟩
  · rw [heap_setCell_same w3 b 1 _ _ _ hb3]; rfl
  · obtain ⟨h0, h1 | ⟨q, cap, cur, h1, h2, h3, h4⟩⟩ := hown
    · exact ⟨h0, Or.inl h1⟩
    · have hqb : q ≠ b := by intro e; subst e; rw [h1] at hne; exact hne rfl
      exact ⟨h0, Or.inr ⟨q, cap, cur, h1, h2, (heap_setCell_other w3 ⟨b, 1, none⟩ q v2 hqb).trans h3, h4⟩⟩
  · exact (hk.below (Nat.le_trans h.le (Nat.le_of_lt h.size)) (fun i hi e => by have := h.own.lt i e; omega)).setCell h.le _
end

theorem ld_form {w : World} {b : Nat} {k : Int} {v : Value} {l : List UInt8} {g : Nat} (h : LD w b k v l g) : ∃ ao n c, v = .slice ao n c := own_form h.own

set_option maxRecDepth 20000 in
set_option maxHeartbeats 4000000 in
theorem lnum_no (w : World) (b : Nat) (k : Int) (v : Value) (l : List UInt8) (g f n : Nat) (W : List UInt8) (hf : Fld f) (hw : wordOf f = W) (hp : hasB k f = false) (hld : LD w b k v l g) :
    Calls Try.prog 62 #[.pointer (some ⟨b, 0, none⟩), sv W, .int .u64 (n : Int)] w fun e w' => e = .returned (.tuple #[]) ∧ LD w' b k v l g ∧ Below g w w' := by
  have c0 := hld.c0
  have hs := hld.size
  have hle := hld.le
  have hh := fun w => rhas_any k f hf W hw w
  rw [hp] at hh
  go_enter Try.func62, Try.ntmps62
  go_wp2_with (go_at_call 59; refine (hh _).mono ?_; rintro e w1 ⟨rfl, hb1⟩)
  go_end0
  exact ⟨rfl, hld.below hb1, hb1.mono (by omega)⟩

set_option maxRecDepth 20000 in
set_option maxHeartbeats 4000000 in
theorem lnum_yes (w : World) (b : Nat) (k : Int) (v : Value) (l : List UInt8) (g f n : Nat) (W : List UInt8) (hf : Fld f) (hw : wordOf f = W) (hn : n < 18446744073709551616) (hp : hasB k f = true) (hld : LD w b k v l g) (hl : l.length + 10 ≤ 140737488355328) :
    Calls Try.prog 62 #[.pointer (some ⟨b, 0, none⟩), sv W, .int .u64 (n : Int)] w fun e w' => e = .returned (.tuple #[]) ∧ ∃ v', LD w' b k v' (l ++ numB n) g ∧ Below g w w' := by
  have c0 := hld.c0
  have hs := hld.size
  have hle := hld.le
  have hh := fun w => rhas_any k f hf W hw w
  rw [hp] at hh
  have hnl := numB_len n
  obtain ⟨i, hi, hz0, hz1, hz2⟩ := info_parts Try.infoByte
  obtain ⟨ao, n0, c, hv⟩ := ld_form hld
  subst hv
  go_enter Try.func62, Try.ntmps62
  go_wp2_with (go_at_call 59; refine (hh _).mono ?_; rintro e w1 ⟨rfl, hb1⟩)
  have h1 := hld.below hb1
  have hd : Below w1.heap.size w1 w1.drew := (Below.refl _ _).drew
  have h2 := h1.below hd
  have d1 := h2.c1
  have HB1 : Hid (Below w.heap.size w w1.drew) := hb1.trans (hd.mono hb1.size)
  clear hh
  go_region_law (first
    | (refine step_append_bs rfl (.tmp 16) (.tmp 18) 30 rfl g 5 i Try.underlying30 hi hz0 hz1 hz2 (.slice ao n0 c) l.length l rfl rfl h3.own _ rfl (numB n) hs2 (by omega) (by have := h3.size; omega) ?_; intro v4 w4 ho4 hk4 hm4; obtain ⟨ao4, n4, c4, hv4⟩ := own_form ho4; subst hv4; have hb4 := (hk4.block b h3.size h3.ne).trans h3.box; have e1 := cell_of_row w4 b 1 _ _ _ hb4; have e2 := frozen_of_row w4 b 1 _ _ hb4)
    | (go_simp; go_wp2_with (go_at_call 20; refine (refNum_any n hn _).mono ?_; rintro e w2 ⟨v2, rfl, ho2, hb2⟩; have h3 := h2.below hb2; have d3 := h3.c1; obtain ⟨ao2, n2, c2, hv2⟩ := own_form ho2; subst hv2; have hs2 := Bs.ofOwns ho2)))
  all_goals
    go_wp2
    go_end0
    have hst := h3.stored ho4 hk4 hm4
    refine ⟨rfl, _, hst.1, ?_⟩
    exact (HB1.out.mono (by omega)).trans ((hb2.mono (by have := HB1.out.size; omega)).trans hst.2)

end Go.Proofs.Ytiepbjgcghedeab
