/- NetKnown: the walk. -/
import Derived.Test.YtibgpbflchfbnaaNtJ
namespace Go.Proofs.Ytibgpbflchfbnaa
open Go.RowKit

/-- 'make([]byte, n)' behind a guard that lets it by. -/
theorem wpList_make_bytesG {w : World} {ops : Array Oper} {rest : List Oper} {o : Oper} {a : Act} {Q : Exit → Act → World → Prop}
    (hw : Region.wanted o (yielded ops a.tmps) = true) (l c : Operand) (hop : o.op = Op.makeSlice 28 l c)
    (n : Nat) (hl : a.eval l = .int .i64 (n : Int)) (hc : a.eval c = .int .i64 (n : Int)) (b2 : n ≤ 281474976710656)
    (hK : ∀ w', Bs w' (.slice (some ⟨w.heap.size, 0, none⟩) n n) (List.replicate n 0) → Below w.heap.size w w' → wpList Try.prog ops Q rest (a.put o.dst (.slice (some ⟨w.heap.size, 0, none⟩) n n)) w') :
    wpList Try.prog ops Q (o :: rest) a w := by
  obtain ⟨i, h2, h3, h4, h5⟩ := info_parts Try.infoByte
  have hrun := run_make (P := Try.prog) w 28 5 i _ Try.underlying28 h2 h3 .i64 .i64 n n (by omega) (Int.le_refl _) (by rw [h5]; omega) (by omega)
  have hb : Bs (w.alloc (.cells (madeCells (Value.int .u8 0).cells ((n : Int).toNat * i.size)) 5)) (.slice (some ⟨w.heap.size, 0, none⟩) n n) (List.replicate n 0) := by
    have e : (madeCells (Value.int .u8 0).cells ((n : Int).toNat * i.size)).toList = List.replicate n (.int .u8 0) := by
      rw [h4, Nat.mul_one]
      exact toList_madeCells_one _ _
    have q := Bs.ofBlock (l := List.replicate n (0 : UInt8)) (cap := n) (heap_alloc_new w (.cells (madeCells (Value.int .u8 0).cells ((n : Int).toNat * i.size)) 5)) (by
      rw [e]
      rw [List.take_of_length_le (by simp)]
      simp [bv]) (by simp)
    simpa using q
  simp only [wpList, hw]
  rw [if_pos True.intro]
  refine Or.inl ?_
  unfold Oper.wp
  simp [execOp, hop, hl, hc, hrun, Result.andThen]
  exact hK _ hb ((Below.refl _ _).alloc (Nat.le_refl _) _)

theorem kept_drop {w1 w2 : World} {F : Nat → Prop} {h : Nat} {v : Value} {l : List UInt8} (q : OwnB h w1 v l) (hk : Kept w1 w2 F) (hF : ∀ k, F k → k < h) : OwnB h w2 v l := by
  rcases q with q | ⟨g, hg, rfl, hh⟩
  · exact Or.inl q
  · exact Or.inr ⟨g, hg, rfl, (hk.block g (Array.getElem?_eq_some_iff.1 hh).1 (fun e => by have := hF _ e; omega)).trans hh⟩

set_option maxRecDepth 20000 in
set_option maxHeartbeats 2000000 in
theorem netKnown_any (w : World) : Calls Try.prog 3 #[] w fun e w' => e = .returned (.bool true) ∧ Below w.heap.size w w' := by
  have kc := fun (w : World) (C : Array Value) (n c : Nat) => Lib.run_convert_bytes_const (P := Try.prog) w 28 5 C n c Try.underlying28 Try.underlying5
  go_enter Try.func3, Try.ntmps3
  go_wp2_with fail
  refine (nnew_no 0 (by omega) w).mono ?_
  rintro e w1 ⟨rfl, rfl⟩
  go_wp2_with fail
  refine (nnew_no 257 (by omega) w).mono ?_
  rintro e w1 ⟨rfl, rfl⟩
  go_wp2_with fail
  refine (nsnew 2 (by omega) (by omega) w).mono ?_
  rintro e w1 ⟨rfl, hn1, hb1⟩
  have hF1 : ∀ k, (fun k => k = w.heap.size) k → w.heap.size ≤ k := fun k hk => by have e : k = w.heap.size := hk; omega
  go_wp2_with fail
  refine (nknown_any w1).mono ?_
  rintro e w2 ⟨rfl, hb2⟩
  have hn2 := hn1.below hb2
  have hB2 := hb1.trans (hb2.mono hb1.size)
  clear hn1 hb1 hb2
  go_wp2_with fail
  have hA1 : ∀ o, Below w2.heap.size w2 (w2.alloc o) := fun o => (Below.refl _ _).alloc (Nat.le_refl _) _
  refine (nssend w.heap.size 2 0 [] _ ⟨0, 0, [97]⟩ _ _ (hn2.below (hA1 _)) (lit_bs w2 97 _) (by omega) (by omega)).mono ?_
  rintro e w3 ⟨F3, rfl, hn3, hk3, hg3⟩
  rw [show sendB 2 [] ⟨0, 0, [97]⟩ = true from rfl]
  have hn3' : NS w3 w.heap.size 2 0 [⟨0, 0, [97]⟩] F3 := hn3
  have hb3 := kept_new (hB2.trans ((hA1 _).mono hB2.size)) hF1 hk3
  have hF3 := grown_new (by have := hB2.size; simp; omega) hF1 hg3
  clear hn2 hB2 hA1 hn3 hk3 hg3 hF1
  go_wp2_with fail
  have hA1 : ∀ o, Below w3.heap.size w3 (w3.alloc o) := fun o => (Below.refl _ _).alloc (Nat.le_refl _) _
  refine (nssend w.heap.size 2 0 [⟨0, 0, [97]⟩] _ ⟨0, 0, [98]⟩ _ _ (hn3'.below (hA1 _)) (lit_bs w3 98 _) (by omega) (by omega)).mono ?_
  rintro e w4 ⟨F4, rfl, hn4, hk4, hg4⟩
  rw [show sendB 2 [⟨0, 0, [97]⟩] ⟨0, 0, [98]⟩ = true from rfl]
  have hn4' : NS w4 w.heap.size 2 0 [⟨0, 0, [97]⟩, ⟨0, 0, [98]⟩] F4 := hn4
  have hb4 := kept_new (hb3.trans ((hA1 _).mono hb3.size)) hF3 hk4
  have hF4 := grown_new (by have := hb3.size; simp; omega) hF3 hg4
  clear hn3' hb3 hA1 hn4 hk4 hg4 hF3
  go_wp2_with fail
  refine (nstake w.heap.size 2 0 [⟨0, 0, [97]⟩, ⟨0, 0, [98]⟩] F4 0 w4 hn4' (by omega)).mono ?_
  rintro e w5 ⟨v5, rfl, ho5, hn5, hk5⟩
  rw [show hasB [(⟨0, 0, [97]⟩ : Dg), ⟨0, 0, [98]⟩].length 0 = true from rfl]
  rw [show peekD [⟨0, 0, [97]⟩, ⟨0, 0, [98]⟩] 0 = ⟨0, 0, [97]⟩ from rfl]
  have ho5' : OwnB w4.heap.size w5 v5 [97] := ho5
  have hn5' : NS w5 w.heap.size 2 0 [⟨0, 0, [98]⟩] F4 := hn5
  have hb5 := kept_new hb4 hF4 hk5
  have hF4lt := hn4'.lt
  have hF5lt := hn5'.lt
  obtain ⟨ao, ac, hve⟩ := ho5'.bs.slice
  subst hve
  clear hn4' hb4 ho5 hn5 hk5
  have s5 : ∀ o, w5.heap.size < (w5.alloc o).heap.size := fun o => by simp
  go_wp2_with fail
  have hA1 : ∀ o, Below w5.heap.size w5 (w5.alloc o) := fun o => (Below.refl _ _).alloc (Nat.le_refl _) _
  refine (nsdouble w.heap.size 2 0 [⟨0, 0, [98]⟩] F4 0 _ (hn5'.below (hA1 _)) (by omega)).mono ?_
  rintro e w6 ⟨F6, rfl, hn6, hk6, hg6⟩
  rw [show doubB 2 [⟨0, 0, [98]⟩] 0 = true from rfl]
  have hn6' : NS w6 w.heap.size 2 0 [⟨0, 0, [98]⟩, ⟨0, 0, [98]⟩] F6 := hn6
  have hb6 := kept_new (hb5.trans ((hA1 _).mono hb5.size)) hF4 hk6
  have hF6 := grown_new (by have := hb5.size; simp; omega) hF4 hg6
  have hd5 := heap_alloc_new w5 (.cells #[.int .i64 0, .int .i64 0, .slice ao [(97 : UInt8)].length ac] 30)
  have hd6 := (hk6.block w5.heap.size (by simp) (fun e => by have := hF5lt _ e; omega)).trans hd5
  have hs6 : Bs w6 (.slice ao [(97 : UInt8)].length ac) [97] := (kept_drop (kept_drop ho5' (kept_of_below (hA1 _) (fun _ => False)) (fun _ e => e.elim)) hk6 hF4lt).bs
  clear hn5' hb5 ho5' hn6 hk6 hg6 hd5 hF4 hF4lt hF5lt hA1 s5
  go_wp2_with fail
  refine (nsall w.heap.size 2 0 [⟨0, 0, [98]⟩, ⟨0, 0, [98]⟩] F6 w6 hn6' (by omega)).mono ?_
  rintro e w7 ⟨v7, g, rs', rfl, hm7, hdn7, hb7⟩
  have hn7 := hn6'.below hb7
  have hB7 := hb6.trans (hb7.mono hb6.size)
  have hd7 := (hb7.block _ (Array.getElem?_eq_some_iff.1 hd6).1).trans hd6
  have c7 := cell_of_row w7 _ 2 _ _ _ hd7
  have hs7 := hs6.below hb7
  have k7 := bs_string hs7 w7 (Below.refl _ _)
  have hl := fst_len hm7
  have hv := hdn7.val
  rw [hl] at hv
  obtain ⟨ao', cap', e', _, hx'⟩ := hdn7.dgs hm7
  rw [hv] at e'
  simp only [Value.slice.injEq] at e'
  obtain ⟨ea, _, ec⟩ := e'
  obtain ⟨blk, off, eb, hlt, hat⟩ := hx' (by simp)
  rw [← ea] at eb
  simp only [Option.some.injEq, Addr.mk.injEq, and_true] at eb
  obtain ⟨rfl, rfl⟩ := eb
  subst hv
  obtain ⟨_, _, x0, p0, hx0⟩ := hat 0 (by simp)
  obtain ⟨_, _, x1, p1, hx1⟩ := hat 1 (by simp)
  have kx0 := bs_string hx0 w7 (Below.refl _ _)
  have kx1 := bs_string hx1 w7 (Below.refl _ _)
  simp at p0 p1 c7 kx0 kx1 k7
  clear hat hx' ea ec hdn7 hm7 hl hd7 hd6 hs6 hs7 hb7 hn6' hb6
  go_wp2_with (first
    | (at_make; refine wpList_make_bytesG (by rfl) _ _ rfl 1025 rfl rfl (by omega) ?_; intro w8 hz8 hb8)
    | (go_at_call 10; refine (nssend w.heap.size 2 0 [⟨0, 0, [98]⟩, ⟨0, 0, [98]⟩] F6 ⟨0, 0, List.replicate 1025 0⟩ _ _ (hn7.below hb8) hz8 (by omega) (by omega)).mono ?_; rintro e w9 ⟨F9, rfl, hn9, hk9, hg9⟩; rw [show sendB 2 [⟨0, 0, [98]⟩, ⟨0, 0, [98]⟩] ⟨0, 0, List.replicate 1025 0⟩ = false from decide_eq_false (by simp)]))
  go_ret
  exact ⟨rfl, kept_new (hB7.trans (hb8.mono hB7.size)) hF6 hk9⟩

end Go.Proofs.Ytibgpbflchfbnaa
