/- CodecNear: the walk. -/
import Derived.Test.YtmnajmlfioiboaaReads
namespace Go.Proofs.Ytmnajmlfioiboaa
open Go.RowKit

/-- The cells of one thing that is asked for. -/
def askCells (d : AskD) : List Value := [.int .i64 d.what, .int .u8 (d.b : Int), .int .u64 (d.n : Int), .int .i64 d.t]
theorem askCells_one (d : AskD) : ∀ u ∈ askCells d, u.oneCell' = true := by
  intro u hu
  simp only [askCells, List.mem_cons, List.not_mem_nil, or_false] at hu
  rcases hu with rfl | rfl | rfl | rfl <;> rfl
theorem flat4 {α : Type} (f : α → List Value) (hf : ∀ x, (f x).length = 4) : ∀ (l : List α) (i j : Nat) (hi : i < l.length), j < 4 → (l.flatMap f)[i * 4 + j]? = (f l[i])[j]? := by
  intro l
  induction l with
  | nil => intro i j hi; simp at hi
  | cons x l ih =>
    intro i j hi hj
    rw [List.flatMap_cons]
    cases i with
    | zero =>
      rw [List.getElem?_append_left (by rw [hf]; omega)]
      simp
    | succ i =>
      rw [List.getElem?_append_right (by rw [hf]; omega), hf, show (i + 1) * 4 + j - 4 = i * 4 + j by omega]
      simpa using ih i j (by simpa using hi) hj
theorem length_flat4 {α : Type} (f : α → List Value) (hf : ∀ x, (f x).length = 4) (l : List α) : (l.flatMap f).length = l.length * 4 := by
  induction l with
  | nil => rfl
  | cons x l ih => rw [List.flatMap_cons, List.length_append, hf, ih, List.length_cons]; omega

theorem Asks.ofOwns {w : World} {base : Nat} {e : TypeId} {v : Value} {n : Nat} {ds : List AskD} (hn : n = ds.length) (h : w.ownsRow base e 4 v n (ds.flatMap askCells)) (ht : ∀ d ∈ ds, d.t ≤ 9223372036854775807) : Asks w v ds := by
  subst hn
  obtain ⟨_, ⟨rfl, h0⟩ | ⟨g, cap, cur, rfl, hb, hg, hn, hm, hs, htk⟩⟩ := h
  · have : ds = [] := List.eq_nil_of_length_eq_zero h0
    subst this
    exact ⟨none, 0, rfl, fun h => absurd rfl h⟩
  · refine ⟨_, cap, rfl, fun _ => ⟨g, 0, rfl, (Array.getElem?_eq_some_iff.1 hg).1, fun i hi => ?_⟩⟩
    have hc : ∀ j, j < 4 → w.cell? ⟨g, 0 + i * 4 + j, none⟩ = (askCells ds[i])[j]? := by
      intro j hj
      rw [cell_of_row w g _ _ _ _ hg, ← flat4 askCells (fun _ => rfl) ds i j hi hj, ← htk, List.getElem?_take, if_pos (by omega), Nat.zero_add]
      simp
    exact ⟨by simpa [askCells] using hc 0 (by omega), by simpa [askCells] using hc 1 (by omega), by simpa [askCells] using hc 2 (by omega), by simpa [askCells] using hc 3 (by omega), ht _ (List.getElem_mem hi)⟩

theorem cell_four_new (w : World) (a b c d : Value) (t : TypeId) : ∀ j u, [a, b, c, d][j]? = some u → (w.alloc (.cells #[a, b, c, d] t)).cell? ((⟨w.heap.size, 0, none⟩ : Addr).add j) = some u := by
  intro j u hj
  rw [Addr.add_at, cell_of_row _ _ _ _ _ _ (heap_alloc_new w _)]
  simpa using hj

theorem cell_four_new2 (w : World) (o : Obj) (a b c d : Value) (t : TypeId) : ∀ j u, [a, b, c, d][j]? = some u → ((w.alloc o).alloc (.cells #[a, b, c, d] t)).cell? ((⟨w.heap.size + 1, 0, none⟩ : Addr).add j) = some u := by
  have e : (w.alloc o).heap.size = w.heap.size + 1 := by simp
  rw [← e]
  exact cell_four_new _ _ _ _ _ _

theorem Try.infoAsk : (Try.prog.info? 53).map (fun i => (i.zero, i.size, i.bytes)) = some (some (.agg #[.int .i64 0, .int .u8 0, .int .u64 0, .int .i64 0]), 4, 32) := by kernel_rfl

/-- What is asked for at place k. -/
def nearAsk (d : LayD) (hs : List AskD) (k : Nat) : AskD :=
  match hs[k]? with
  | some h => if h.what.tmod 3 = 0 then ⟨(pickN d.what 3 : Int), h.b, h.n, h.t⟩ else ⟨(pickN d.what 3 : Int), 255, 18446744073709551615, 1048576⟩
  | none => ⟨(pickN d.what 3 : Int), 255, 18446744073709551615, 1048576⟩

/-- What is asked for, as far as k. -/
theorem near_row {w w' : World} {base : Nat} {v v' : Value} {n : Nat} {xs ys : List Value} (_ : w.ownsRow base 53 4 v n xs) (hk : w.grownBy w' v.ownBlock) (hb : ∀ k, v.ownBlock = some k → base ≤ k) (hbs : base ≤ w.heap.size) (_ : w'.ownsRow base 53 4 v' (n + 1) ys) : Below base w w' :=
  (Kept.grown hk).below hbs (fun i hi e => by have := hb i e; omega)
theorem own_base {w : World} {base : Nat} {e : TypeId} {sz : Nat} {v : Value} {n : Nat} {xs : List Value} (h : w.ownsRow base e sz v n xs) : ∀ k, v.ownBlock = some k → base ≤ k ∧ k < w.heap.size := by
  intro k hk
  obtain ⟨_, ⟨rfl, h0⟩ | ⟨g, cap, cur, rfl, hb, hg, _⟩⟩ := h
  · simp [Value.ownBlock] at hk
  · simp only [Value.ownBlock, Option.some.injEq] at hk
    subst hk
    exact ⟨hb, (Array.getElem?_eq_some_iff.1 hg).1⟩
theorem own_kept {w w' : World} {base : Nat} {e : TypeId} {sz : Nat} {v : Value} {n : Nat} {xs : List Value} {S : Nat → Prop} (h : w.ownsRow base e sz v n xs) (hk : Kept w w' S) (hs : ∀ k, v.ownBlock = some k → ¬ S k) : w'.ownsRow base e sz v n xs := by
  obtain ⟨h1, ⟨rfl, h0⟩ | ⟨g, cap, cur, rfl, hb, hg, hr⟩⟩ := h
  · exact ⟨h1, Or.inl ⟨rfl, h0⟩⟩
  · exact ⟨h1, Or.inr ⟨g, cap, cur, rfl, hb, (hk.block g (Array.getElem?_eq_some_iff.1 hg).1 (hs g rfl)).trans hg, hr⟩⟩
theorem own_slice {w : World} {base : Nat} {e : TypeId} {sz : Nat} {v : Value} {n : Nat} {xs : List Value} (h : w.ownsRow base e sz v n xs) : ∃ ao n' c, v = .slice ao n' c := by
  obtain ⟨_, ⟨rfl, h0⟩ | ⟨g, cap, cur, rfl, _⟩⟩ := h
  · exact ⟨_, _, _, rfl⟩
  · exact ⟨_, _, _, rfl⟩

theorem Bs.setAt {w : World} {g j : Nat} {L : List UInt8} {to : UInt8} {t : TypeId} (hg : w.heap[g]? = some (.cells (L.map bv).toArray t (0, 0))) : Bs (w.setCell ⟨g, j, none⟩ (.int .u8 (to.toNat : Int))) (.slice (some ⟨g, 0, none⟩) L.length L.length) (L.set j to) := by
  have e : (L.set j to).length = L.length := by simp
  have q := Bs.ofBlock (l := L.set j to) (heap_setCell_same w g j _ _ (.int .u8 (to.toNat : Int)) hg) (by
    rw [List.take_of_length_le (by simp)]
    simp [List.map_set, bv]) (Nat.le_refl _)
  rw [e] at q
  exact q
theorem flat_snoc (qs : List AskD) (d : AskD) : (qs ++ [d]).flatMap askCells = qs.flatMap askCells ++ askCells d := by simp
theorem snoc_t {qs : List AskD} {d : AskD} (h : ∀ x ∈ qs, x.t ≤ 9223372036854775807) (hd : d.t ≤ 9223372036854775807) : ∀ x ∈ qs ++ [d], x.t ≤ 9223372036854775807 := by
  intro x hx
  rcases List.mem_append.1 hx with h1 | h1
  · exact h x h1
  · rw [List.mem_singleton.1 h1]; exact hd

set_option maxRecDepth 20000 in
set_option maxHeartbeats 4000000 in
theorem near_none (v u : Value) (ds : List LayD) (hs : List AskD) (at' : Int) (to : UInt8) (w : World) (hv : Lays w v ds) (hu : Asks w u hs) (h0 : layAll ds = []) (hl : (layAll ds).length ≤ 100000000) (hn : ds.length ≤ 100000000) (hm : hs.length ≤ 100000000) :
    Calls Try.prog 6 #[v, .int .i64 at', .int .u8 (to.toNat : Int), u] w fun e w' => e = .returned (.bool true) ∧ Below w.heap.size w w' := by
  obtain ⟨ao, cap, rfl, hx⟩ := id hv
  obtain ⟨uo, ucap, rfl, hy⟩ := id hu
  obtain ⟨i, hi, hz0, hz1, hz2⟩ := info_parts Try.infoAsk
  have HQ : Hid _ := hidden (laid_any _ ds _ hv (by omega) (by omega))
  rw [h0] at HQ
  go_enter Try.func6, Try.ntmps6
  go_wp2_with (go_at_call 27; refine HQ.out.mono ?_; rintro r w1 ⟨k1, hk1, rfl, hg1, hW1⟩)
  have hBs : Bs w1 (.slice (some ⟨k1, 0, none⟩) 0 0) [] := Bs.ofBlock hg1 (List.take_of_length_le (by simp)) (Nat.le_refl _)
  clear hg1 hv
  go_loopw [10, 11] (fun q i wr => ∃ (k : Nat) (qs : List AskD), k ≤ ds.length ∧ i = .int .i64 (k : Int) ∧ wr.ownsRow w1.heap.size 53 4 q k (qs.flatMap askCells) ∧ qs.length = k ∧ (∀ d ∈ qs, d.t ≤ 9223372036854775807) ∧ Below w1.heap.size w1 wr) (fun _ i _ => ds.length - (intOf i).toNat)
  case atStart => exact ⟨0, [], Nat.zero_le _, rfl, World.ownsRow_nil _ _ _ _, rfl, fun _ h => by simp at h, Below.refl _ _⟩
  case round =>
    obtain ⟨k, qs, hk, rfl, hown, hql, hqt, hbr⟩ := hrel
    have hB : Below w.heap.size w wr := hW1.trans (hbr.mono hW1.size)
    obtain ⟨qo, qn, qc, hqe⟩ := own_slice hown
    subst hqe
    by_cases hlt : k < ds.length
    · obtain ⟨blk, off, rfl, hblk, hat⟩ := hx (by intro e; subst e; simp at hlt)
      have a0 := ((hat k hlt).below hB hblk).c0
      have HO : Hid (∀ o o', ((wr.alloc o).alloc o').ownsRow w1.heap.size 53 4 (.slice qo qn qc) k (qs.flatMap askCells)) := fun o o' => own_kept (own_kept hown (Kept.alloc _ _ (fun _ => False)) (fun _ _ e => e)) (Kept.alloc _ _ (fun _ => False)) (fun _ _ e => e)
      have HB : Hid (∀ o o', Below w1.heap.size w1 ((wr.alloc o).alloc o')) := fun o o' => (hbr.alloc hbr.size _).alloc (by have := hbr.size; simp; omega) _
      have hown0 := hown
      clear hat hown hx
      by_cases hkh : k < hs.length
      · have hkh' : (k : Int) < (hs.length : Int) := by omega
        obtain ⟨ublk, uoff, rfl, hublk, huat⟩ := hy (by intro e; subst e; simp at hkh)
        have ua := (huat k hkh).below hB hublk
        have u0 := ua.c0
        have u1 := ua.c1
        have u2 := ua.c2
        have u3 := ua.c3
        have ut := ua.t
        have hul : ublk < wr.heap.size := Nat.lt_of_lt_of_le hublk hB.size
        clear ua huat hy
        generalize hs[k] = h at *
        by_cases hm3 : h.what.tmod 3 = 0
        · go_wp2_with (first
            | (go_at_call 19; refine (pick_any _ 3 (by omega) (by omega) _).mono ?_; rintro e w' ⟨rfl, rfl⟩)
            | (at_builtin; refine wpList_append_own_at _ rfl (.tmp 69) (.tmp 71) 49 rfl w1.heap.size 53 i (.agg #[.int .i64 0, .int .u8 0, .int .u64 0, .int .i64 0]) 4 32 Try.underlying49 hi hz0 hz1 hz2 rfl (by omega) (.slice qo qn qc) k (qs.flatMap askCells) rfl (HO.out _ _) ⟨wr.heap.size + 1, 0, none⟩ 1 1 (askCells ⟨(pickN ds[k].what 3 : Int), h.b, h.n, h.t⟩) rfl rfl (cell_four_new2 _ _ _ _ _ _ _) (askCells_one _) (by simp only [maxLen]; omega) (by omega) (HB.out _ _).size ?_; intro v2 w2 hown2 hgrow2 _ _; have hb2 := (HB.out _ _).trans (near_row (HO.out _ _) hgrow2 (fun k hk => (own_base hown0 k hk).1) (HB.out _ _).size hown2)))
          go_roundw
          case rel => exact ⟨k + 1, qs ++ [⟨(pickN ds[k].what 3 : Int), h.b, h.n, h.t⟩], by omega, by go_num, by rw [flat_snoc]; exact hown2, by simp [hql], snoc_t hqt ut, hb2⟩
          case measure => simp [intOf]; omega
        · go_wp2_with (first
            | (go_at_call 19; refine (pick_any _ 3 (by omega) (by omega) _).mono ?_; rintro e w' ⟨rfl, rfl⟩)
            | (at_builtin; refine wpList_append_own_at _ rfl (.tmp 69) (.tmp 71) 49 rfl w1.heap.size 53 i (.agg #[.int .i64 0, .int .u8 0, .int .u64 0, .int .i64 0]) 4 32 Try.underlying49 hi hz0 hz1 hz2 rfl (by omega) (.slice qo qn qc) k (qs.flatMap askCells) rfl (HO.out _ _) ⟨wr.heap.size + 1, 0, none⟩ 1 1 (askCells ⟨(pickN ds[k].what 3 : Int), 255, 18446744073709551615, 1048576⟩) rfl rfl (cell_four_new2 _ _ _ _ _ _ _) (askCells_one _) (by simp only [maxLen]; omega) (by omega) (HB.out _ _).size ?_; intro v2 w2 hown2 hgrow2 _ _; have hb2 := (HB.out _ _).trans (near_row (HO.out _ _) hgrow2 (fun k hk => (own_base hown0 k hk).1) (HB.out _ _).size hown2)))
          go_roundw
          case rel => exact ⟨k + 1, qs ++ [⟨(pickN ds[k].what 3 : Int), 255, 18446744073709551615, 1048576⟩], by omega, by go_num, by rw [flat_snoc]; exact hown2, by simp [hql], snoc_t hqt (by simp), hb2⟩
          case measure => simp [intOf]; omega
      · have hkh' : ¬ (k : Int) < (hs.length : Int) := by omega
        go_wp2_with (first
          | (go_at_call 19; refine (pick_any _ 3 (by omega) (by omega) _).mono ?_; rintro e w' ⟨rfl, rfl⟩)
          | (at_builtin; refine wpList_append_own_at _ rfl (.tmp 69) (.tmp 71) 49 rfl w1.heap.size 53 i (.agg #[.int .i64 0, .int .u8 0, .int .u64 0, .int .i64 0]) 4 32 Try.underlying49 hi hz0 hz1 hz2 rfl (by omega) (.slice qo qn qc) k (qs.flatMap askCells) rfl (HO.out _ _) ⟨wr.heap.size + 1, 0, none⟩ 1 1 (askCells ⟨(pickN ds[k].what 3 : Int), 255, 18446744073709551615, 1048576⟩) rfl rfl (cell_four_new2 _ _ _ _ _ _ _) (askCells_one _) (by simp only [maxLen]; omega) (by omega) (HB.out _ _).size ?_; intro v2 w2 hown2 hgrow2 _ _; have hb2 := (HB.out _ _).trans (near_row (HO.out _ _) hgrow2 (fun k hk => (own_base hown0 k hk).1) (HB.out _ _).size hown2)))
        go_roundw
        case rel => exact ⟨k + 1, qs ++ [⟨(pickN ds[k].what 3 : Int), 255, 18446744073709551615, 1048576⟩], by omega, by go_num, by rw [flat_snoc]; exact hown2, by simp [hql], snoc_t hqt (by simp), hb2⟩
        case measure => simp [intOf]; omega
    · have hk' : k = ds.length := by omega
      have HBs : Hid (Bs wr (.slice (some ⟨k1, 0, none⟩) 0 0) []) := hBs.below hbr
      have HA : Hid (Asks wr (.slice qo qn qc) qs) := Asks.ofOwns hql.symm hown hqt
      clear hx hy hown hBs
      go_wp2_with (first
        | (go_at_call 16; refine (known_any _).mono ?_; rintro r w3 ⟨rfl, hb3⟩)
        | (go_at_call 26; refine (reads_any _ _ [] qs _ (HBs.out.below hb3) (HA.out.below hb3) (by simp) (by omega)).mono ?_; rintro r w4 ⟨rfl, hb4⟩))
      go_ret
      exact ⟨rfl, hB.trans ((hb3.trans (hb4.mono hb3.size)).mono hB.size)⟩

set_option maxRecDepth 20000 in
set_option maxHeartbeats 4000000 in
theorem near_some (v u : Value) (ds : List LayD) (hs : List AskD) (at' : Int) (to : UInt8) (w : World) (hv : Lays w v ds) (hu : Asks w u hs) (h0 : (layAll ds).length ≠ 0) (hl : (layAll ds).length ≤ 100000000) (hn : ds.length ≤ 100000000) (hm : hs.length ≤ 100000000) :
    Calls Try.prog 6 #[v, .int .i64 at', .int .u8 (to.toNat : Int), u] w fun e w' => e = .returned (.bool true) ∧ Below w.heap.size w w' := by
  obtain ⟨ao, cap, rfl, hx⟩ := id hv
  obtain ⟨uo, ucap, rfl, hy⟩ := id hu
  obtain ⟨i, hi, hz0, hz1, hz2⟩ := info_parts Try.infoAsk
  have h0' : (0 : Int) < ((layAll ds).length : Int) := by omega
  have hp := pickN_lt at' (layAll ds).length (by omega)
  generalize hJ : pickN at' (layAll ds).length = j at *
  have HJ : Hid (pickN at' (layAll ds).length = j) := hJ
  clear hJ
  go_enter Try.func6, Try.ntmps6
  go_wp2_with (first
    | (go_at_call 27; refine (laid_any _ ds _ hv (by omega) (by omega)).mono ?_; rintro r w1 ⟨k1, hk1, rfl, hg1, hb1⟩; have hcj : w1.cell? ⟨k1, j, none⟩ = some (.int .u8 ((layAll ds)[j].toNat : Int)) := by { rw [cell_of_row w1 k1 j _ _ _ hg1]; simp [List.getElem?_eq_getElem hp, bv] }; have hfj := frozen_of_row w1 k1 j _ _ hg1)
    | (go_at_call 19; refine (pick_any at' (layAll ds).length (by omega) (by omega) _).mono ?_; rintro r w' ⟨rfl, rfl⟩; rw [HJ.out]))
  have hW1 : Below w.heap.size w (w1.setCell ⟨k1, j, none⟩ (.int .u8 (to.toNat : Int))) := hb1.setCell (Nat.le_of_lt hk1) _
  have hBs : Bs (w1.setCell ⟨k1, j, none⟩ (.int .u8 (to.toNat : Int))) (.slice (some ⟨k1, 0, none⟩) (layAll ds).length (layAll ds).length) ((layAll ds).set j to) := Bs.setAt hg1
  clear hcj hfj hg1 hb1 HJ hv
  generalize w1.setCell ⟨k1, j, none⟩ (.int .u8 (to.toNat : Int)) = W1 at *
  go_loopw [10, 11] (fun q i wr => ∃ (k : Nat) (qs : List AskD), k ≤ ds.length ∧ i = .int .i64 (k : Int) ∧ wr.ownsRow W1.heap.size 53 4 q k (qs.flatMap askCells) ∧ qs.length = k ∧ (∀ d ∈ qs, d.t ≤ 9223372036854775807) ∧ Below W1.heap.size W1 wr) (fun _ i _ => ds.length - (intOf i).toNat)
  case atStart => exact ⟨0, [], Nat.zero_le _, rfl, World.ownsRow_nil _ _ _ _, rfl, fun _ h => by simp at h, Below.refl _ _⟩
  case round =>
    obtain ⟨k, qs, hk, rfl, hown, hql, hqt, hbr⟩ := hrel
    have hB : Below w.heap.size w wr := hW1.trans (hbr.mono hW1.size)
    obtain ⟨qo, qn, qc, hqe⟩ := own_slice hown
    subst hqe
    by_cases hlt : k < ds.length
    · obtain ⟨blk, off, rfl, hblk, hat⟩ := hx (by intro e; subst e; simp at hlt)
      have a0 := ((hat k hlt).below hB hblk).c0
      have HO : Hid (∀ o o', ((wr.alloc o).alloc o').ownsRow W1.heap.size 53 4 (.slice qo qn qc) k (qs.flatMap askCells)) := fun o o' => own_kept (own_kept hown (Kept.alloc _ _ (fun _ => False)) (fun _ _ e => e)) (Kept.alloc _ _ (fun _ => False)) (fun _ _ e => e)
      have HB : Hid (∀ o o', Below W1.heap.size W1 ((wr.alloc o).alloc o')) := fun o o' => (hbr.alloc hbr.size _).alloc (by have := hbr.size; simp; omega) _
      have hown0 := hown
      clear hat hown hx
      by_cases hkh : k < hs.length
      · have hkh' : (k : Int) < (hs.length : Int) := by omega
        obtain ⟨ublk, uoff, rfl, hublk, huat⟩ := hy (by intro e; subst e; simp at hkh)
        have ua := (huat k hkh).below hB hublk
        have u0 := ua.c0
        have u1 := ua.c1
        have u2 := ua.c2
        have u3 := ua.c3
        have ut := ua.t
        have hul : ublk < wr.heap.size := Nat.lt_of_lt_of_le hublk hB.size
        clear ua huat hy
        generalize hs[k] = h at *
        by_cases hm3 : h.what.tmod 3 = 0
        · go_wp2_with (first
            | (go_at_call 19; refine (pick_any _ 3 (by omega) (by omega) _).mono ?_; rintro e w' ⟨rfl, rfl⟩)
            | (at_builtin; refine wpList_append_own_at _ rfl (.tmp 69) (.tmp 71) 49 rfl W1.heap.size 53 i (.agg #[.int .i64 0, .int .u8 0, .int .u64 0, .int .i64 0]) 4 32 Try.underlying49 hi hz0 hz1 hz2 rfl (by omega) (.slice qo qn qc) k (qs.flatMap askCells) rfl (HO.out _ _) ⟨wr.heap.size + 1, 0, none⟩ 1 1 (askCells ⟨(pickN ds[k].what 3 : Int), h.b, h.n, h.t⟩) rfl rfl (cell_four_new2 _ _ _ _ _ _ _) (askCells_one _) (by simp only [maxLen]; omega) (by omega) (HB.out _ _).size ?_; intro v2 w2 hown2 hgrow2 _ _; have hb2 := (HB.out _ _).trans (near_row (HO.out _ _) hgrow2 (fun k hk => (own_base hown0 k hk).1) (HB.out _ _).size hown2)))
          go_roundw
          case rel => exact ⟨k + 1, qs ++ [⟨(pickN ds[k].what 3 : Int), h.b, h.n, h.t⟩], by omega, by go_num, by rw [flat_snoc]; exact hown2, by simp [hql], snoc_t hqt ut, hb2⟩
          case measure => simp [intOf]; omega
        · go_wp2_with (first
            | (go_at_call 19; refine (pick_any _ 3 (by omega) (by omega) _).mono ?_; rintro e w' ⟨rfl, rfl⟩)
            | (at_builtin; refine wpList_append_own_at _ rfl (.tmp 69) (.tmp 71) 49 rfl W1.heap.size 53 i (.agg #[.int .i64 0, .int .u8 0, .int .u64 0, .int .i64 0]) 4 32 Try.underlying49 hi hz0 hz1 hz2 rfl (by omega) (.slice qo qn qc) k (qs.flatMap askCells) rfl (HO.out _ _) ⟨wr.heap.size + 1, 0, none⟩ 1 1 (askCells ⟨(pickN ds[k].what 3 : Int), 255, 18446744073709551615, 1048576⟩) rfl rfl (cell_four_new2 _ _ _ _ _ _ _) (askCells_one _) (by simp only [maxLen]; omega) (by omega) (HB.out _ _).size ?_; intro v2 w2 hown2 hgrow2 _ _; have hb2 := (HB.out _ _).trans (near_row (HO.out _ _) hgrow2 (fun k hk => (own_base hown0 k hk).1) (HB.out _ _).size hown2)))
          go_roundw
          case rel => exact ⟨k + 1, qs ++ [⟨(pickN ds[k].what 3 : Int), 255, 18446744073709551615, 1048576⟩], by omega, by go_num, by rw [flat_snoc]; exact hown2, by simp [hql], snoc_t hqt (by simp), hb2⟩
          case measure => simp [intOf]; omega
      · have hkh' : ¬ (k : Int) < (hs.length : Int) := by omega
        go_wp2_with (first
          | (go_at_call 19; refine (pick_any _ 3 (by omega) (by omega) _).mono ?_; rintro e w' ⟨rfl, rfl⟩)
          | (at_builtin; refine wpList_append_own_at _ rfl (.tmp 69) (.tmp 71) 49 rfl W1.heap.size 53 i (.agg #[.int .i64 0, .int .u8 0, .int .u64 0, .int .i64 0]) 4 32 Try.underlying49 hi hz0 hz1 hz2 rfl (by omega) (.slice qo qn qc) k (qs.flatMap askCells) rfl (HO.out _ _) ⟨wr.heap.size + 1, 0, none⟩ 1 1 (askCells ⟨(pickN ds[k].what 3 : Int), 255, 18446744073709551615, 1048576⟩) rfl rfl (cell_four_new2 _ _ _ _ _ _ _) (askCells_one _) (by simp only [maxLen]; omega) (by omega) (HB.out _ _).size ?_; intro v2 w2 hown2 hgrow2 _ _; have hb2 := (HB.out _ _).trans (near_row (HO.out _ _) hgrow2 (fun k hk => (own_base hown0 k hk).1) (HB.out _ _).size hown2)))
        go_roundw
        case rel => exact ⟨k + 1, qs ++ [⟨(pickN ds[k].what 3 : Int), 255, 18446744073709551615, 1048576⟩], by omega, by go_num, by rw [flat_snoc]; exact hown2, by simp [hql], snoc_t hqt (by simp), hb2⟩
        case measure => simp [intOf]; omega
    · have hk' : k = ds.length := by omega
      have HBs : Hid (Bs wr (.slice (some ⟨k1, 0, none⟩) (layAll ds).length (layAll ds).length) ((layAll ds).set j to)) := hBs.below hbr
      have HA : Hid (Asks wr (.slice qo qn qc) qs) := Asks.ofOwns hql.symm hown hqt
      clear hx hy hown hBs
      go_wp2_with (first
        | (go_at_call 16; refine (known_any _).mono ?_; rintro r w3 ⟨rfl, hb3⟩)
        | (go_at_call 26; refine (reads_any _ _ ((layAll ds).set j to) qs _ (HBs.out.below hb3) (HA.out.below hb3) (by rw [List.length_set]; omega) (by omega)).mono ?_; rintro r w4 ⟨rfl, hb4⟩))
      go_ret
      exact ⟨rfl, hB.trans ((hb3.trans (hb4.mono hb3.size)).mono hB.size)⟩

theorem near_any (v u : Value) (ds : List LayD) (hs : List AskD) (at' : Int) (to : UInt8) (w : World) (hv : Lays w v ds) (hu : Asks w u hs) (hl : (layAll ds).length ≤ 100000000) (hn : ds.length ≤ 100000000) (hm : hs.length ≤ 100000000) :
    Calls Try.prog 6 #[v, .int .i64 at', .int .u8 (to.toNat : Int), u] w fun e w' => e = .returned (.bool true) ∧ Below w.heap.size w w' := by
  by_cases h0 : (layAll ds).length = 0
  · exact near_none v u ds hs at' to w hv hu (List.eq_nil_of_length_eq_zero h0) hl hn hm
  · exact near_some v u ds hs at' to w hv hu h0 hl hn hm

end Go.Proofs.Ytmnajmlfioiboaa
