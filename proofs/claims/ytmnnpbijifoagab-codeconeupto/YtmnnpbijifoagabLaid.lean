/- What the law lays by the program: the walk of 'laid'. -/
import Derived.Test.YtmnnpbijifoagabLayMath
namespace Go.Proofs.Ytmnnpbijifoagab
open Go.RowKit

/-- The cells of one. -/
structure LayAt (w : World) (blk o : Nat) (d : LayD) : Prop where
  c0 : w.cell? ⟨blk, o, none⟩ = some (.int .i64 d.what)
  c1 : w.cell? ⟨blk, o + 1, none⟩ = some (.int .u8 (d.b.toNat : Int))
  c2 : w.cell? ⟨blk, o + 2, none⟩ = some (.int .u64 (d.n : Int))
  c3 : ∃ tv, w.cell? ⟨blk, o + 3, none⟩ = some tv ∧ Bs w tv d.t
  n : d.n < 18446744073709551616

/-- A slice of such things. -/
def Lays (w : World) (v : Value) (ds : List LayD) : Prop :=
  ∃ ao cap, v = .slice ao ds.length cap ∧ (ds ≠ [] → ∃ blk off, ao = some ⟨blk, off, none⟩ ∧ blk < w.heap.size ∧ ∀ i (hi : i < ds.length), LayAt w blk (off + i * 4) ds[i])

theorem LayAt.below {w w' : World} {blk o : Nat} {d : LayD} (h : LayAt w blk o d) (hb : Below w.heap.size w w') (hlt : blk < w.heap.size) : LayAt w' blk o d := by
  obtain ⟨tv, h3, h4⟩ := h.c3
  exact ⟨(hb.cell (p := ⟨blk, o, none⟩) hlt).trans h.c0, (hb.cell (p := ⟨blk, o + 1, none⟩) hlt).trans h.c1, (hb.cell (p := ⟨blk, o + 2, none⟩) hlt).trans h.c2, ⟨tv, (hb.cell (p := ⟨blk, o + 3, none⟩) hlt).trans h3, h4.below hb⟩, h.n⟩

theorem Lays.below {w w' : World} {v : Value} {ds : List LayD} (h : Lays w v ds) (hb : Below w.heap.size w w') : Lays w' v ds := by
  obtain ⟨ao, cap, rfl, hx⟩ := h
  refine ⟨ao, cap, rfl, fun hne => ?_⟩
  obtain ⟨blk, off, rfl, hlt, hat⟩ := hx hne
  exact ⟨blk, off, rfl, Nat.lt_of_lt_of_le hlt hb.size, fun i hi => (hat i hi).below hb hlt⟩

theorem pick3 (n : Int) : pickN n 3 = 0 ∨ pickN n 3 = 1 ∨ pickN n 3 = 2 := by
  have := pickN_lt n 3 (by omega)
  omega

/-- A text that lay there ahead of the Writer is none of its blocks. -/
theorem Bs.apart_old {w wr : World} {tv vv : Value} {t l : List UInt8} (ht : Bs w tv t) (hr : WR wr w.heap.size vv l) : ∀ k, t ≠ [] → tv.ownBlock = some k → k < wr.heap.size → ¬ WS w.heap.size vv k := by
  intro k hne hk _ e
  obtain ⟨ao, cap, rfl, _, hx⟩ := ht
  obtain ⟨b, off, rfl, hlt, _⟩ := hx hne
  simp only [Value.ownBlock, Option.some.injEq] at hk
  rcases e with e | e
  · omega
  · have := hr.apart k e; omega

set_option maxRecDepth 20000 in
set_option maxHeartbeats 1000000 in
theorem laid_any (v : Value) (ds : List LayD) (w : World) (hv : Lays w v ds) (hl : (layAll ds).length + 20 ≤ 140737488355328) (hn : ds.length ≤ 140737488355328) :
    Calls Try.prog 31 #[v] w fun e w' => ∃ k, w.heap.size < k ∧ e = .returned (.slice (some ⟨k, 0, none⟩) (layAll ds).length (layAll ds).length) ∧
      w'.heap[k]? = some (.cells ((layAll ds).map bv).toArray 5 (0, 0)) ∧ Below w.heap.size w w' := by
  obtain ⟨ao, cap, rfl, hx⟩ := hv
  generalize hB : w.heap.size = B
  have HB : Hid (w.heap.size = B) := hB
  go_enter Try.func31, Try.ntmps31
  go_wp2_with (go_at_call 18; refine (newWriter_any _).mono ?_; rintro e w1 ⟨rfl, hw1, hb1⟩; rw [HB.out] at hw1 hb1 ⊢)
  clear HB
  have h1 : Lays w1 (.slice ao ds.length cap) ds := Lays.below ⟨ao, cap, rfl, hx⟩ (by rw [hB]; exact hb1)
  subst hB
  go_loopw [4] (fun i wr => ∃ (k : Nat) (vv : Value), k ≤ ds.length ∧ i = .int .i64 k ∧ WR wr w.heap.size vv (layAll (ds.take k)) ∧ Below w.heap.size w wr) (fun i _ => ds.length - (intOf i).toNat)
  case atStart => exact ⟨0, _, Nat.zero_le _, rfl, hw1, hb1⟩
  case round =>
    obtain ⟨k, vv, hk, rfl, hwr, hbr⟩ := hrel
    by_cases hlt : k < ds.length
    · obtain ⟨blk, off, rfl, hblk, hat⟩ := hx (by intro e; subst e; simp at hlt)
      have ha := (hat k hlt).below hbr hblk
      have hstep := layAll_step_le ds k hlt
      have HT : Hid (layAll (ds.take (k + 1)) = layAll (ds.take k) ++ layOne ds[k]) := layAll_take ds k hlt
      have a0 := ha.c0
      obtain ⟨tv, a3w, ht0⟩ := (hat k hlt).c3
      have a3 := (hbr.cell (p := ⟨blk, off + k * 4 + 3, none⟩) hblk).trans a3w
      have ht := ht0.below hbr
      clear a3w hat h1 hx hw1 hb1
      generalize ds[k] = d at *
      rcases pick3 d.what with h0 | h0 | h0
      · have a1 := ha.c1
        have HL : Hid (layOne d = [d.b]) := layOne_byte h0
        have HP : Hid (pickN d.what 3 = 0) := h0
        clear h0
        go_wp2_with (first
          | (go_at_call 16; refine (pick_any d.what 3 (by omega) (by omega) _).mono ?_; rintro e w' ⟨rfl, rfl⟩; rw [HP.out])
          | (go_at_call 20; refine (wbyte_to _ _ vv _ _ d.b rfl hwr (by omega)).mono ?_; rintro e w2 ⟨rfl, v2, hto⟩))
        go_roundw
        case rel =>
          refine ⟨k + 1, v2, by omega, by go_num, ?_, hbr.trans (hto.below hwr)⟩
          rw [HT.out, HL.out]
          exact hto.wr
        case measure => simp [intOf]; omega
      · have a2 := ha.c2
        have hdn := ha.n
        have HL : Hid (layOne d = numB d.n) := layOne_num h0
        have HP : Hid (pickN d.what 3 = 1) := h0
        clear h0
        go_wp2_with (first
          | (go_at_call 16; refine (pick_any d.what 3 (by omega) (by omega) _).mono ?_; rintro e w' ⟨rfl, rfl⟩; rw [HP.out])
          | (go_at_call 21; refine (wnum_any _ _ vv _ d.n hdn hwr (by omega)).mono ?_; rintro e w2 ⟨rfl, v2, hto⟩))
        go_roundw
        case rel =>
          refine ⟨k + 1, v2, by omega, by go_num, ?_, hbr.trans (hto.below hwr)⟩
          rw [HT.out, HL.out]
          exact hto.wr
        case measure => simp [intOf]; omega
      · have HL : Hid (layOne d = numB d.t.length ++ d.t) := layOne_text h0
        have HP : Hid (pickN d.what 3 = 2) := h0
        have htl : (layAll (ds.take k)).length + d.t.length + 10 ≤ 140737488355328 := by
          rw [layOne_text h0, List.length_append] at hstep
          omega
        clear h0 hstep
        have hap := ht0.apart_old hwr
        obtain ⟨ta, tc, hte, hrest⟩ := id ht
        subst hte
        clear hrest ht0
        go_wp2_with (first
          | (go_at_call 16; refine (pick_any d.what 3 (by omega) (by omega) _).mono ?_; rintro e w' ⟨rfl, rfl⟩; rw [HP.out])
          | (go_at_call 23; refine (wtext_any _ _ vv _ _ d.t ht hap hwr htl).mono ?_; rintro e w2 ⟨rfl, v2, hto⟩))
        go_roundw
        case rel =>
          refine ⟨k + 1, v2, by omega, by go_num, ?_, hbr.trans (hto.below hwr)⟩
          rw [HT.out, HL.out]
          exact hto.wr
        case measure => simp [intOf]; omega
    · have hkl : k = ds.length := by omega
      rw [hkl, List.take_length] at hwr
      have hlen : (layAll ds).length ≤ 140737488355328 := by omega
      have hz := hwr.lt
      clear hkl hx hb1 hw1 h1
      go_wp2_with (go_at_call 25; refine (wbytes_any _ _ vv _ hwr hlen).mono ?_; rintro e w2 ⟨rfl, hg, hb2, hlt2⟩)
      go_ret
      exact ⟨_, hz, rfl, hg, hbr.trans (hb2.mono (by omega))⟩

end Go.Proofs.Ytmnnpbijifoagab
