/- ClockFair: the walk. -/
import Derived.Test.YtojgaiodbdgehaaCkC
import Derived.Test.YtojgaiodbdgehaaCkOwn
import Derived.Test.YtojgaiodbdgehaaCkKnown
import Derived.Deep.QuietTactic
import Derived.BigQuiet
namespace Go.Proofs.Ytojgaiodbdgehaa
open Go.RowKit

theorem below_drew (w : World) (n : Nat) : Below w.heap.size w (w.drewN n) := ⟨rfl, rfl, rfl, Nat.le_refl _, fun _ _ => rfl⟩

theorem own_take {w : World} {base : Nat} {t : TypeId} {n c : Nat} {ao : Option Addr} {l : List Nat} {x : Nat} (h : w.ownsRow base t 1 (.slice ao n c) (l ++ [x]).length ((l ++ [x]).map nv)) :
    n = l.length + 1 ∧ l.length + 1 ≤ c ∧ Ns .u64 w (.slice ao l.length c) l ∧ ∃ b, ao = some ⟨b, 0, none⟩ ∧ b < w.heap.size ∧ base ≤ b ∧ w.cell? ⟨b, l.length, none⟩ = some (.int .u64 (x : Int)) ∧ ∀ i (hi : i < l.length), w.cell? ⟨b, i, none⟩ = some (.int .u64 (l[i] : Int)) := by
  obtain ⟨_, ⟨h1, h0⟩ | ⟨b, cap, cur, e, hb, hg, hn, hm, hs, ht⟩⟩ := h
  · simp at h0
  · simp only [Value.slice.injEq] at e
    obtain ⟨rfl, rfl, rfl⟩ := e
    have hlen : (l ++ [x]).length = l.length + 1 := by simp
    have hcell : ∀ i (hi : i < (l ++ [x]).length), w.cell? ⟨b, i, none⟩ = some (.int .u64 ((l ++ [x])[i] : Int)) := by
      intro i hi
      have h2 : (cur.toList.take ((l ++ [x]).length * 1))[i]? = some (nv (l ++ [x])[i]) := by rw [ht, List.getElem?_map, List.getElem?_eq_getElem hi]; rfl
      rw [cell_of_row w b _ _ _ _ hg]
      rw [List.getElem?_take, if_pos (by omega)] at h2
      simpa [nv] using h2
    have hat : ∀ i (hi : i < l.length), w.cell? ⟨b, i, none⟩ = some (.int .u64 (l[i] : Int)) := by
      intro i hi
      have := hcell i (by omega)
      rw [List.getElem_append_left hi] at this
      exact this
    have hlast := hcell l.length (by omega)
    have hbs : b < w.heap.size := (Array.getElem?_eq_some_iff.1 hg).1
    refine ⟨by omega, by omega, ⟨_, _, rfl, ⟨by omega, fun h => by cases h⟩, fun _ => ⟨b, 0, rfl, hbs, fun i hi => by rw [Nat.zero_add]; exact hat i hi⟩⟩, b, rfl, hbs, hb, by simpa using hlast, hat⟩

set_option maxRecDepth 20000 in
set_option maxHeartbeats 1000000 in
theorem clockFair_any (u d : Nat) (v : Value) (l : List Nat) (w : World) (hv : Ns .u64 w v l) (hl : l.length ≤ 17592186043904) :
    Calls Try.prog 7 #[.int .u64 (u : Int), .int .u64 (d : Int), v] w fun e w' => e = .returned (.bool true) ∧ Below w.heap.size w w' := by
  obtain ⟨ao, cap, rfl, hc, hx⟩ := id hv
  go_enter Try.func7, Try.ntmps7
  go_wp2_with (first
    | (at_builtin; refine append_ns rfl (.tmp 10) (.tmp 11) rfl w.heap.size (.slice (some ⟨w.heap.size, 0, none⟩) 0 0) [] 0 rfl rfl (nown_empty (heap_alloc_new w _)) _ rfl l (hv.below ((Below.refl _ _).alloc (Nat.le_refl _) _)) ((by simp; omega)) (by simp) ?_; intro v1 w1 hown1 hk1 hmv1; rw [List.nil_append] at hown1; have hz1 := hk1.size; simp at hz1; obtain ⟨ao1, n1, c1, hv1⟩ := own_form hown1; subst hv1)
    | (at_builtin; go_must (refine append_ns rfl (.tmp 12) (.tmp 13) rfl w.heap.size (.slice ao1 n1 c1) l l.length rfl rfl (hown1.alloc _) _ rfl [77] (Ns.const w1 [77] _ _ _ _ _ rfl (by rfl) (by rfl)) ((by simp; omega)) ((by simp; omega)) ?_); intro v2 w2 hown2 hk2 hmv2; obtain ⟨ao2, n2, c2, hv2⟩ := own_form hown2; subst hv2; obtain ⟨hn2, hc2, hns2, b2, rfl, hs2, hb2, hlast2, hat2⟩ := own_take hown2; have hs0 : (l.length : Int) ≤ (c2 : Int) := by omega)
    | fail)
  have hB2 : Below w.heap.size w w2 := by
    have q1 : Below w.heap.size w w1 := ((Below.refl _ _).alloc (Nat.le_refl _) _).trans (hk1.below (by simp) (fun i hi e => by simp [Value.ownBlock] at e; omega))
    refine (q1.alloc (by omega) _).trans (hk2.below (by simp; omega) (fun i hi e => ?_))
    have := hown1.lt i e
    omega
  have hz2 := hB2.size
  refine (fair_any u d _ l w2 hns2 (by omega)).mono ?_
  rintro e w3 ⟨rfl, rfl⟩
  clear hown1 hk1 hmv1 hown2 hk2 hmv2 hns2
  go_wp2
  go_loopw [9] (fun i wr => ∃ k : Nat, k ≤ l.length ∧ i = .int .i64 (k : Int) ∧ Below w2.heap.size w2 wr) (fun i _ => l.length - (intOf i).toNat)
  case atStart => exact ⟨0, Nat.zero_le _, rfl, Below.refl _ _⟩
  case round =>
    obtain ⟨k, hk, rfl, hbr⟩ := hrel
    have hzr := hbr.size
    by_cases hlt : k < l.length
    · obtain ⟨blk, off, rfl, hblk, hat⟩ := hx (by intro e; subst e; simp at hlt)
      have a0 := (hbr.cell (p := ⟨blk, off + k, none⟩) (by simp; omega)).trans ((hB2.cell (p := ⟨blk, off + k, none⟩) hblk).trans (hat k hlt))
      have a1 := (hbr.cell (p := ⟨b2, k, none⟩) hs2).trans (hat2 k hlt)
      clear hat hx hat2
      generalize l[k] = x at *
      go_wp2
      go_quiet (fail)
      go_wp2
      go_roundw
      case rel => exact ⟨k + 1, by omega, by go_num, hbr.trans ((below_drew _ _).mono hzr)⟩
      case measure => simp [intOf]; omega
    · have hkl : k = l.length := by omega
      subst hkl
      go_wp2_with fail
      refine (cknown_any wr).mono ?_
      rintro e w4 ⟨rfl, hb4⟩
      have hbz : Below w2.heap.size w2 w4 := hbr.trans (hb4.mono hzr)
      have a1 := (hbz.cell (p := ⟨b2, l.length, none⟩) hs2).trans hlast2
      go_wp2_with fail
      refine (refFair_any u d _ l w4 (hv.below (hB2.trans (hbz.mono hz2))) (by omega)).mono ?_
      rintro e w5 ⟨rfl, rfl⟩
      cases fairB u d l
      · go_wp2
        go_ret
        exact ⟨rfl, hB2.trans (hbz.mono hz2)⟩
      · go_wp2
        go_ret
        exact ⟨rfl, hB2.trans (hbz.mono hz2)⟩

end Go.Proofs.Ytojgaiodbdgehaa
