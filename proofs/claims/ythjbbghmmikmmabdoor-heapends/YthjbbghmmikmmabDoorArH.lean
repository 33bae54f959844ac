/- Free, Room, Used. -/
import Derived.Test.YthjbbghmmikmmabDoorArG
namespace Go.Proofs.YthjbbghmmikmmabDoor
open Go.RowKit

theorem atB_bounds {bs : List Bk} {i : Int} (h : atB bs i ≠ 0) : 0 ≤ i ∧ i.toNat / 16 < bs.length := by
  unfold atB at h
  split at h
  · exact absurd rfl h
  · omega
theorem atB_cls {bs : List Bk} {c : Nat} (h : atB bs (c : Int) ≠ 0) : atB bs (c : Int) = (bs.getD (c / 16) bk0).c ∧ (bs.getD (c / 16) bk0).c ≠ 0 := by
  unfold atB at h ⊢
  split
  · next h1 => rw [if_pos h1] at h; exact absurd rfl h
  · next h1 =>
    rw [if_neg h1] at h
    simp only [Int.toNat_natCast] at h ⊢
    unfold atN at h ⊢
    split
    · next h2 => rw [if_pos h2] at h; exact absurd rfl h
    · next h2 => exact ⟨rfl, fun e => h2 (Or.inl e)⟩

set_option maxRecDepth 20000 in
set_option maxHeartbeats 1000000 in
theorem free_any (b : Nat) (bs : List Bk) (i : Int) (hO : AO bs) (w : World) (h : AR w b bs) :
    Calls Tryd.prog 15 #[.pointer (some ⟨b, 0, none⟩), .int .i64 i] w fun e w' => e = .returned (.int .i64 (freeR bs i : Nat)) ∧ AR w' b (freeL bs i) ∧ Kept w w' (fun k => k = b) := by
  have hA := fun w (h : AR w b bs) => at_any b bs i hO w h
  unfold freeR freeL
  by_cases hz : atB bs i = 0
  · rw [if_pos hz, if_pos hz]
    rw [hz] at hA
    clear hz
    go_enter Tryd.func15, Tryd.ntmps15
    go_wp2_with (go_at_call 20; refine (hA _ h).mono ?_; rintro e w1 ⟨rfl, hb1⟩)
    go_ret
    exact ⟨rfl, h.below hb1, kept_of_below hb1 _⟩
  rw [if_neg hz, if_neg hz]
  obtain ⟨h0, hn⟩ := atB_bounds hz
  obtain ⟨c, rfl⟩ : ∃ c : Nat, i = (c : Int) := ⟨i.toNat, by omega⟩
  simp only [Int.toNat_natCast] at hn ⊢
  obtain ⟨hE, hc0⟩ := atB_cls hz
  rw [hE] at hA
  clear hE hz h0
  have hl := h.len
  have hq : (c : Int) / 16 = ((c / 16 : Nat) : Int) := by omega
  have hm : (c : Int) % 16 = ((c % 16 : Nat) : Int) := by omega
  have hr : c % 16 < 16 := by omega
  rw [getD_at hn] at hA hc0 ⊢
  have c0 := fun w (h : AR w b bs) => h.cls (c / 16) hn
  have c1 := fun w (h : AR w b bs) => h.tkn (c / 16) hn
  have hOk := hO bs[c / 16] (List.getElem_mem hn)
  have HS : Hid (∀ w w', AR w b bs → Two w w' b (1 + c / 16 * 2) (.int .i64 ((dropN bs[c / 16] (c % 16)).c : Int)) (.int .u32 ((dropN bs[c / 16] (c % 16)).t : Int)) → AR w' b (bs.set (c / 16) (dropN bs[c / 16] (c % 16)))) := fun w w' h ht => AR.two h hn ht
  generalize bs[c / 16] = x at *
  generalize c / 16 = n at *
  generalize c % 16 = r at *
  have hni : (n : Int) < 256 := by omega
  have hci : ((x.c : Int) == 0) = false := by rw [beq_eq_false_iff_ne]; omega
  have hIs : IsC x.c := by
    rcases hOk with ⟨h1, _⟩ | ⟨h1, _⟩
    · exact absurd h1 hc0
    · exact h1
  have hD := fun w (h : AR w b bs) => drop_any b (1 + n * 2) r x w hIs (c0 w h) (c1 w h) (h.free _) (h.free _) hOk.lt hr
  clear c0 c1
  go_enter Tryd.func15, Tryd.ntmps15
  go_wp2_with (first
    | (go_at_call 20; refine (hA _ h).mono ?_; rintro e w1 ⟨rfl, hb1⟩; have h1 := h.below hb1)
    | (go_at_call 21; refine (hD _ h1).mono ?_; rintro e w2 ⟨rfl, ht2⟩))
  go_ret
  exact ⟨rfl, HS.out _ _ h1 ht2, (kept_of_below hb1 _).trans ht2.1 (fun _ _ e => e)⟩



end Go.Proofs.YthjbbghmmikmmabDoor
