import Derived.Test.YtdafpfdmnccelaaDoorArDP
/- Alloc, At, Free. -/
/- Free, Room, Used. -/
namespace Go.Proofs.YtdafpfdmnccelaaDoor
open Go.RowKit

theorem AR.two {w w' : World} {b n : Nat} {bs : List Bk} {x : Bk} (h : AR w b bs) (hn : n < bs.length) (ht : Two w w' b (1 + n * 2) (.int .i64 (x.c : Int)) (.int .u32 (x.t : Int))) : AR w' b (bs.set n x) :=
  h.set n x hn ht.1 (fun cs hc => ht.2 cs _ hc)

set_option maxRecDepth 20000 in
set_option maxHeartbeats 1000000 in
theorem alloc_any (b : Nat) (bs : List Bk) (s : Int) (hO : AO bs) (w : World) (h : AR w b bs) :
    Calls Tryd.prog 52 #[.pointer (some ⟨b, 0, none⟩), .int .i64 s] w fun e w' => e = .returned (.tuple #[.int .i64 ((allocR bs s).1 : Int), .int .i64 ((allocR bs s).2 : Int)]) ∧ AR w' b (allocL bs s) ∧ Kept w w' (fun k => k = b) := by
  unfold allocR allocL
  by_cases hz : classN s = 0
  · rw [if_pos hz, if_pos hz]
    have hC := fun w => class_any s w
    rw [hz] at hC
    go_enter Tryd.func52, Tryd.ntmps52
    go_wp2_with (go_at_call 70; refine (hC _).mono ?_; rintro e _ ⟨rfl, rfl⟩)
    go_ret2
    exact ⟨rfl, h, Kept.refl _ _⟩
  rw [if_neg hz, if_neg hz]
  have hk := classN_ne hz
  have hC := fun w => class_any s w
  generalize classN s = k at *
  have hk16 := hk.le
  have hk0 : ((k : Int) == 0) = false := by rw [beq_eq_false_iff_ne]; omega
  have hP := fun w (h : AR w b bs) => pick_any' b k bs hk hO w h
  cases hp : pickB k bs with
  | none =>
    have e : pickV k bs = (0, false) := by unfold pickV; rw [hp]
    rw [e] at hP
    clear e hp
    go_enter Tryd.func52, Tryd.ntmps52
    go_wp2_with (first
      | (go_at_call 70; refine (hC _).mono ?_; rintro e _ ⟨rfl, rfl⟩)
      | (go_at_call 71; refine (hP _ h).mono ?_; rintro e w1 ⟨rfl, hb1⟩))
    go_ret2
    exact ⟨rfl, h.below hb1, kept_of_below hb1 _⟩
  | some n =>
    have e : pickV k bs = (n, true) := by unfold pickV; rw [hp]
    rw [e] at hP
    obtain ⟨hn, _⟩ := pickB_lt hp
    clear e hp
    simp only [getD_at hn]
    have hlen := h.len
    have hni : (n : Int) < 256 := by omega
    have hn0 : (0 : Int) ≤ (n : Int) := by omega
    have c0 := fun w (h : AR w b bs) => h.cls n hn
    have c1 := fun w (h : AR w b bs) => h.tkn n hn
    have hOk := hO bs[n] (List.getElem_mem hn)
    have HS : Hid (∀ w w', AR w b bs → Two w w' b (1 + n * 2) (.int .i64 (k : Int)) (.int .u32 ((bs[n].t ||| 2 ^ placeN bs[n].t : Nat) : Int)) → AR w' b (bs.set n (takeB bs[n] k))) := fun w w' h ht => AR.two (x := takeB bs[n] k) h hn ht
    generalize bs[n] = x at *
    have hpl := placeN_lt x.t hOk.lt
    have hpk := (mul_small (placeN x.t) k (by omega) hk16).2
    have hT := fun w (h : AR w b bs) => take_any b (1 + n * 2) x.c x.t k w h.tb (c0 w h) (c1 w h) (h.free _) (h.free _) hOk.lt hk16
    have hW : (n : Int) * 16 + ((placeN x.t * k : Nat) : Int) = ((n * 16 + placeN x.t * k : Nat) : Int) := by omega
    generalize placeN x.t * k = M at *
    have HW : Hid ((n : Int) * 16 + (M : Int) = ((n * 16 + M : Nat) : Int)) := hW
    clear hW c0 c1
    go_enter Tryd.func52, Tryd.ntmps52
    go_wp2_with (first
      | (go_at_call 70; refine (hC _).mono ?_; rintro e _ ⟨rfl, rfl⟩)
      | (go_at_call 71; refine (hP _ h).mono ?_; rintro e w1 ⟨rfl, hb1⟩; have h1 := h.below hb1)
      | (go_at_call 72; refine (hT _ h1).mono ?_; rintro e w2 ⟨rfl, ht2⟩))
    go_ret2
    refine ⟨?_, HS.out _ _ h1 ht2, (kept_of_below hb1 _).trans ht2.1 (fun _ _ e => e)⟩
    simp only [HW.out]
    rfl

set_option maxRecDepth 20000 in
set_option maxHeartbeats 1000000 in
theorem at_any (b : Nat) (bs : List Bk) (i : Int) (hO : AO bs) (w : World) (h : AR w b bs) :
    Calls Tryd.prog 74 #[.pointer (some ⟨b, 0, none⟩), .int .i64 i] w fun e w' => e = .returned (.int .i64 (atB bs i : Nat)) ∧ Below w.heap.size w w' := by
  unfold atB
  have hl : bs.length ≤ 256 := h.len
  have cn := h.cnt
  by_cases h1 : i < 0
  · rw [if_pos (Or.inl h1)]
    go_enter Tryd.func74, Tryd.ntmps74
    go_wp2
    go_ret
    exact ⟨rfl, Below.refl _ _⟩
  by_cases h2 : (bs.length * 16 : Int) ≤ i
  · rw [if_pos (Or.inr h2)]
    go_enter Tryd.func74, Tryd.ntmps74
    go_wp2
    go_ret
    exact ⟨rfl, Below.refl _ _⟩
  rw [if_neg (by omega)]
  obtain ⟨c, rfl⟩ : ∃ c : Nat, i = (c : Int) := ⟨i.toNat, by omega⟩
  simp only [Int.toNat_natCast]
  have hq : (c : Int) / 16 = ((c / 16 : Nat) : Int) := by omega
  have hm : (c : Int) % 16 = ((c % 16 : Nat) : Int) := by omega
  have hn : c / 16 < bs.length := by omega
  have hr : c % 16 < 16 := by omega
  rw [getD_at hn]
  have c0 := h.cls (c / 16) hn
  have c1 := h.tkn (c / 16) hn
  have hOk := hO bs[c / 16] (List.getElem_mem hn)
  generalize bs[c / 16] = x at *
  generalize c / 16 = n at *
  generalize c % 16 = r at *
  have hni : (n : Int) < 256 := by omega
  go_enter Tryd.func74, Tryd.ntmps74
  go_wp2_with (go_at_call 80; refine (bat_any x r hOk.lt hr _).mono ?_; rintro e w1 ⟨rfl, hb1⟩)
  go_ret
  exact ⟨rfl, hb1⟩

end Go.Proofs.YtdafpfdmnccelaaDoor

namespace Go.Proofs.YtdafpfdmnccelaaDoor
open Go.RowKit

theorem atB_bounds {bs : List Bk} {i : Int} (h : atB bs i ≠ 0) : 0 ≤ i ∧ i.toNat / 16 < bs.length := by
  unfold atB at h
  split at h
  · exact absurd rfl h
  · omega
theorem atB_cls {bs : List Bk} {c : Nat} (h : atB bs (c : Int) ≠ 0) : atB bs (c : Int) = (bs.getD (c / 16) bk0).c ∧ (bs.getD (c / 16) bk0).c ≠ 0 := by
  unfold atB at h ⊢
  split
  · next h1 => rw [if_pos h1] at h; exact absurd rfl h
  · next h1 =>
    rw [if_neg h1] at h
    simp only [Int.toNat_natCast] at h ⊢
    unfold atN at h ⊢
    split
    · next h2 => rw [if_pos h2] at h; exact absurd rfl h
    · next h2 => exact ⟨rfl, fun e => h2 (Or.inl e)⟩

set_option maxRecDepth 20000 in
set_option maxHeartbeats 1000000 in
theorem free_any (b : Nat) (bs : List Bk) (i : Int) (hO : AO bs) (w : World) (h : AR w b bs) :
    Calls Tryd.prog 54 #[.pointer (some ⟨b, 0, none⟩), .int .i64 i] w fun e w' => e = .returned (.int .i64 (freeR bs i : Nat)) ∧ AR w' b (freeL bs i) ∧ Kept w w' (fun k => k = b) := by
  have hA := fun w (h : AR w b bs) => at_any b bs i hO w h
  unfold freeR freeL
  by_cases hz : atB bs i = 0
  · rw [if_pos hz, if_pos hz]
    rw [hz] at hA
    clear hz
    go_enter Tryd.func54, Tryd.ntmps54
    go_wp2_with (go_at_call 74; refine (hA _ h).mono ?_; rintro e w1 ⟨rfl, hb1⟩)
    go_ret
    exact ⟨rfl, h.below hb1, kept_of_below hb1 _⟩
  rw [if_neg hz, if_neg hz]
  obtain ⟨h0, hn⟩ := atB_bounds hz
  obtain ⟨c, rfl⟩ : ∃ c : Nat, i = (c : Int) := ⟨i.toNat, by omega⟩
  simp only [Int.toNat_natCast] at hn ⊢
  obtain ⟨hE, hc0⟩ := atB_cls hz
  rw [hE] at hA
  clear hE hz h0
  have hl := h.len
  have hq : (c : Int) / 16 = ((c / 16 : Nat) : Int) := by omega
  have hm : (c : Int) % 16 = ((c % 16 : Nat) : Int) := by omega
  have hr : c % 16 < 16 := by omega
  rw [getD_at hn] at hA hc0 ⊢
  have c0 := fun w (h : AR w b bs) => h.cls (c / 16) hn
  have c1 := fun w (h : AR w b bs) => h.tkn (c / 16) hn
  have hOk := hO bs[c / 16] (List.getElem_mem hn)
  have HS : Hid (∀ w w', AR w b bs → Two w w' b (1 + c / 16 * 2) (.int .i64 ((dropN bs[c / 16] (c % 16)).c : Int)) (.int .u32 ((dropN bs[c / 16] (c % 16)).t : Int)) → AR w' b (bs.set (c / 16) (dropN bs[c / 16] (c % 16)))) := fun w w' h ht => AR.two h hn ht
  generalize bs[c / 16] = x at *
  generalize c / 16 = n at *
  generalize c % 16 = r at *
  have hni : (n : Int) < 256 := by omega
  have hci : ((x.c : Int) == 0) = false := by rw [beq_eq_false_iff_ne]; omega
  have hIs : IsC x.c := by
    rcases hOk with ⟨h1, _⟩ | ⟨h1, _⟩
    · exact absurd h1 hc0
    · exact h1
  have hD := fun w (h : AR w b bs) => drop_any b (1 + n * 2) r x w hIs (c0 w h) (c1 w h) (h.free _) (h.free _) hOk.lt hr
  clear c0 c1
  go_enter Tryd.func54, Tryd.ntmps54
  go_wp2_with (first
    | (go_at_call 74; refine (hA _ h).mono ?_; rintro e w1 ⟨rfl, hb1⟩; have h1 := h.below hb1)
    | (go_at_call 75; refine (hD _ h1).mono ?_; rintro e w2 ⟨rfl, ht2⟩))
  go_ret
  exact ⟨rfl, HS.out _ _ h1 ht2, (kept_of_below hb1 _).trans ht2.1 (fun _ _ e => e)⟩



end Go.Proofs.YtdafpfdmnccelaaDoor
