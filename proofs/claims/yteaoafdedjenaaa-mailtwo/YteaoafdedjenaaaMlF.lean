/- MailTwo. -/
import Derived.Test.YteaoafdedjenaaaMlE
import Derived.Test.YteaoafdedjenaaaMlD
import Derived.Deep.CutRange
import Derived.Deep.CutBlock
namespace Go.Proofs.Yteaoafdedjenaaa
open Go.RowKit Go.Conc

def evs : Bool → List Int → List Int
  | _, [] => []
  | true, x :: l => x :: evs false l
  | false, _ :: l => evs true l

theorem evs_snoc : ∀ (b : Bool) (l : List Int) (x : Int), evs b (l ++ [x]) = if (l.length % 2 = 0 ∧ b = true) ∨ (l.length % 2 = 1 ∧ b = false) then evs b l ++ [x] else evs b l := by
  intro b l
  induction l generalizing b with
  | nil => intro x; cases b <;> simp [evs]
  | cons y l ih =>
    intro x
    cases b
    · simp only [List.cons_append, evs, ih, List.length_cons]
      by_cases h : l.length % 2 = 0
      · simp [h, show (l.length + 1) % 2 = 1 by omega]
      · simp [show l.length % 2 = 1 by omega, show (l.length + 1) % 2 = 0 by omega]
    · simp only [List.cons_append, evs, ih, List.length_cons]
      by_cases h : l.length % 2 = 0
      · simp [h, show (l.length + 1) % 2 = 1 by omega]
      · simp [show l.length % 2 = 1 by omega, show (l.length + 1) % 2 = 0 by omega]
theorem evs_even (l : List Int) (x : Int) (h : l.length % 2 = 0) : evs true (l ++ [x]) = evs true l ++ [x] ∧ evs false (l ++ [x]) = evs false l := by
  rw [evs_snoc, evs_snoc]
  simp [h]
theorem evs_odd (l : List Int) (x : Int) (h : l.length % 2 = 1) : evs true (l ++ [x]) = evs true l ∧ evs false (l ++ [x]) = evs false l ++ [x] := by
  rw [evs_snoc, evs_snoc]
  simp [h]
theorem evs_len : ∀ (b : Bool) (l : List Int), (evs b l).length = (l.length + b.toNat) / 2 := by
  intro b l
  induction l generalizing b with
  | nil => cases b <;> simp [evs]
  | cons y l ih => cases b <;> simp [evs, ih] <;> omega

theorem Vs.ofNs {w : World} {v : Value} {xs : List Int} (h : Vs w v (xs.map (Value.int .i64))) : ∃ ao cap, v = .slice ao xs.length cap ∧ xs.length ≤ cap ∧ (ao = none → cap = 0) := by
  obtain ⟨ao, cap, rfl, hc, _⟩ := h
  exact ⟨ao, cap, by rw [List.length_map], by simpa using hc.1, hc.2⟩

/-- Two boxes of sixteen, at g and behind. -/
structure TB (w wr : World) (g : Nat) (A B : List Int) : Prop where
  a : BX wr 49 (g + 1) g 16 (A.map (Value.int .i64))
  b : BX wr 49 (g + 3) (g + 2) 16 (B.map (Value.int .i64))
  bel : Below g w wr
theorem TB.setA {w wr w' : World} {g : Nat} {A B A' : List Int} (h : TB w wr g A B) (hk : Kept wr w' (fun k => k = g)) (ha : BX w' 49 (g + 1) g 16 (A'.map (Value.int .i64))) : TB w w' g A' B :=
  ⟨ha, h.b.kept hk (by show ¬ (g + 3 = g); omega) (by show ¬ (g + 2 = g); omega), h.bel.trans (hk.below (Nat.le_of_lt h.a.lt.2) (fun i hi => by show ¬ (i = g); omega))⟩
theorem TB.setB {w wr w' : World} {g : Nat} {A B B' : List Int} (h : TB w wr g A B) (hk : Kept wr w' (fun k => k = g + 2)) (hb : BX w' 49 (g + 3) (g + 2) 16 (B'.map (Value.int .i64))) : TB w w' g A B' :=
  ⟨h.a.kept hk (by show ¬ (g + 1 = g + 2); omega) (by show ¬ (g = g + 2); omega), hb, h.bel.trans (hk.below (Nat.le_of_lt h.a.lt.2) (fun i hi => by show ¬ (i = g + 2); omega))⟩

theorem take_next {α : Type} (L : List α) (k : Nat) (h : k < L.length) : L.take (k + 1) = L.take k ++ [L[k]] := List.take_succ_eq_append_getElem h
theorem drop_at {α : Type} (L : List α) (k : Nat) (h : k < L.length) : L.drop k = L[k] :: L.drop (k + 1) := List.drop_eq_getElem_cons h

set_option maxRecDepth 20000 in
set_option maxHeartbeats 1000000 in
theorem mailTwo_any (xs : List Int) (v : Value) (w : World) (hv : Vs w v (xs.map (Value.int .i64))) (hr : xs.length ≤ 140737488355328) :
    Calls Try.prog 6 #[v] w fun e w' => e = .returned (.bool true) ∧ Below w.heap.size w w' := by
  obtain ⟨ao, cap, rfl, hcap, hnone⟩ := hv.ofNs
  obtain ⟨m, hm⟩ : ∃ m, m = min xs.length 32 := ⟨_, rfl⟩
  have HM : Hid (m = min xs.length 32) := hm
  obtain ⟨L, hL⟩ : ∃ L, L = xs.take m := ⟨_, rfl⟩
  have hvL : Vs w (.slice ao m cap) (L.map (Value.int .i64)) := by
    rw [hL, List.map_take]
    exact hv.take m (by simp; omega)
  have hLl : L.length = m := by rw [hL, List.length_take]; omega
  have HL : Hid (L.length = m) := hLl
  have hm32 : m ≤ 32 := by omega
  have hmc : m ≤ cap := by omega
  clear hm hL hLl hv
  go_enter Try.func6, Try.ntmps6
  go_upto_region 5 with (first
    | (go_at_call 7; refine (newI_ok 16 (by omega) (by omega) w).mono ?_; rintro e w1 ⟨rfl, h1, hb1, hs1⟩; generalize hG : w.heap.size = g at *)
    | (go_at_call 7; refine (newI_ok 16 (by omega) (by omega) w1).mono ?_; rintro e w2 ⟨rfl, h2, hb2, hs2⟩; have h12 := h1.kept (kept_of_below hb2 (fun _ => False)) id id; rw [hs1] at h2 hb2 hs2; clear h1)
    | (go_at_call 9; refine (mknown_any _).mono ?_; rintro e w3 ⟨rfl, hb3⟩; have ht3 : TB w w3 g [] [] := ⟨h12.kept (kept_of_below hb3 (fun _ => False)) id id, h2.kept (kept_of_below hb3 (fun _ => False)) id id, (hb1.trans (hb2.mono (by omega))).trans (hb3.mono (by omega))⟩; clear h12 h2 hb1 hb2 hb3))
  go_cut [0] from 37 to 41 (fun a wc => a = .slice ao m cap ∧ wc = w3)
  case first =>
    by_cases h60 : xs.length ≤ 32
    · have e : m = xs.length := by rw [HM.out]; omega
      subst e
      have h61 : ¬ (32 : Int) < (xs.length : Int) := by omega
      go_wp2
      go_meet
      exact ⟨rfl, rfl⟩
    · have e : m = 32 := by rw [HM.out]; omega
      subst e
      have h61 : ¬ (xs.length : Int) < 32 := by omega
      have h62 : (32 : Int) < (xs.length : Int) := by omega
      go_wp2
      go_meet
      exact ⟨rfl, rfl⟩
  case rest =>
    obtain ⟨rfl, hwc⟩ := hcut
    subst hwc
    go_upto_block 0 with fail
    go_cut [7] from 42 to 62 (fun _ wc => TB w wc g (evs true L) (evs false L))
    case first =>
      go_wp2
      go_loopw [7] (fun i wr => ∃ k : Nat, k ≤ m ∧ i = .int .i64 (k : Int) ∧ TB w wr g (evs true (L.take k)) (evs false (L.take k))) (fun i _ => m - (intOf i).toNat)
      case atStart => exact ⟨0, Nat.zero_le _, rfl, by simpa [evs] using ht3⟩
      case round =>
        obtain ⟨k, hk, rfl, ht⟩ := hrel
        clear ht3
        by_cases hlt : k < m
        · have hkL : k < L.length := by rw [HL.out]; exact hlt
          obtain ⟨b, off, hao, hbl, hc⟩ := (hvL.below (by rw [hG]; exact ht.bel)).cell k (by simpa using hkL)
          subst hao
          simp only [List.getElem_map] at hc
          have HT : Hid (L.take (k + 1) = L.take k ++ [L[k]]) := take_next L k hkL
          have HK : Hid ((L.take k).length = k) := by have e : (L.take k).length = k := by { rw [List.length_take]; omega }; exact e
          have e1 := evs_len true (L.take k)
          have e2 := evs_len false (L.take k)
          rw [HK.out] at e1 e2
          have hk0 : (k : Int) < (m : Int) := by omega
          generalize L[k] = x at *
          by_cases h2 : k % 2 = 0
          · have h3 : (k : Int) % 2 = 0 := by omega
            have h4 : (k : Int).tmod 2 = 0 := by rw [Int.tmod_eq_emod_of_nonneg (by omega)]; exact h3
            have hle : (evs true (L.take k)).length < 16 := by rw [e1]; simp; omega
            obtain ⟨s1, s2⟩ := evs_even (L.take k) x (by rw [HK.out]; omega)
            rw [← HT.out] at s1 s2
            have HS1 : Hid (evs true (L.take (k + 1)) = _) := s1
            have HS2 : Hid (evs false (L.take (k + 1)) = _) := s2
            clear s1 s2 e1 e2
            go_wp2_with (go_at_call 15; refine (putI_room (g + 1) (g) 16 _ x _ ht.a (by simpa using hle)).mono ?_; rintro e w4 ⟨rfl, ha4, hk4, hs4⟩)
            go_roundw
            case rel => exact ⟨k + 1, by omega, by go_num, by rw [HS1.out, HS2.out]; exact ht.setA hk4 (by simpa using ha4)⟩
            case measure => simp [intOf]; omega
          · have h3 : (k : Int) % 2 = 1 := by omega
            have h4 : (k : Int).tmod 2 = 1 := by rw [Int.tmod_eq_emod_of_nonneg (by omega)]; exact h3
            have hle : (evs false (L.take k)).length < 16 := by rw [e2]; simp; omega
            obtain ⟨s1, s2⟩ := evs_odd (L.take k) x (by rw [HK.out]; omega)
            rw [← HT.out] at s1 s2
            have HS1 : Hid (evs true (L.take (k + 1)) = _) := s1
            have HS2 : Hid (evs false (L.take (k + 1)) = _) := s2
            clear s1 s2 e1 e2
            go_wp2_with (go_at_call 15; refine (putI_room (g + 3) (g + 2) 16 _ x _ ht.b (by simpa using hle)).mono ?_; rintro e w4 ⟨rfl, ha4, hk4, hs4⟩)
            go_roundw
            case rel => exact ⟨k + 1, by omega, by go_num, by rw [HS1.out, HS2.out]; exact ht.setB hk4 (by simpa using ha4)⟩
            case measure => simp [intOf]; omega
        · have hkm : k = m := by omega
          go_wp2
          go_meet
          rw [hkm, List.take_of_length_le (by rw [HL.out]; exact Nat.le_refl _)] at ht
          exact ht
    case rest =>
      obtain ⟨wz, hwz⟩ : ∃ x, x = wc := ⟨_, rfl⟩
      subst hwz
      go_wp2
      go_loopw [8] (fun i wr => ∃ k : Nat, k ≤ m ∧ i = .int .i64 (k : Int) ∧ TB w wr g (evs (decide (k % 2 = 0)) (L.drop k)) (evs (decide (k % 2 = 1)) (L.drop k))) (fun i _ => m - (intOf i).toNat)
      case atStart => exact ⟨0, Nat.zero_le _, rfl, by simpa using hcut⟩
      case round =>
        obtain ⟨k, hk, rfl, ht⟩ := hrel
        clear hcut
        by_cases hlt : k < m
        · have hkL : k < L.length := by rw [HL.out]; exact hlt
          have hvr := hvL.below (by rw [hG]; exact ht.bel)
          obtain ⟨b, off, hao, hblr, hc⟩ := hvr.cell k (by simpa using hkL)
          have hbl : b < g := by
            obtain ⟨b', off', hao', hbl', _⟩ := hvL.cell k (by simpa using hkL)
            rw [hao] at hao'
            cases hao'
            omega
          subst hao
          simp only [List.getElem_map] at hc
          have HD : Hid (L.drop k = L[k] :: L.drop (k + 1)) := drop_at L k hkL
          have hk0 : (k : Int) < (m : Int) := by omega
          clear hvr
          generalize L[k] = x at *
          by_cases h2 : k % 2 = 0
          · have h3 : (k : Int) % 2 = 0 := by omega
            have h4 : (k : Int).tmod 2 = 0 := by rw [Int.tmod_eq_emod_of_nonneg (by omega)]; exact h3
            have d1 : decide (k % 2 = 0) = true := by simp; try omega
            have d2 : decide (k % 2 = 1) = false := by simp; try omega
            have d3 : decide ((k + 1) % 2 = 0) = false := by simp; omega
            have d4 : decide ((k + 1) % 2 = 1) = true := by simp; omega
            rw [d1, d2, HD.out, evs, evs] at ht
            have HD3 : Hid (decide ((k + 1) % 2 = 0) = false) := d3
            have HD4 : Hid (decide ((k + 1) % 2 = 1) = true) := d4
            clear d1 d2 d3 d4
            go_wp2_with (go_at_call 16; refine (takeI_some (g + 1) (g) 16 x _ _ ht.a).mono ?_; rintro e w4 ⟨rfl, ha4, hk4, hs4⟩; have hc4 : w4.cell? ⟨b, off + k, none⟩ = some (.int .i64 x) := (World.cell?_of_block (a := ⟨b, off + k, none⟩) (hk4.block b hblr (by show ¬ (b = g); omega))).trans hc)
            go_roundw
            case rel => exact ⟨k + 1, by omega, by go_num, by rw [HD3.out, HD4.out]; exact ht.setA hk4 (by simpa using ha4)⟩
            case measure => simp [intOf]; omega
          · have h3 : (k : Int) % 2 = 1 := by omega
            have h4 : (k : Int).tmod 2 = 1 := by rw [Int.tmod_eq_emod_of_nonneg (by omega)]; exact h3
            have d1 : decide (k % 2 = 0) = false := by simp; try omega
            have d2 : decide (k % 2 = 1) = true := by simp; try omega
            have d3 : decide ((k + 1) % 2 = 0) = true := by simp; omega
            have d4 : decide ((k + 1) % 2 = 1) = false := by simp; omega
            rw [d1, d2, HD.out, evs, evs] at ht
            have HD3 : Hid (decide ((k + 1) % 2 = 0) = true) := d3
            have HD4 : Hid (decide ((k + 1) % 2 = 1) = false) := d4
            clear d1 d2 d3 d4
            go_wp2_with (go_at_call 16; refine (takeI_some (g + 3) (g + 2) 16 x _ _ ht.b).mono ?_; rintro e w4 ⟨rfl, ha4, hk4, hs4⟩; have hc4 : w4.cell? ⟨b, off + k, none⟩ = some (.int .i64 x) := (World.cell?_of_block (a := ⟨b, off + k, none⟩) (hk4.block b hblr (by show ¬ (b = g + 2); omega))).trans hc)
            go_roundw
            case rel => exact ⟨k + 1, by omega, by go_num, by rw [HD3.out, HD4.out]; exact ht.setB hk4 (by simpa using ha4)⟩
            case measure => simp [intOf]; omega
        · have hkm : L.drop k = [] := List.drop_of_length_le (by rw [HL.out]; omega)
          rw [hkm] at ht
          have ha : BX wr 49 (g + 1) g 16 [] := by simpa [evs] using ht.a
          have hb : BX wr 49 (g + 3) (g + 2) 16 [] := by simpa [evs] using ht.b
          go_wp2_with (first
            | (go_at_call 17; refine (lenI_any (g + 1) g 16 [] _ ha).mono ?_; rintro e _ ⟨rfl, rfl⟩; clear ha)
            | (go_at_call 17; refine (lenI_any (g + 3) (g + 2) 16 [] _ hb).mono ?_; rintro e _ ⟨rfl, rfl⟩))
          go_ret
          exact ⟨by simp, by rw [hG]; exact ht.bel⟩

end Go.Proofs.Yteaoafdedjenaaa
