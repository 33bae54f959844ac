/- ShakeOrder, walked. -/
import Derived.Test.YtbbdcjllmjhiiaaShK
import Derived.Test.YtbbdcjllmjhiiaaPick
import Derived.Test.YtbbdcjllmjhiiaaVsl
import Derived.Deep.CutRange
import Derived.Deep.CutBlock
namespace Go.Proofs.Ytbbdcjllmjhiiaa
open Go.RowKit

/-- How many are there. -/
def cntT (l : List Bool) : Nat := l.count true
theorem cntT_le (l : List Bool) : cntT l ≤ l.length := List.count_le_length
theorem cntT_full {l : List Bool} (h : fullB l = true) : cntT l = l.length := by
  rw [full_iff] at h
  exact List.count_eq_length.2 (fun b hb => (h b hb).symm)
theorem cntT_not {l : List Bool} (h : fullB l = false) : cntT l < l.length := by
  rcases Nat.lt_or_ge (cntT l) l.length with h1 | h1
  · exact h1
  · have e : cntT l = l.length := Nat.le_antisymm (cntT_le l) h1
    have h2 := List.count_eq_length.1 e
    have : fullB l = true := (full_iff l).2 (fun b hb => (h2 b hb).symm)
    rw [h] at this
    cases this
theorem cntT_off (n : Nat) : cntT (offs n) = 0 := by
  unfold cntT offs
  exact List.count_eq_zero.2 (fun h => by have := List.eq_of_mem_replicate h; cases this)
theorem cntT_some {l : List Bool} {i : Nat} (h : l[i]? = some true) : 0 < cntT l := List.count_pos_iff.2 (List.mem_of_getElem? h)
theorem cntT_next {l : List Bool} {k : Nat} (h : k < l.length) : cntT (l.take (k + 1)) = cntT (l.take k) + (if l[k] then 1 else 0) := by
  rw [List.take_succ_eq_append_getElem h]
  unfold cntT
  rw [List.count_append]
  cases l[k] <;> simp
/-- What a phase says of the counts. -/
def Ph (n p a c : Nat) : Prop := (p = 0 ∧ a = 0 ∧ c = 0) ∨ (p = 1 ∧ 0 < a ∧ a < n + 1 ∧ c = 0) ∨ (p = 2 ∧ a = n + 1 ∧ c < n + 1) ∨ (p = 3 ∧ a = n + 1 ∧ c = n + 1)
theorem Inv.counts {n : Nat} {s : St} (h : Inv n s) : Ph n s.ph (cntT s.A) (cntT s.S) := by
  have hl := h.le
  unfold Ph
  rcases (show s.ph = 0 ∨ s.ph = 1 ∨ s.ph = 2 ∨ s.ph = 3 by omega) with e | e | e | e
  · have e2 := h.idle e
    subst e2
    exact Or.inl ⟨rfl, cntT_off n, cntT_off n⟩
  · obtain ⟨h1, h2, h3⟩ := h.arm e
    have := cntT_not h1
    have := h.la
    exact Or.inr (Or.inl ⟨e, cntT_some h2, by omega, by rw [h3]; exact cntT_off n⟩)
  · obtain ⟨h1, h2⟩ := h.scan e
    have := cntT_not h2
    exact Or.inr (Or.inr (Or.inl ⟨e, by rw [cntT_full h1, h.la], by have := h.ls; omega⟩))
  · obtain ⟨h1, h2⟩ := h.run e
    exact Or.inr (Or.inr (Or.inr ⟨e, by rw [cntT_full h1, h.la], by rw [cntT_full h2, h.ls]⟩))
/-- The phases come one behind the other. -/
def Nx (p q : Nat) : Prop := q = p ∨ q = (p + 1) % 4
theorem nx_begin (n : Nat) (s : St) : Nx s.ph (s.begin n).ph := by
  unfold St.begin Nx
  split
  · next h => rw [h]; exact Or.inr rfl
  · exact Or.inl rfl
theorem nx_fin (n : Nat) (s : St) : Nx s.ph (s.fin n).ph := by
  unfold St.fin Nx
  split
  · next h => rw [h]; exact Or.inr rfl
  · exact Or.inl rfl
theorem nx_ans (s : St) (m : Int) : Nx s.ph (s.ans m).ph := by
  unfold St.ans Nx
  split
  · next h =>
    split
    · rw [h]
      show (if _ then 2 else 1) = 1 ∨ (if _ then 2 else 1) = (1 + 1) % 4
      split
      · exact Or.inr rfl
      · exact Or.inl rfl
    · exact Or.inl rfl
  · split
    · next h =>
      split
      · rw [h]
        show (if _ then 3 else 2) = 2 ∨ (if _ then 3 else 2) = (2 + 1) % 4
        split
        · exact Or.inr rfl
        · exact Or.inl rfl
      · exact Or.inl rfl
    · exact Or.inl rfl

set_option maxRecDepth 20000 in
set_option maxHeartbeats 2000000 in
theorem shakeOrder_any (mm : Int) (ls : List Int) (v : Value) (w : World) (hv : Vs w v (ls.map (Value.int .i64))) :
    Calls Try.prog 5 #[.int .i64 mm, v] w fun e w' => e = .returned (.bool true) ∧ Below w.heap.size w w' := by
  have hP := fun W => pick_any mm 4 (by omega) (by omega) W
  have hlt := pickN_lt mm 4 (by omega)
  obtain ⟨n, hn⟩ : ∃ n, n = 1 + pickN mm 4 := ⟨_, rfl⟩
  have hM1 : (1 : Int) + (pickN mm 4 : Int) = (n : Int) := by omega
  have h1 : 1 ≤ n := by omega
  have h2 : n ≤ 4 := by omega
  clear hn
  generalize pickN mm 4 = p at *
  obtain ⟨ao, cap, hve, hcap, _⟩ := id hv
  rw [List.length_map] at hve hcap
  subst hve
  have HVB : Hid (∀ W : World, Below w.heap.size w W → Vs W (.slice ao ls.length cap) (ls.map (Value.int .i64))) := fun W hW => hv.below hW
  clear hv
  have hN := LX.new n ⟨h1, h2⟩ w
  generalize hBB : w.heap.size = B at *
  have HBB : Hid _ := hidden hBB
  clear hBB
  go_enter Try.func5, Try.ntmps5
  go_wp2_with fail
  refine (hP _).mono ?_
  rintro e _ ⟨rfl, rfl⟩
  go_wp2_with fail
  refine hN.mono ?_
  rintro e w1 ⟨rfl, ga, gs, x1⟩
  clear hP hN hlt
  go_wp2_with fail
  refine (sknown_any _).mono ?_
  rintro e w2 ⟨rfl, b2⟩
  have x2 := x1.read b2
  clear x1 b2
  have hPh := phase_any x2.x
  rw [show (St.new n).ph = 0 from rfl] at hPh
  have HY : Hid _ := hidden x2
  clear x2
  go_wp2_with fail
  refine hPh.mono ?_
  rintro e _ ⟨rfl, rfl⟩
  clear hPh
  obtain ⟨N, hNl⟩ : ∃ N, N = ls.length := ⟨_, rfl⟩
  rw [← hNl] at hcap ⊢
  have HN : Hid (N = ls.length) := hNl
  clear hNl
  go_wp2
  go_loopw [8, 9, 10, 11, 12, 13, 14, 15] (fun was i _ _ _ _ _ _ wr => ∃ (k : Nat) (ga gs : Nat) (s : St), k ≤ 300 ∧ i = .int .i64 (k : Int) ∧ was = .int .i64 (s.ph : Int) ∧ LX w B wr B ga gs n s) (fun _ i _ _ _ _ _ _ _ => 300 - (intOf i).toNat)
  case atStart => exact ⟨0, ga, gs, _, by omega, rfl, rfl, HY.out⟩
  case round =>
    clear HY
    obtain ⟨k, ga, gs, s, hk, rfl, rfl, y⟩ := hrel
    have hq := y.inv.le
    have HY : Hid _ := hidden y
    clear y
    have hnl := HN.out
    by_cases hx : (k : Int) < (N : Int)
    · by_cases hx2 : (k : Int) < 300
      · have hkl : k < ls.length := by omega
        obtain ⟨b, off, hao, hbl, hc⟩ := (HVB.out wr HY.out.bel).cell k (by simpa using hkl)
        subst hao
        simp only [List.getElem_map] at hc
        generalize ls[k] = z at *
        clear hnl hkl
        have hP := fun W => pick_any z (n + 4) (by omega) (by omega) W
        have hlt := pickN_lt z (n + 4) (by omega)
        rw [show ((n + 4 : Nat) : Int) = (n : Int) + 4 by omega] at hP
        generalize pickN z (n + 4) = q at *
        have hqi : (q : Int) < (n : Int) + 4 := by omega
        go_upto_block 2 with (go_at_call 14; refine (hP _).mono ?_; rintro e _ ⟨rfl, rfl⟩)
        clear hP hc hbl
        go_cut [10, 55] from 46 to 69 (fun _ _ wc => ∃ (ga gs : Nat) (s' : St), Nx s.ph s'.ph ∧ LX w B wc B ga gs n s')
        case first =>
          by_cases c1 : (n : Int) + 2 < (q : Int)
          · have hB := HY.out.begin
            have HX : Hid _ := hidden (nx_begin n s)
            generalize (if s.ph = 0 then (0 : Int) else 10) = er at *
            go_wp2_with fail
            refine hB.mono ?_
            rintro e w3 ⟨rfl, x3, _⟩
            go_wp2
            go_meet
            exact ⟨_, _, _, HX.out, x3⟩
          · by_cases c2 : (q : Int) = (n : Int) + 2
            · have hB := HY.out.fin
              have HX : Hid _ := hidden (nx_fin n s)
              generalize (if s.ph = 3 then (0 : Int) else 10) = er at *
              go_wp2_with fail
              refine hB.mono ?_
              rintro e w3 ⟨rfl, ⟨ga3, gs3, x3⟩, _⟩
              go_wp2
              go_meet
              exact ⟨_, _, _, HX.out, x3⟩
            · have hB := HY.out.answer (q : Int)
              have HX : Hid _ := hidden (nx_ans s (q : Int))
              generalize ansR s (q : Int) = er at *
              go_wp2_with fail
              refine hB.mono ?_
              rintro e w3 ⟨rfl, x3, _⟩
              go_wp2
              go_meet
              exact ⟨_, _, _, HX.out, x3⟩
        case rest =>
          obtain ⟨ga3, gs3, s3, hnx, x3⟩ := hcut
          obtain ⟨wz, hwz⟩ : ∃ x, x = wc := ⟨_, rfl⟩
          subst hwz
          have HX : Hid _ := hidden hnx
          have HC : Hid _ := hidden x3.inv.counts
          have HLa : Hid _ := hidden x3.inv.la
          have HLs : Hid _ := hidden x3.inv.ls
          have HZ : Hid _ := hidden x3
          clear hnx x3 HY hqi hlt
          go_wp2
          go_loopw [11, 12, 13] (fun a c i wq => ∃ j : Nat, j ≤ n + 1 ∧ i = .int .i64 (j : Int) ∧ a = .int .i64 (cntT (s3.A.take j) : Int) ∧ c = .int .i64 (cntT (s3.S.take j) : Int) ∧ wz = wq) (fun _ _ i _ => n + 1 - (intOf i).toNat)
          case atStart => exact ⟨0, by omega, rfl, rfl, rfl, rfl⟩
          case round =>
            obtain ⟨j, hj, rfl, rfl, rfl, rfl⟩ := hrel
            by_cases hjn : (j : Int) ≤ (n : Int)
            · have hA := isArmed_any HZ.out.x (j : Int)
              have hS := hasScanned_any HZ.out.x (j : Int)
              have hja : j < s3.A.length := by have := HLa.out; omega
              have hjs : j < s3.S.length := by have := HLs.out; omega
              rw [isB_at hja] at hA
              rw [isB_at hjs] at hS
              have e1 := cntT_next hja
              have e2 := cntT_next hjs
              have b1 : cntT (s3.A.take j) ≤ 5 := by have := cntT_le (s3.A.take j); rw [List.length_take] at this; omega
              have b2 : cntT (s3.S.take j) ≤ 5 := by have := cntT_le (s3.S.take j); rw [List.length_take] at this; omega
              have E1 : Hid _ := hidden e1
              have E2 : Hid _ := hidden e2
              clear e1 e2
              generalize s3.A[j] = ba at *
              generalize s3.S[j] = bs at *
              generalize cntT (s3.A.take j) = ca at *
              generalize cntT (s3.S.take j) = cs at *
              clear hja hjs
              cases ba <;> cases bs
              all_goals
                go_wp2_with (first
                  | (go_at_call 11; refine hA.mono ?_; rintro e _ ⟨rfl, rfl⟩)
                  | (go_at_call 20; refine hS.mono ?_; rintro e _ ⟨rfl, rfl⟩))
                go_roundw
                case rel => exact ⟨j + 1, by omega, by go_num, by rw [E1.out]; go_num, by rw [E2.out]; go_num, trivial⟩
                case measure => simp [intOf]; omega
            · have hjn1 : j = n + 1 := by omega
              have hP := phase_any HZ.out.x
              have ea : s3.A.take j = s3.A := List.take_of_length_le (by have := HLa.out; omega)
              have es : s3.S.take j = s3.S := List.take_of_length_le (by have := HLs.out; omega)
              rw [ea, es]
              have hC := HC.out
              have hX := HX.out
              clear HLa HLs ea es hjn1
              generalize cntT s3.A = a at *
              generalize cntT s3.S = c at *
              have HS3 : Hid (∃ t, t = s3.ph) := ⟨_, rfl⟩
              obtain ⟨p3, hp3⟩ := HS3.out
              rw [← hp3] at hP hC hX
              have HP3 : Hid _ := hidden hp3
              clear hp3 HS3 HC HX
              unfold Ph at hC
              unfold Nx at hX
              obtain ⟨p0, hp0⟩ : ∃ p0, p0 = s.ph := ⟨_, rfl⟩
              rw [← hp0] at hX hq ⊢
              clear hp0
              have HQ : Hid _ := hidden hP
              clear hP
              have hex : ∀ (Z : Prop), ((p3 = 0 ∧ (p0 = 0 ∨ p0 = 3) ∧ a = 0 ∧ c = 0) → Z) → ((p3 = 1 ∧ (p0 = 0 ∨ p0 = 1) ∧ 0 < a ∧ a < n + 1 ∧ c = 0) → Z) → ((p3 = 2 ∧ (p0 = 1 ∨ p0 = 2) ∧ a = n + 1 ∧ c < n + 1) → Z) → ((p3 = 3 ∧ (p0 = 2 ∨ p0 = 3) ∧ a = n + 1 ∧ c = n + 1) → Z) → Z := by
                intro Z z0 z1 z2 z3
                rcases hC with h | h | h | h
                · exact z0 (by omega)
                · exact z1 (by omega)
                · exact z2 (by omega)
                · exact z3 (by omega)
              clear hC hX hq
              refine hex _ ?_ ?_ ?_ ?_
              all_goals clear hex
              · rintro ⟨rfl, hp, rfl, rfl⟩
                have hP := HQ.out
                clear HQ
                have b0 : ((0 : Int) == (n : Int) + 1) = false := by rw [beq_eq_false_iff_ne]; omega
                rcases hp with rfl | rfl
                all_goals
                  go_wp2_with (go_at_call 18; refine hP.mono ?_; rintro e _ ⟨rfl, rfl⟩)
                  go_roundw
                  case rel => exact ⟨k + 1, ga3, gs3, s3, by omega, by go_num, by rw [← HP3.out]; rfl, HZ.out⟩
                  case measure => simp [intOf]; omega
              · rintro ⟨rfl, hp, ha1, ha2, rfl⟩
                have hP := HQ.out
                clear HQ
                have b0 : ((0 : Int) == (n : Int) + 1) = false := by rw [beq_eq_false_iff_ne]; omega
                have b1 : ((a : Int) == 0) = false := by rw [beq_eq_false_iff_ne]; omega
                have b2 : ((a : Int) == (n : Int) + 1) = false := by rw [beq_eq_false_iff_ne]; omega
                clear ha1 ha2
                rcases hp with rfl | rfl
                all_goals
                  go_wp2_with (go_at_call 18; refine hP.mono ?_; rintro e _ ⟨rfl, rfl⟩)
                  go_roundw
                  case rel => exact ⟨k + 1, ga3, gs3, s3, by omega, by go_num, by rw [← HP3.out]; rfl, HZ.out⟩
                  case measure => simp [intOf]; omega
              · rintro ⟨rfl, hp, rfl, hc1⟩
                have hP := HQ.out
                clear HQ
                have b2 : ((c : Int) == (n : Int) + 1) = false := by rw [beq_eq_false_iff_ne]; omega
                have e4 : ((n + 1 : Nat) : Int) = (n : Int) + 1 := by omega
                have a5 : ¬ ((n : Int) + 1 ≤ (n : Int)) := by omega
                rw [e4]
                clear hc1 e4
                by_cases hc0 : 0 < (c : Int)
                all_goals rcases hp with rfl | rfl
                all_goals
                  go_wp2_with (go_at_call 18; refine hP.mono ?_; rintro e _ ⟨rfl, rfl⟩)
                  go_roundw
                  case rel => exact ⟨k + 1, ga3, gs3, s3, by omega, by go_num, by rw [← HP3.out]; rfl, HZ.out⟩
                  case measure => simp [intOf]; omega
              · rintro ⟨rfl, hp, rfl, rfl⟩
                have hP := HQ.out
                clear HQ
                have e4 : ((n + 1 : Nat) : Int) = (n : Int) + 1 := by omega
                have a5 : ¬ ((n : Int) + 1 ≤ (n : Int)) := by omega
                have a6 : (0 : Int) < (n : Int) + 1 := by omega
                rw [e4]
                clear e4
                rcases hp with rfl | rfl
                all_goals
                  go_wp2_with (go_at_call 18; refine hP.mono ?_; rintro e _ ⟨rfl, rfl⟩)
                  go_roundw
                  case rel => exact ⟨k + 1, ga3, gs3, s3, by omega, by go_num, by rw [← HP3.out]; rfl, HZ.out⟩
                  case measure => simp [intOf]; omega
      · go_wp2
        go_ret
        exact ⟨rfl, HBB.out ▸ HY.out.bel⟩
    · go_wp2
      go_ret
      exact ⟨rfl, HBB.out ▸ HY.out.bel⟩
end Go.Proofs.Ytbbdcjllmjhiiaa
