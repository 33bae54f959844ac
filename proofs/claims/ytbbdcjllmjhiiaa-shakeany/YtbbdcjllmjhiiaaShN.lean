/- ShakeAny, walked. -/
import Derived.Test.YtbbdcjllmjhiiaaShK
import Derived.Test.YtbbdcjllmjhiiaaPick
import Derived.Test.YtbbdcjllmjhiiaaVsl
import Derived.Test.YtbbdcjllmjhiiaaOw
import Derived.Deep.CutRange
import Derived.Deep.CutBlock
namespace Go.Proofs.Ytbbdcjllmjhiiaa
open Go.RowKit

theorem mem_less {l : List Nat} (hnd : l.Nodup) (k : Nat) (hk : k < l.length) (d : Nat) : d ∈ l.take k ++ l.drop (k + 1) ↔ d ∈ l ∧ d ≠ l[k] := by
  have e : l = l.take k ++ l[k] :: l.drop (k + 1) := by
    rw [← List.drop_eq_getElem_cons hk, List.take_append_drop]
  have hnd2 := hnd
  rw [e] at hnd2
  rw [List.nodup_append] at hnd2
  obtain ⟨_, h2, h3⟩ := hnd2
  rw [List.nodup_cons] at h2
  constructor
  · intro h
    rw [List.mem_append] at h
    rcases h with h | h
    · exact ⟨List.mem_of_mem_take h, h3 d h _ List.mem_cons_self⟩
    · exact ⟨List.mem_of_mem_drop h, fun e => h2.1 (e ▸ h)⟩
  · rintro ⟨h, hne⟩
    rw [e] at h
    rw [List.mem_append, List.mem_cons] at h
    rw [List.mem_append]
    rcases h with h | h | h
    · exact Or.inl h
    · exact absurd h hne
    · exact Or.inr h
theorem nodup_less {l : List Nat} (hnd : l.Nodup) (k : Nat) : (l.take k ++ l.drop (k + 1)).Nodup := by
  have hs : (l.take k ++ l.drop (k + 1)).Sublist (l.take k ++ l.drop k) := List.Sublist.append (List.Sublist.refl _) (by
    rw [show l.drop (k + 1) = (l.drop k).drop 1 by rw [List.drop_drop]]
    exact List.drop_sublist _ _)
  rw [List.take_append_drop] at hs
  exact hnd.sublist hs
theorem len_less {l : List Nat} (k : Nat) (hk : k < l.length) : (l.take k ++ l.drop (k + 1)).length = l.length - 1 := by
  rw [List.length_append, List.length_take, List.length_drop]
  omega

/-- The list that a round is about. -/
def curL (r : Nat) (s : St) : List Bool := if r = 0 then s.A else s.S
/-- In round r those of L have not answered yet. -/
structure AI (n r : Nat) (s : St) (L : List Nat) : Prop where
  rd : r = 0 ∨ r = 1
  ls : (curL r s).length = n + 1
  at' : ∀ m, m ≤ n → (curL r s)[m]? = some (!decide (m ∈ L))
  nd : L.Nodup
  mem : ∀ m ∈ L, m ≤ n
  ph : s.ph = if L = [] then r + 2 else r + 1
  next : r = 0 → s.S = offs n
theorem full_less {n : Nat} {c : List Bool} {L : List Nat} (hl : c.length = n + 1) (h : ∀ m, m ≤ n → c[m]? = some (!decide (m ∈ L))) (hm : ∀ m ∈ L, m ≤ n) : fullB c = decide (L = []) := by
  by_cases e : L = []
  · rw [decide_eq_true e, full_iff]
    intro b hb
    obtain ⟨i, hi⟩ := List.mem_iff_getElem?.1 hb
    have hlt := (List.getElem?_eq_some_iff.1 hi).1
    have := h i (by omega)
    rw [hi, e] at this
    simpa using this
  · rw [decide_eq_false e, ← Bool.not_eq_true, full_iff]
    intro hf
    obtain ⟨d, hd⟩ := List.exists_mem_of_ne_nil L e
    have h1 := h d (hm d hd)
    have h2 := hf _ (List.mem_of_getElem? h1)
    simp [hd] at h2
theorem curL_ans {n r : Nat} {s : St} {m : Nat} (hr : r = 0 ∨ r = 1) (hp : s.ph = r + 1) (hn : newB (curL r s) (m : Int) = true) :
    ansR s (m : Int) = r + 1 ∧ curL r (s.ans (m : Int)) = (curL r s).set m true ∧ (s.ans (m : Int)).ph = (if fullB ((curL r s).set m true) then r + 2 else r + 1) ∧ (r = 0 → s.S = offs n → (s.ans (m : Int)).S = offs n) := by
  rcases hr with rfl | rfl
  · have hp' : s.ph = 1 := hp
    have hn' : newB s.A (m : Int) = true := hn
    unfold ansR St.ans
    rw [if_pos hp', if_pos hp', hn']
    exact ⟨rfl, rfl, rfl, fun _ h => h⟩
  · have hp' : s.ph = 2 := hp
    have hn' : newB s.S (m : Int) = true := hn
    have h1 : ¬ s.ph = 1 := by omega
    unfold ansR St.ans
    rw [if_neg h1, if_neg h1, if_pos hp', if_pos hp', hn']
    exact ⟨rfl, rfl, rfl, fun h => by cases h⟩
theorem curL_no {r : Nat} {s : St} {m : Nat} (hr : r = 0 ∨ r = 1) (hp : s.ph = r + 1) (hn : newB (curL r s) (m : Int) = false) : ansR s (m : Int) = 0 ∧ s.ans (m : Int) = s := by
  rcases hr with rfl | rfl
  · have hp' : s.ph = 1 := hp
    have hn' : newB s.A (m : Int) = false := hn
    unfold ansR St.ans
    rw [if_pos hp', if_pos hp', hn']
    exact ⟨rfl, rfl⟩
  · have hp' : s.ph = 2 := hp
    have hn' : newB s.S (m : Int) = false := hn
    have h1 : ¬ s.ph = 1 := by omega
    unfold ansR St.ans
    rw [if_neg h1, if_neg h1, if_pos hp', if_pos hp', hn']
    exact ⟨rfl, rfl⟩
/-- One answers. -/
theorem AI.step {n r : Nat} {s : St} {L : List Nat} (h : AI n r s L) (k : Nat) (hk : k < L.length) :
    ansR s (L[k] : Int) = r + 1 ∧ AI n r (s.ans (L[k] : Int)) (L.take k ++ L.drop (k + 1)) ∧ (1 < L.length → ansR (s.ans (L[k] : Int)) (L[k] : Int) = 0 ∧ (s.ans (L[k] : Int)).ans (L[k] : Int) = s.ans (L[k] : Int)) := by
  have hmem : L[k] ∈ L := List.getElem_mem hk
  have hle := h.mem _ hmem
  have hne : L ≠ [] := List.ne_nil_of_length_pos (by omega)
  have hp : s.ph = r + 1 := by rw [h.ph, if_neg hne]
  have hlt : L[k] < (curL r s).length := by have := h.ls; omega
  have hat : (curL r s)[L[k]] = false := by
    have := h.at' _ hle
    rw [List.getElem?_eq_getElem hlt] at this
    simpa [hmem] using this
  have hn : newB (curL r s) (L[k] : Int) = true := by rw [newB_at hlt, hat]; rfl
  obtain ⟨e1, e2, e3, e4⟩ := curL_ans (n := n) h.rd hp hn
  have hm' := mem_less h.nd k hk
  have hnd' := nodup_less h.nd k
  have hlen' := len_less k hk
  have hls : ((curL r s).set L[k] true).length = n + 1 := by rw [List.length_set]; exact h.ls
  have hat' : ∀ m, m ≤ n → ((curL r s).set L[k] true)[m]? = some (!decide (m ∈ L.take k ++ L.drop (k + 1))) := by
    intro m hm
    rw [List.getElem?_set]
    by_cases e : L[k] = m
    · subst e
      rw [if_pos rfl, if_pos hlt]
      have : ¬ L[k] ∈ L.take k ++ L.drop (k + 1) := fun hc => ((hm' _).1 hc).2 rfl
      rw [decide_eq_false this]
      rfl
    · rw [if_neg e, h.at' m hm]
      have : (m ∈ L.take k ++ L.drop (k + 1)) ↔ m ∈ L := (hm' m).trans ⟨fun h => h.1, fun h => ⟨h, fun e' => e e'.symm⟩⟩
      rw [decide_eq_decide.2 this]
  have hmem' : ∀ m ∈ L.take k ++ L.drop (k + 1), m ≤ n := fun m hm => h.mem m ((hm' m).1 hm).1
  have hf := full_less hls hat' hmem'
  refine ⟨e1, ⟨h.rd, by rw [e2]; exact hls, by rw [e2]; exact hat', hnd', hmem', ?_, fun e => e4 e (h.next e)⟩, fun h1 => ?_⟩
  · rw [e3, hf]
    by_cases e : L.take k ++ L.drop (k + 1) = []
    · simp [e]
    · rw [decide_eq_false e, if_neg e]
      rfl
  · have hne' : ¬ L.take k ++ L.drop (k + 1) = [] := fun e => by rw [e] at hlen'; simp at hlen'; omega
    have hp2 : (s.ans (L[k] : Int)).ph = r + 1 := by
      rw [e3, hf, decide_eq_false hne']
      rfl
    refine curL_no h.rd hp2 ?_
    have hlt2 : L[k] < ((curL r s).set L[k] true).length := by rw [hls]; omega
    rw [e2, newB_at hlt2, List.getElem_set_self]
    rfl
/-- Where a round begins. -/
def RS (n r : Nat) (s : St) : Prop := (r = 0 ∧ s = (St.new n).begin n) ∨ (r = 1 ∧ s.ph = 2 ∧ s.S = offs n) ∨ (r = 2 ∧ s.ph = 3)
theorem RS.start {n r : Nat} {s : St} (h : RS n r s) (hr : r < 2) (hn : 1 ≤ n) : AI n r s (List.range (n + r)) := by
  rcases h with ⟨rfl, rfl⟩ | ⟨rfl, h1, h2⟩ | ⟨rfl, _⟩
  · refine ⟨Or.inl rfl, by simp [curL, St.begin, St.new, offs], fun m hm => ?_, List.nodup_range, fun m hm => by have := List.mem_range.1 hm; omega, ?_, fun _ => rfl⟩
    · show ((offs n).set n true)[m]? = _
      rw [List.getElem?_set]
      by_cases e : n = m
      · subst e
        simp [offs]
      · rw [if_neg e]
        have : m < n + 1 := by omega
        have h3 : m < n := by omega
        simp [offs, this, h3]
    · rw [if_neg (fun e => by have := congrArg List.length e; simp at this; omega)]
      rfl
  · refine ⟨Or.inr rfl, by show s.S.length = n + 1; rw [h2]; simp [offs], fun m hm => ?_, List.nodup_range, fun m hm => by have := List.mem_range.1 hm; omega, ?_, fun h => by cases h⟩
    · show s.S[m]? = _
      rw [h2]
      have : m < n + 1 := by omega
      simp [offs, this]
    · rw [if_neg (fun e => by have := congrArg List.length e; simp at this)]
      exact h1
  · omega
theorem AI.done {n r : Nat} {s : St} (h : AI n r s []) : RS n (r + 1) s := by
  have hp := h.ph
  rw [if_pos rfl] at hp
  rcases h.rd with rfl | rfl
  · exact Or.inr (Or.inl ⟨rfl, hp, h.next rfl⟩)
  · exact Or.inr (Or.inr ⟨rfl, hp⟩)

/-- The shake, and a list of the call's own behind it. -/
structure AN (w : World) (B C : Nat) (wr : World) (ga gs n : Nat) (s : St) (v : Value) (L : List Nat) : Prop where
  x : LX w B wr B ga gs n s
  own : Ow wr C v L
  lt : ∀ k, xBl B ga gs k → k < C
  le : C ≤ wr.heap.size
theorem AN.read {w wr w' : World} {B C ga gs n : Nat} {s : St} {v : Value} {L : List Nat} (h : AN w B C wr ga gs n s v L) (hb : Below wr.heap.size wr w') : AN w B C w' ga gs n s v L :=
  ⟨h.x.read hb, h.own.below hb, h.lt, Nat.le_trans h.le hb.size⟩

set_option maxRecDepth 20000 in
set_option maxHeartbeats 2000000 in
theorem shakeAny_any (mm : Int) (ls : List Int) (v : Value) (w : World) (hv : Vs w v (ls.map (Value.int .i64))) :
    Calls Try.prog 6 #[.int .i64 mm, v] w fun e w' => e = .returned (.bool true) ∧ Below w.heap.size w w' := by
  have hP := fun W => pick_any mm 4 (by omega) (by omega) W
  have hlt := pickN_lt mm 4 (by omega)
  obtain ⟨n, hn⟩ : ∃ n, n = 1 + pickN mm 4 := ⟨_, rfl⟩
  have hM1 : (1 : Int) + (pickN mm 4 : Int) = (n : Int) := by omega
  have h1 : 1 ≤ n := by omega
  have h2 : n ≤ 4 := by omega
  clear hn
  generalize pickN mm 4 = p at *
  obtain ⟨ao, cap, hve, hcap, _⟩ := id hv
  rw [List.length_map] at hve hcap
  subst hve
  have HVB : Hid (∀ W : World, Below w.heap.size w W → Vs W (.slice ao ls.length cap) (ls.map (Value.int .i64))) := fun W hW => hv.below hW
  clear hv
  have hN := LX.new n ⟨h1, h2⟩ w
  generalize hBB : w.heap.size = B at *
  have HBB : Hid _ := hidden hBB
  clear hBB
  go_enter Try.func6, Try.ntmps6
  go_wp2_with fail
  refine (hP _).mono ?_
  rintro e _ ⟨rfl, rfl⟩
  go_wp2_with fail
  refine hN.mono ?_
  rintro e w1 ⟨rfl, ga, gs, x1⟩
  clear hP hN hlt
  go_wp2_with fail
  refine (sknown_any _).mono ?_
  rintro e w2 ⟨rfl, b2⟩
  have x2 := x1.read b2
  clear x1 b2
  have hB := x2.begin
  rw [show (if (St.new n).ph = 0 then (0 : Int) else 10) = 0 from rfl] at hB
  clear x2
  go_wp2_with fail
  refine hB.mono ?_
  rintro e w3 ⟨rfl, x3, _⟩
  clear hB
  obtain ⟨C, hC⟩ : ∃ C, C = w3.heap.size := ⟨_, rfl⟩
  have HX : Hid (LX w B w3 B ga gs n ((St.new n).begin n) ∧ C ≤ w3.heap.size ∧ ∀ k, xBl B ga gs k → k < C) := ⟨x3, by omega, fun k hk => by rw [hC]; exact x3.x.lt k hk⟩
  have HLT : Hid (∀ k, xBl B ga gs k → k < C) := HX.out.2.2
  have HBC : Hid (B ≤ C) := by have h : B ≤ C := by { have := x3.le; omega }; exact h
  clear x3 hC
  obtain ⟨N, hNl⟩ : ∃ N, N = ls.length := ⟨_, rfl⟩
  rw [← hNl] at hcap ⊢
  have HN : Hid (N = ls.length) := hNl
  clear hNl
  go_wp2
  go_loopw [8, 9, 10, 11, 12, 13] (fun rd _ _ _ _ _ wr => ∃ (r : Nat) (s : St), r ≤ 2 ∧ rd = .int .i64 (r : Int) ∧ RS n r s ∧ LX w B wr B ga gs n s ∧ C ≤ wr.heap.size) (fun rd _ _ _ _ _ _ => 2 - (intOf rd).toNat)
  case atStart => exact ⟨0, _, by omega, rfl, Or.inl ⟨rfl, rfl⟩, HX.out.1, HX.out.2.1⟩
  case round =>
    clear HX
    obtain ⟨r, s, hr, rfl, hRS, y, hCle⟩ := hrel
    have HRS : Hid _ := hidden hRS
    have HY : Hid _ := hidden y
    clear hRS y
    by_cases hr2 : (r : Int) < 2
    · obtain ⟨M, hM⟩ : ∃ M, M = n + r := ⟨_, rfl⟩
      have hMi : (n : Int) + (r : Int) = (M : Int) := by omega
      have hM5 : M ≤ 5 := by omega
      have HAI : Hid (AI n r s (List.range M)) := by
        have h : AI n r s (List.range M) := by { rw [hM]; exact HRS.out.start (by omega) h1 }
        exact h
      clear hM HRS
      go_wp2
      go_loopw [9, 10] (fun va i wq => ∃ j : Nat, j ≤ M ∧ i = .int .i64 (j : Int) ∧ AN w B C wq ga gs n s va (List.range j)) (fun _ i _ => M - (intOf i).toNat)
      case atStart => exact ⟨0, by omega, by go_num, HY.out, Ow.nil _ _, HLT.out, hCle⟩
      case round =>
        clear HY hCle
        obtain ⟨j, hj, rfl, y⟩ := hrel
        by_cases hjM : (j : Int) < (M : Int)
        · have ho := y.own
          have hle := y.le
          obtain ⟨ao2, cap2, hve2, _⟩ := ho.slice
          subst hve2
          have HY : Hid _ := hidden y
          have hlr : (List.range j).length = j := List.length_range
          clear y
          go_wp2_with (at_builtin; refine wpList_ow rfl (.tmp 50) (.tmp 52) rfl C _ (List.range j) rfl (ho.below ((Below.refl _ _).alloc (Nat.le_refl _) _)) _ [j] rfl (sr_one _ j _) (by rw [hlr]; simp; omega) (by simp; omega) ?_; intro v5 w5 ho5 hk5 _)
          go_roundw
          case rel =>
            have y := HY.out
            refine ⟨j + 1, by omega, by go_num, (y.x.read (bel_alloc _ _)).other hk5 (fun k e => by have := (ho.ge k e).1; have := HBC.out; omega) (fun k hk e => by have := (ho.ge k e).1; have := HLT.out k hk; omega), ?_, HLT.out, ?_⟩
            · rw [List.range_succ]
              exact ho5
            · have := hk5.size
              have := (bel_alloc wr (.cells #[.int .i64 (j : Int)] 3)).size
              omega
          case measure => simp [intOf]; omega
        · have ej : j = M := by omega
          subst ej
          have HZ : Hid _ := hidden y
          clear y hj hjM
          go_wp2
          go_loopw [9, 11, 12, 13] (fun va i _ _ wq => ∃ (q : Nat) (s' : St) (L : List Nat), i = .int .i64 (q : Int) ∧ q + L.length = j ∧ AI n r s' L ∧ AN w B C wq ga gs n s' va L) (fun _ i _ _ _ => j - (intOf i).toNat)
          case atStart => exact ⟨0, s, List.range j, rfl, by simp, HAI.out, HZ.out⟩
          case round =>
            clear HZ HAI
            obtain ⟨q, s', L, rfl, hq, hai, y⟩ := hrel
            by_cases hpos : 0 < L.length
            · obtain ⟨g, ac, hve, hgC, hgl, hac, hcell⟩ := y.own.at 0 hpos
              subst hve
              have hposi : (0 : Int) < (L.length : Int) := by omega
              have hlen5 : L.length ≤ 5 := by omega
              have hq5 : q ≤ 5 := by omega
              have HQ : Hid _ := hidden hq
              have HAI : Hid _ := hidden hai
              have HY : Hid _ := hidden y
              clear hq hai y hcell
              go_upto_if 62 with fail
              go_cut [12] from 59 to 69 (fun kv wc => ∃ k : Nat, kv = .int .i64 (k : Int) ∧ k < L.length ∧ wr = wc)
              case first =>
                by_cases hjo : (q : Int) < (N : Int)
                · have hjl : q < ls.length := by have := HN.out; omega
                  obtain ⟨b, off, hao, hbl, hc⟩ := (HVB.out wr HY.out.x.bel).cell q (by simpa using hjl)
                  subst hao
                  simp only [List.getElem_map] at hc
                  have hpk := pickN_lt ls[q] L.length hpos
                  have hPk := fun W => pick_any ls[q] L.length hpos (by omega) W
                  generalize ls[q] = z at *
                  go_wp2_with (go_at_call 14; refine (hPk _).mono ?_; rintro e _ ⟨rfl, rfl⟩)
                  go_meet
                  exact ⟨_, rfl, hpk, rfl⟩
                · go_wp2
                  go_meet
                  exact ⟨0, rfl, hpos, rfl⟩
              case rest =>
                obtain ⟨k, rfl, hk, hwc⟩ := hcut
                subst hwc
                obtain ⟨e1, hai2, e3⟩ := HAI.out.step k hk
                obtain ⟨g', ac', hve, _, _, _, hcell⟩ := HY.out.own.at 0 hpos
                cases hve
                have hck := hcell k hk
                clear hcell
                have hA1 := HY.out.x.answer (L[k] : Int)
                have hA2 := fun W (y : LX w B W B ga gs n (s'.ans (L[k] : Int))) => y.answer (L[k] : Int)
                rw [e1] at hA1
                have HAI2 : Hid _ := hidden hai2
                have HE3 : Hid _ := hidden e3
                clear hai2 e3 e1
                obtain ⟨s2, hs2⟩ : ∃ s2, s2 = s'.ans (L[k] : Int) := ⟨_, rfl⟩
                rw [← hs2] at hA1 hA2 HAI2 HE3
                clear hs2
                have hki : (k : Int) < (L.length : Int) := by omega
                go_upto_if 71 with fail
                go_cut [13] from 70 to 71 (fun t wc => t = .int .i64 ((r : Int) + 1) ∧ wr = wc)
                case first =>
                  rcases HAI2.out.rd with rfl | rfl
                  · go_wp2
                    go_meet
                    exact ⟨rfl, rfl⟩
                  · go_wp2
                    go_meet
                    exact ⟨rfl, rfl⟩
                case rest =>
                  obtain ⟨rfl, hwc⟩ := hcut
                  subst hwc
                  rw [show ((r + 1 : Nat) : Int) = (r : Int) + 1 by omega] at hA1
                  go_upto_region 22 with fail
                  go_cut [93] from 72 to 93 (fun t wc => t = .bool false ∧ LX w B wc B ga gs n s2 ∧ Kept wr wc (xBl B ga gs))
                  case first =>
                    by_cases hl1 : (1 : Int) < (L.length : Int)
                    · obtain ⟨e4, e5⟩ := HE3.out (by omega)
                      rw [e4, e5] at hA2
                      clear e4 e5 HE3
                      generalize L[k] = c at *
                      go_wp2_with fail
                      refine hA1.mono ?_
                      rintro e w6 ⟨rfl, x6, k6⟩
                      have hck6 : w6.cell? ⟨g, k, none⟩ = some (.int .i64 (c : Int)) := cell_kept hck k6 (fun e => by have := HLT.out _ e; omega)
                      have hA3 := hA2 _ x6
                      have hg6 : g < w6.heap.size := Nat.lt_of_lt_of_le hgl k6.size
                      have HK6 : Hid _ := hidden k6
                      clear hA1 hA2 x6 hck k6
                      go_wp2_with fail
                      refine hA3.mono ?_
                      rintro e w7 ⟨rfl, x7, k7⟩
                      go_wp2
                      go_meet
                      exact ⟨rfl, x7, HK6.out.trans k7 (fun _ _ => id)⟩
                    · clear hA2 HE3
                      generalize L[k] = c at *
                      go_wp2_with fail
                      refine hA1.mono ?_
                      rintro e w6 ⟨rfl, x6, k6⟩
                      go_wp2
                      go_meet
                      exact ⟨rfl, x6, k6⟩
                  case rest =>
                    obtain ⟨rfl, x7, k7⟩ := hcut
                    obtain ⟨w7, hw7⟩ : ∃ x, x = wc := ⟨_, rfl⟩
                    subst hw7
                    have ho7 : Ow w7 C (.slice (some ⟨g, 0, none⟩) L.length ac) L := HY.out.own.kept k7 (fun i hi e => by have := (HY.out.own.ge i hi).1; have := HLT.out i e; omega)
                    have hC7 : C ≤ w7.heap.size := Nat.le_trans HY.out.le k7.size
                    have HL : Hid (∀ (w5 : World) (v' : Value), LX w B w5 B ga gs n s2 → C ≤ w5.heap.size → Ow w5 C v' (L.take k ++ L.drop (k + 1)) → AN w B C w5 ga gs n s2 v' (L.take k ++ L.drop (k + 1))) := fun w5 v' h1 h2 h3 => ⟨h1, h3, HLT.out, h2⟩
                    have HNx : Hid (q + 1 + (L.take k ++ L.drop (k + 1)).length = j) := by
                      have e : q + 1 + (L.take k ++ L.drop (k + 1)).length = j := by { rw [len_less k hk]; have := HQ.out; omega }
                      exact e
                    have HX7 : Hid _ := hidden x7
                    clear hA1 hA2 HE3 hck HAI HY x7 k7 hgl
                    have hkc : (k : Int) ≤ (ac : Int) := by omega
                    have hkn : (k : Int) ≤ (L.length : Int) := by omega
                    have hkn1 : (k : Int) + 1 ≤ (L.length : Int) := by omega
                    have hkn0 : (0 : Int) ≤ (k : Int) + 1 := by omega
                    have hwk : IntKind.i64.wrap ((k : Int) + 1) = (k : Int) + 1 := by rw [IntKind.wrap_i64]; omega
                    have q1 : ∀ o, Below w7.heap.size w7 (w7.alloc o).drew := fun o => ((Below.refl _ _).alloc (Nat.le_refl _) o).drew
                    have hE1 : (w7.alloc (.cells #[] 3)).drew.heap[w7.heap.size]? = some (.cells #[] 3 (0, 0)) := heap_alloc_new w7 _
                    have hp1 := ho7.pre k (by omega) hpos
                    have HL1 : Hid ((L.take k).length = k) := by have e : (L.take k).length = k := by { rw [List.length_take]; omega }; exact e
                    have HL2 : Hid ((L.drop (k + 1)).length ≤ 300) := by have e : (L.drop (k + 1)).length ≤ 300 := by { rw [List.length_drop]; omega }; exact e
                    have hp2 := fun c => ho7.post (k + 1) (by omega) hpos c
                    go_wp2
                    by_cases hcap2 : ac = k + 1
                    · have HN1 : Hid (L.length = k + 1) := by have e : L.length = k + 1 := by { omega }; exact e
                      have HD : Hid (L.drop (k + 1) = []) := by have e : L.drop (k + 1) = [] := List.drop_of_length_le (by omega); exact e
                      subst hcap2
                      have hkk : (k : Int) ≤ (k : Int) + 1 := by omega
                      go_region_law (first
                        | (refine step_ow rfl (.tmp 94) (.tmp 97) rfl C (.slice (some ⟨w7.heap.size, 0, none⟩) 0 0) [] rfl (ow_empty hE1 (by omega)) _ (L.take k) rfl (hp1.below (q1 _)) (by rw [HL1.out]; simp; omega) (by simp [World.drew]; omega) ?_; intro v8 w8 ho8 hk8 _; have hb8 : Below w7.heap.size w7 w8 := (q1 _).trans (hk8.below (by simp [World.drew]) (fun j hj e => by simp only [Value.ownBlock, Option.some.injEq] at e; omega)); have hs8 := hb8.size)
                        | (refine step_ow rfl (.tmp 98) (.tmp 102) rfl C v8 ([] ++ L.take k) rfl ho8 _ ([] : List Nat) rfl (sr_zero _ _ _ _ (by have := HN1.out; omega)) (by rw [List.nil_append, HL1.out]; simp; omega) (by omega) ?_; intro v9 w9 ho9 hk9 _; have hs9 : LX w B w9 B ga gs n s2 := (HX7.out.read hb8).other hk9 (fun i e => by have := (ho8.ge i e).1; have := HBC.out; omega) (fun i hi e => by have := (ho8.ge i e).1; have := HLT.out i hi; omega); have hz9 := hk9.size))
                      all_goals
                        have ho9' : Ow w9 C v9 (L.take k ++ L.drop (k + 1)) := by rw [HD.out]; simpa using ho9
                        go_simp
                        go_wp2
                        go_roundw
                        case rel => exact ⟨q + 1, s2, _, by go_num, HNx.out, HAI2.out, HL.out _ _ hs9 (by omega) ho9'⟩
                        case measure => have := HQ.out; simp [intOf]; omega
                    · have hkc2 : ¬ ac = k + 1 := hcap2
                      have hkc3 : ¬ ac - (k + 1) = 0 := by omega
                      go_region_law (first
                        | (refine step_ow rfl (.tmp 94) (.tmp 97) rfl C (.slice (some ⟨w7.heap.size, 0, none⟩) 0 0) [] rfl (ow_empty hE1 (by omega)) _ (L.take k) rfl (hp1.below (q1 _)) (by rw [HL1.out]; simp; omega) (by simp [World.drew]; omega) ?_; intro v8 w8 ho8 hk8 _; have hb8 : Below w7.heap.size w7 w8 := (q1 _).trans (hk8.below (by simp [World.drew]) (fun j hj e => by simp only [Value.ownBlock, Option.some.injEq] at e; omega)); have hs8 := hb8.size)
                        | (refine step_ow rfl (.tmp 98) (.tmp 102) rfl C v8 ([] ++ L.take k) rfl ho8 _ (L.drop (k + 1)) rfl ((hp2 _).below hb8) (by rw [List.nil_append, HL1.out]; have := HL2.out; omega) (by omega) ?_; intro v9 w9 ho9 hk9 _; have hs9 : LX w B w9 B ga gs n s2 := (HX7.out.read hb8).other hk9 (fun i e => by have := (ho8.ge i e).1; have := HBC.out; omega) (fun i hi e => by have := (ho8.ge i e).1; have := HLT.out i hi; omega); have hz9 := hk9.size))
                      all_goals
                        have ho9' : Ow w9 C v9 (L.take k ++ L.drop (k + 1)) := by simpa using ho9
                        go_simp
                        go_wp2
                        go_roundw
                        case rel => exact ⟨q + 1, s2, _, by go_num, HNx.out, HAI2.out, HL.out _ _ hs9 (by omega) ho9'⟩
                        case measure => have := HQ.out; simp [intOf]; omega
            · have hz : L = [] := List.eq_nil_of_length_eq_zero (by omega)
              subst hz
              obtain ⟨aa, ac, hve, _, _, _⟩ := y.own.slice
              subst hve
              have HD : Hid _ := hidden hai.done
              have HX : Hid _ := hidden y.x
              have HLe : Hid _ := hidden y.le
              clear y hai hpos
              go_wp2
              go_roundw
              case rel => exact ⟨r + 1, s', by omega, by go_num, HD.out, HX.out, HLe.out⟩
              case measure => simp [intOf]; omega
    · have er : r = 2 := by omega
      subst er
      have hph : s.ph = 3 := by
        rcases HRS.out with ⟨h, _⟩ | ⟨h, _⟩ | ⟨_, h⟩
        · omega
        · omega
        · exact h
      have hP1 := phase_any HY.out.x
      have hF := HY.out.fin
      rw [if_pos hph] at hF
      rw [hph] at hP1
      have e2 : s.fin n = St.new n := by unfold St.fin; rw [if_pos hph]
      rw [e2] at hF
      have hP2 := fun W ga gs (y : LX w B W B ga gs n (St.new n)) => phase_any y.x
      rw [show (St.new n).ph = 0 from rfl] at hP2
      clear e2 hph HRS HY hr hr2
      generalize St.new n = s0 at *
      go_wp2_with fail
      refine hP1.mono ?_
      rintro e _ ⟨rfl, rfl⟩
      clear hP1
      go_wp2_with fail
      refine hF.mono ?_
      rintro e w6 ⟨rfl, ⟨ga6, gs6, x6⟩, _⟩
      have hP3 := hP2 _ _ _ x6
      have HB : Hid _ := hidden x6.bel
      clear hF x6 hP2
      go_wp2_with fail
      refine hP3.mono ?_
      rintro e _ ⟨rfl, rfl⟩
      go_wp2
      go_ret
      exact ⟨rfl, HBB.out ▸ HB.out⟩
end Go.Proofs.Ytbbdcjllmjhiiaa
