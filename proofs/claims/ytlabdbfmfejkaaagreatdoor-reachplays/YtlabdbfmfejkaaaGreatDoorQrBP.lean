import Derived.Test.YtlabdbfmfejkaaaGreatDoorQuBP
/- The plain reacher's Outs: place. -/
/- The plain reacher: isSuspect. -/
namespace Go.Proofs.YtlabdbfmfejkaaaGreatDoor
open Go.RowKit

/-- What place answers. -/
structure PlaceI (l : List (Int × Nat)) (k i : Nat) (ok : Bool) : Prop where
  le : i ≤ l.length
  lo : ∀ j y, j < i → l[j]? = some y → keyI y < k
  hi : (∃ y, l[i]? = some y ∧ k ≤ keyI y ∧ ok = decide (keyI y = k)) ∨ (i = l.length ∧ ok = false)
def PlacedI (l : List (Int × Nat)) (k : Nat) (w w' : World) (e : Ending) : Prop := ∃ (i : Nat) (ok : Bool), e = .returned (.tuple #[.int .i64 (i : Int), .bool ok]) ∧ PlaceI l k i ok ∧ Below w.heap.size w w'
theorem PlacedI.of {l : List (Int × Nat)} {k : Nat} {w w' : World} {e : Ending} (i : Nat) (ok : Bool) (h1 : e = .returned (.tuple #[.int .i64 (i : Int), .bool ok])) (h2 : PlaceI l k i ok) (h3 : Below w.heap.size w w') : PlacedI l k w w' e := ⟨i, ok, h1, h2, h3⟩
theorem kis_at {l : List (Int × Nat)} {t : Nat} (h : t < (kis l).length) : ∃ h' : t < l.length, (kis l)[t] = keyI l[t] := by
  unfold kis at *
  have h' : t < l.length := by simpa using h
  exact ⟨h', by simp⟩
theorem PlaceI.pos {l : List (Int × Nat)} {x : Int × Nat} {i : Nat} {ok : Bool} (H : PlaceI l (keyI x) i ok) : posI x l = i ∧ hasI x l = ok := by
  have hp : posI x l = i := by
    unfold posI
    refine posK_eq _ _ _ (by unfold kis; rw [List.length_map]; exact H.le) (fun t h ht => ?_) (fun h => ?_)
    · obtain ⟨h', e⟩ := kis_at h
      rw [e]
      have := H.lo t _ ht (List.getElem?_eq_getElem h')
      simpa [ltQ] using this
    · obtain ⟨h', e⟩ := kis_at h
      rw [e]
      rcases H.hi with ⟨y, h1, h2, _⟩ | ⟨h1, _⟩
      · rw [List.getElem?_eq_getElem h'] at h1
        cases h1
        simpa [ltQ] using h2
      · omega
  refine ⟨hp, ?_⟩
  have hp' : posK ltQ (keyI x) (kis l) = i := hp
  unfold hasI hasK
  rw [hp']
  rcases H.hi with ⟨y, h1, _, h3⟩ | ⟨h1, h2⟩
  · unfold kis
    rw [List.getElem?_map, h1, h3]
    simp
  · unfold kis
    rw [List.getElem?_map, List.getElem?_eq_none (by omega), h2]
    rfl
theorem PlaceI.yes {l : List (Int × Nat)} {x : Int × Nat} {i : Nat} (hl : OutL l) (hx : namesB x = true) (H : PlaceI l (keyI x) i true) : meetL l x = l ∧ l[i]? = some x := by
  have h := H.pos.2
  refine ⟨by unfold meetL; rw [if_pos h], ?_⟩
  rcases H.hi with ⟨y, h1, _, h3⟩ | ⟨_, h2⟩
  · have e := keyI_inj (hl.nm y (List.mem_of_getElem? h1)) hx (of_decide_eq_true h3.symm)
    rw [h1, e]
  · cases h2
theorem PlaceI.no {l : List (Int × Nat)} {x : Int × Nat} {i : Nat} (H : PlaceI l (keyI x) i false) : meetL l x = l.take i ++ ([x] ++ l.drop i) := by
  obtain ⟨h1, h2⟩ := H.pos
  unfold meetL
  rw [if_neg (by rw [h2]; simp), h1]
  rfl
section
variable {w w' : World} {B yb : Nat} {kv : Value} {l : List (Int × Nat)}
set_option maxRecDepth 20000 in
set_option maxHeartbeats 1000000 in
theorem iplace_any (c10 : w.cell? ⟨yb, 10, none⟩ = some kv) (hyl : yb < w.heap.size) (kl : w.ownsRow B 44 1 kv l.length (l.map (fun x => uV (keyI x)))) (hll : l.length ≤ 1000000) (k : Nat) :
    Calls Tryz.prog 89 #[.pointer (some ⟨yb, 9, none⟩), .int .u64 (k : Int)] w fun e w' => PlacedI l k w w' e := by
  obtain ⟨ao, cap, hkv⟩ := ownc_form kl
  have HC : Hid (∀ (i : Nat), i < l.length → ∃ g y, ao = some ⟨g, 0, none⟩ ∧ l[i]? = some y ∧ w.cell? ⟨g, i, none⟩ = some (.int .u64 (keyI y : Int)) ∧ g < w.heap.size) := fun i hi => by
    obtain ⟨g, cap', e, _, h2, _, h3, _⟩ := ownc_cell kl (by omega)
    rw [hkv] at e
    simp only [Value.slice.injEq] at e
    refine ⟨g, l[i], e.1, List.getElem?_eq_getElem hi, h3 i _ ?_, h2⟩
    rw [List.getElem?_map, List.getElem?_eq_getElem hi]
    rfl
  subst hkv
  clear kl
  go_enter Tryz.func89, Tryz.ntmps89
  go_wp2
  go_loopw [6] (fun t wr => ∃ (i : Nat), i ≤ l.length ∧ t = .int .i64 (i : Int) ∧ wr = w ∧ ∀ j y, j < i → l[j]? = some y → keyI y < k) (fun t _ => l.length - (intOf t).toNat)
  case atStart => exact ⟨0, Nat.zero_le _, rfl, rfl, fun j y hj => by omega⟩
  case round =>
    obtain ⟨i, hi, rfl, rfl, hno⟩ := hrel
    by_cases hlt : i < l.length
    · have hii : (i : Int) < (l.length : Int) := by omega
      obtain ⟨g, y, rfl, hy, d, hgl⟩ := HC.out i hlt
      have HNO : Hid _ := hidden hno
      have HY : Hid _ := hidden hy
      have HL : Hid (i + 1 ≤ l.length) := hlt
      obtain ⟨ky, hky⟩ : ∃ ky, ky = keyI y := ⟨_, rfl⟩
      rw [← hky] at d
      have HK : Hid (ky = keyI y) := hidden hky
      clear hno hy hlt hky
      by_cases he : ky < k
      · have hnl : ¬ k ≤ ky := by omega
        go_wp2
        go_roundw
        case rel =>
          refine ⟨i + 1, HL.out, by go_num, by first | trivial | rfl, fun j z hj hz => ?_⟩
          by_cases e : j = i
          · subst e
            rw [HY.out] at hz
            cases hz
            rw [← HK.out]
            exact he
          · exact HNO.out j z (by omega) hz
        case measure => have := HL.out; simp [intOf]; omega
      · have hge : k ≤ ky := by omega
        have f7 : ∀ m, (wr.drewN m).cell? ⟨yb, 10, none⟩ = some (.slice (some ⟨g, 0, none⟩) l.length cap) := fun _ => c10
        have fd : ∀ m, (wr.drewN m).cell? ⟨g, i, none⟩ = some (.int .u64 (ky : Int)) := fun _ => d
        by_cases hq : ky = k
        · subst hq
          go_upto_region 5 with fail
          go_quiet (fail)
          go_wp2
          go_ret2
          exact PlacedI.of i true (by first | rfl | simp) ⟨by have := HL.out; omega, HNO.out, Or.inl ⟨y, HY.out, by rw [← HK.out]; exact Nat.le_refl _, by rw [← HK.out]; simp⟩⟩ (below_drewN0 _ _)
        · have hne : ((ky : Int) == (k : Int)) = false := by rw [beq_eq_false_iff_ne]; omega
          go_upto_region 5 with fail
          go_quiet (fail)
          go_wp2
          go_ret2
          exact PlacedI.of i false (by first | rfl | simp [hne] | simp [hq]) ⟨by have := HL.out; omega, HNO.out, Or.inl ⟨y, HY.out, by rw [← HK.out]; exact hge, by rw [← HK.out]; simp [hq]⟩⟩ (below_drewN0 _ _)
    · have hii : ¬ (i : Int) < (l.length : Int) := by omega
      have hE : i = l.length := by omega
      have HNO : Hid _ := hidden hno
      have HE : Hid (i = l.length) := hidden hE
      clear hno hE
      go_wp2
      go_ret2
      exact PlacedI.of i false (by first | rfl | (rw [HE.out]; rfl)) ⟨hi, HNO.out, Or.inr ⟨HE.out, rfl⟩⟩ (Below.refl _ _)
end
end Go.Proofs.YtlabdbfmfejkaaaGreatDoor

namespace Go.Proofs.YtlabdbfmfejkaaaGreatDoor
open Go.RowKit

section
variable {w w' : World} {B yb rb qb ra rc rt base : Nat} {L : Nat → Nat} {s : QSt} {sv mv kv vv lv : Value} {p : PSt} {Lp : List ((Int × Nat) × Nat)} {h : HSt} {M : List Pl}
theorem RX.get_of (z : RX w rb ra rc rt lv h M) (a : Nat) : getC h.cs a = (getP M a).map (·.o) := by rw [← z.cs, getP_o]
set_option maxRecDepth 20000 in
set_option maxHeartbeats 1000000 in
theorem qsus_any (x : QcN w B yb rb qb L s) (q : RQ w qb rb base sv mv kv vv p Lp) (z : RX w rb ra rc rt lv h M) (a : Nat) :
    Calls Tryz.prog 38 #[.pointer (some ⟨yb, 0, none⟩), .int .u64 (a : Int)] w fun e w' => e = .returned (.bool (susO h p s.sus a)) ∧ Below w.heap.size w w' := by
  obtain ⟨rv, wv, tv, kv', ov, ts, x⟩ := x
  have HC : Hid (∀ W, Below w.heap.size w W → W.cell? ⟨yb, 0, none⟩ = some (.pointer (some ⟨rb, 0, none⟩)) ∧ W.cell? ⟨yb, 4, none⟩ = some (.int .i64 s.sus) ∧ yb < W.heap.size) := fun W hB => by
    obtain ⟨c0, _, _, _, c4, _⟩ := (x.below hB).c
    exact ⟨c0, c4, (x.below hB).bl.2⟩
  obtain ⟨_, c1, _⟩ := x.c
  have hyl := x.bl.2
  have hMk := rmark_any q z a
  have HG : Hid (∀ W, Below w.heap.size w W → Calls Tryz.prog 37 #[.pointer (some ⟨rb, 0, none⟩), .int .u64 (a : Int)] W fun e w' => e = .returned (ptrOf (getP M a)) ∧ W = w') := fun W hB => rget_any (z.below hB) a
  have hget := z.get_of a
  have hSO : susO h p s.sus a = ((markR h p a).2.2 && decide (s.sus < ((markR h p a).1 : Int))) := rfl
  have hno : (markR h p a).2.2 = true → ∃ pl, getP M a = some pl := fun e => by
    unfold markR at e
    rw [hget] at e
    cases hg : getP M a with
    | none => rw [hg] at e; cases e
    | some pl => exact ⟨pl, rfl⟩
  generalize markR h p a = mk at *
  obtain ⟨rk, gy, ok⟩ := mk
  simp only at hMk hSO hno
  rw [hSO]
  clear x q z hget hSO
  go_enter Tryz.func38, Tryz.ntmps38
  go_wp2_with fail
  refine hMk.mono ?_
  rintro e w1 ⟨rfl, b1⟩
  obtain ⟨c0, c4, hyl⟩ := HC.out w1 b1
  have hG := HG.out w1 b1
  have HB : Hid _ := hidden b1
  clear hMk b1 c1
  cases ok with
  | false =>
    clear hG hno
    go_wp2
    go_ret
    exact ⟨rfl, HB.out⟩
  | true =>
    obtain ⟨pl, hpl⟩ := hno rfl
    rw [hpl] at hG
    simp only [ptrOf, Option.map_some] at hG
    clear hno hpl
    by_cases hrk : s.sus < (rk : Int)
    · go_wp2_with fail
      refine hG.mono ?_
      rintro e _ ⟨rfl, rfl⟩
      clear hG
      go_wp2
      go_ret
      exact ⟨by first | rfl | simp [hrk], HB.out⟩
    · clear hG
      go_wp2
      go_ret
      exact ⟨by first | rfl | simp [hrk], HB.out⟩
end
end Go.Proofs.YtlabdbfmfejkaaaGreatDoor
