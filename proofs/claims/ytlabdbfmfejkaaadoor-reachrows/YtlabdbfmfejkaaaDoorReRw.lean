/- ReachRows: the rows against going round till nothing changes. -/
import Derived.Test.YtlabdbfmfejkaaaDoorReLwP
import Derived.Test.YtlabdbfmfejkaaaDoorReZP
namespace Go.Proofs.YtlabdbfmfejkaaaDoor
open Go.RowKit
open Go.Sort hiding Below

section
variable {w0 w w' : World} {B hb rb pb qb : Nat} {h1 h2 : HSt} {p1 p2 : PSt} {X : Nat → Prop}
theorem P4.qmark (x : P4 w0 B w hb rb pb qb h1 h2 p1 p2 X) (s : Nat) :
    Calls Tryd.prog 25 #[.pointer (some ⟨qb, 0, none⟩), .int .u64 (s : Int)] w fun e w' => e = .returned (.tuple #[.int .i64 ((markR h2 p2 s).1 : Int), .bool (markR h2 p2 s).2.1, .bool (markR h2 p2 s).2.2]) ∧ Below w.heap.size w w' := by
  obtain ⟨F, G, P, Q, hp, ⟨ra, rc, rt, lv, M, hr, hGi⟩, pn, ⟨sv, mv, kv, vv, L, hq, hQi⟩, ap⟩ := x.ex
  exact rmark_any hq hr s
theorem P4.qouts (x : P4 w0 B w hb rb pb qb h1 h2 p1 p2 X) : ∃ L, OutsOf p2.me L ∧ L.length ≤ 1000000 ∧ ∀ W, Below w.heap.size w W → Calls Tryd.prog 61 #[.pointer (some ⟨qb, 0, none⟩)] W fun e w' => ∃ v, e = .returned v ∧ OL w' 0 v L ∧ Below W.heap.size W w' := by
  obtain ⟨F, G, P, Q, hp, rp, pn, ⟨sv, mv, kv, vv, L, hq, hQi⟩, ap⟩ := x.ex
  refine ⟨L, hq.srt, hq.few.2.2.2.2, fun W hB => (routs_any (hq.below hB)).mono ?_⟩
  rintro e w' ⟨r, e1, h3, h4⟩
  exact ⟨r, e1, h3.zero, h4⟩
end
/-- Rows ahead of a are below s, the others not. -/
structure AtS (l : List (Nat × List (Int × Nat))) (a s : Nat) : Prop where
  le : a ≤ l.length
  lo : ∀ j (hj : j < l.length), j < a → l[j].1 < s
  hi : ∀ j (hj : j < l.length), a ≤ j → s ≤ l[j].1
section
variable {l : List (Nat × List (Int × Nat))} {a s N : Nat}
theorem AtS.new (h : ∀ e ∈ l, 1 ≤ e.1) : AtS l 0 1 := ⟨Nat.zero_le _, fun _ _ h => absurd h (Nat.not_lt_zero _), fun _ hj _ => h _ (List.getElem_mem hj)⟩
theorem AtS.skip (H : AtS l a s) (h : s ∉ l.map (·.1)) : AtS l a (s + 1) :=
  ⟨H.le, fun j hj h1 => Nat.lt_succ_of_lt (H.lo j hj h1), fun j hj h1 => by
    have h2 := H.hi j hj h1
    have h3 : l[j].1 ≠ s := fun e => h (by rw [← e]; exact List.mem_map_of_mem (List.getElem_mem hj))
    omega⟩
theorem AtS.here (H : AtS l a s) (hs : (l.map (·.1)).Pairwise (· < ·)) (h : s ∈ l.map (·.1)) : ∃ h : a < l.length, l[a].1 = s ∧ AtS l (a + 1) (s + 1) := by
  obtain ⟨e, he, hq⟩ := List.mem_map.1 h
  obtain ⟨j, hj, rfl⟩ := List.getElem_of_mem he
  have haj : a ≤ j := by
    rcases Nat.lt_or_ge j a with h1 | h1
    · have := H.lo j hj h1; omega
    · exact h1
  have hja : j = a := by
    rcases Nat.lt_or_ge a j with h1 | h1
    · have h2 := rise_lt hs (by omega : a < l.length) hj h1
      have h3 := H.hi a (by omega) (Nat.le_refl _)
      omega
    · omega
  subst hja
  refine ⟨hj, hq, hj, fun i hi h1 => ?_, fun i hi h1 => ?_⟩
  · rcases Nat.lt_or_ge i j with h2 | h2
    · have := H.lo i hi h2; omega
    · have e : i = j := by omega
      subst e
      omega
  · have := rise_lt hs hj hi (by omega)
    omega
theorem AtS.ends (H : AtS l a (N + 1)) (h : ∀ e ∈ l, e.1 ≤ N) : a = l.length := by
  rcases Nat.lt_or_ge a l.length with h1 | h1
  · have h2 := H.hi a h1 (Nat.le_refl _)
    have h3 := h _ (List.getElem_mem h1)
    omega
  · have := H.le; omega
end
theorem RL.at3 {w : World} {B : Nat} {v : Value} {ts : List ((Nat × List (Int × Nat)) × Value)} {l : List (Nat × List (Int × Nat))} (h : RL w B v ts) (e : ts.map (·.1) = l) : ∃ ao c, v = .slice ao l.length c ∧ l.length ≤ c ∧ c ≤ maxLen ∧ ∀ k (hk : k < l.length), ∃ g sv, ao = some ⟨g, 0, none⟩ ∧ g < w.heap.size ∧ w.cell? ⟨g, k * 2, none⟩ = some (.int .u64 (l[k].1 : Int)) ∧ w.cell? ⟨g, k * 2 + 1, none⟩ = some sv ∧ OwI w B sv l[k].2 := by
  subst e
  obtain ⟨ao, c, rfl, h1, h2, h3⟩ := h.at
  refine ⟨ao, c, by rw [List.length_map], by rw [List.length_map]; exact h1, h2, fun k hk => ?_⟩
  have hk' : k < ts.length := by simpa using hk
  obtain ⟨g, rfl, _, h5, h6, h7⟩ := h3 k hk'
  have ho := h.sr _ (List.getElem_mem hk')
  refine ⟨g, _, rfl, h5, ?_, h7, ?_⟩
  · rw [List.getElem_map]; exact h6
  · rw [List.getElem_map]; exact ho
theorem Ends.row {h : HSt} {p : PSt} {t : Int} {g : Gr} {n : Nat} {l : List (Nat × List (Int × Nat))} (H : Ends h p t l) (m : M2 g n n 0 h) {j : Nat} (hj : j < n) : (j + 1) ∈ l.map (·.1) ↔ 0 < distR g j ∧ susO h p t (j + 1) = true := by
  obtain ⟨o, h1, h2⟩ := m.dis j hj
  rw [H.mem]
  constructor
  · rintro ⟨o', h3, h4, h5⟩
    rw [h1] at h3
    cases h3
    exact ⟨by omega, h5⟩
  · rintro ⟨h3, h4⟩
    exact ⟨o, h1, by omega, h4⟩
theorem Ends.in_ {h : HSt} {p : PSt} {t : Int} {n : Nat} {l : List (Nat × List (Int × Nat))} (H : Ends h p t l) (hin : ∀ k o, getC h.cs k = some o → 1 ≤ k ∧ k ≤ n) : ∀ e ∈ l, 1 ≤ e.1 ∧ e.1 ≤ n := fun e he => by
  obtain ⟨o, h1, _⟩ := (H.mem e.1).1 (List.mem_map_of_mem he)
  exact hin _ _ h1
theorem OutL.same {l l' : List (Int × Nat)} (h1 : OutL l) (h2 : OutL l') (h : ∀ x, x ∈ l ↔ x ∈ l') : l = l' := sorted_ext h1.pw h2.pw h
theorem rows_bound {n : Nat} (hn : n ≤ 25) : n * (n + 2) + 1 ≤ (n + 2) * (n + 2) ∧ n * (n + 2) ≤ 675 := by
  have h1 : n * (n + 2) ≤ 25 * 27 := Nat.mul_le_mul hn (by omega)
  have h2 : (n + 2) * (n + 2) = n * (n + 2) + 2 * (n + 2) := by rw [Nat.add_mul]
  omega
set_option maxRecDepth 20000 in
set_option maxHeartbeats 8000000 in
theorem reachRows_any {w : World} {vr vo vi vl : Value} {g : Gr} {xs : List Way} (a : Int) (x : GI w vr vo vi g) (hT : TB w) (hl : WS w vl 5 cWay xs) (hR : ∀ y ∈ xs, y.Ok) :
    Calls Tryd.prog 5 #[.agg #[vr, vo, vi], vl, .int .i64 a] w fun e w' => e = .returned (.bool true) ∧ Below w.heap.size w w' := by
  obtain ⟨a1, c1, a2, c2, a3, c3, rfl, rfl, rfl⟩ := x.shape
  obtain ⟨lo, lc, rfl, _, _⟩ := hl.slice
  have hA : ∀ o, Below w.heap.size w (w.alloc o) := fun o => bel_alloc w o
  have hHp := fun o => heaps_at (x.below (hA o)) (hT.below (hA o)) 25 (by omega)
  have HL : Hid _ := hidden hl
  have HX : Hid _ := hidden x
  have HRW : Hid _ := hidden hR
  clear x hl hR
  go_enter Tryd.func5, Tryd.ntmps5
  go_wp2_with fail
  refine (hHp _).mono ?_
  rintro e w1 ⟨hb, rb, h, rfl, y1, m1⟩
  obtain ⟨wA, hwA⟩ : ∃ z, z = w.alloc (.cells #[.slice a1 g.refs.length c1, .slice a2 g.out.length c2, .slice a3 g.inn.length c3] 26) := ⟨_, rfl⟩
  rw [← hwA] at y1
  have hbA : Below w.heap.size w wA := by rw [hwA]; exact hA _
  have hTA : TB wA := hT.below hbA
  have HWL : Hid _ := hidden (HL.out.below hbA)
  have hgw : w.heap.size < wA.heap.size := by rw [hwA]; simp
  have HD0 : Hid (∀ W : World, Below wA.heap.size wA W → W.cell? ⟨w.heap.size, 0, none⟩ = some (.slice a1 g.refs.length c1) ∧ W.cell? ⟨w.heap.size, 1, none⟩ = some (.slice a2 g.out.length c2) ∧ W.cell? ⟨w.heap.size, 2, none⟩ = some (.slice a3 g.inn.length c3) ∧ GI W (.slice a1 g.refs.length c1) (.slice a2 g.out.length c2) (.slice a3 g.inn.length c3) g ∧ w.heap.size < W.heap.size) := fun W hB => by
    refine ⟨(hB.cell (p := ⟨w.heap.size, 0, none⟩) hgw).trans (by rw [hwA]; simp), (hB.cell (p := ⟨w.heap.size, 1, none⟩) hgw).trans (by rw [hwA]; simp), (hB.cell (p := ⟨w.heap.size, 2, none⟩) hgw).trans (by rw [hwA]; simp), ?_, Nat.lt_of_lt_of_le hgw hB.size⟩
    exact HX.out.below (hbA.trans (hB.mono hbA.size))
  have HBA : Hid (∀ W, Below wA.heap.size wA W → Below w.heap.size w W) := fun W hB => hbA.trans (hB.mono hbA.size)
  clear hHp hwA hA hT hgw
  have hok := y1.ok
  obtain ⟨N, hN⟩ : ∃ N, N = min g.refs.length 25 := ⟨_, rfl⟩
  rw [← hN] at m1
  have hla : h.last = N := m1.last
  have hN25 : N ≤ 25 := by omega
  have HNG : Hid (N ≤ g.refs.length) := by
    have e : N ≤ g.refs.length := by omega
    exact e
  have HIN : Hid (∀ k o, getC h.cs k = some o → 1 ≤ k ∧ k ≤ N) := m2_inC m1 hok
  have HRF : Hid (∀ s, ∀ x ∈ refsC h.cs s, x.2 < 18446744073709551616) := m2_u64 m1 hok (by omega)
  have HLN : Hid (h.cs.length ≤ N) := Nat.le_of_eq m1.len
  have HM2 : Hid (M2 g N N 0 h) := m1
  have HOK : Hid h.Ok := hok
  have HLA : Hid (h.last = N) := hla
  obtain ⟨hb1, hb2⟩ := rows_bound hN25
  obtain ⟨E, hE⟩ : ∃ E, E = N * (N + 2) := ⟨_, rfl⟩
  obtain ⟨D, hD⟩ : ∃ D, D = N + 2 := ⟨_, rfl⟩
  obtain ⟨M, hM⟩ : ∃ M, M = D * D := ⟨_, rfl⟩
  have HEE : Hid (E + 1 ≤ M ∧ E ≤ 675) := by
    have e : E + 1 ≤ M ∧ E ≤ 675 := by rw [hE, hM, hD]; exact ⟨hb1, hb2⟩
    exact e
  have hMs : M < 1000000 := by
    rw [hM]
    exact Nat.lt_of_le_of_lt (Nat.mul_le_mul (by omega : D ≤ 27) (by omega : D ≤ 27)) (by omega)
  have e1 : (N : Int) + 2 = (D : Int) := by omega
  have e2 : (D : Int) * (D : Int) = (M : Int) := by rw [hM]; simp
  have hDs : D < 1000000 := by omega
  have hNs : N < 1000000 := by omega
  clear m1 hN hok hb1 hb2 hD hM
  go_wp2_with fail
  refine (reknown_any _ (hTA.below (y1.bel.mono (Nat.le_refl _)))).mono ?_
  rintro e w2 ⟨rfl, b2⟩
  have hPt := painted_inv (NI h) (y1.read b2) HWL.out HRW.out (by omega) (NI.new h 4) (fun p x r H => H.shade x r) (fun p s H => H.scan s)
  clear y1 b2 hTA hla HWL HRW HL
  go_wp2_with fail
  refine hPt.mono ?_
  rintro e w3 ⟨pb, qb, p, rfl, z3, K3, ni3⟩
  have H := hos_p4 wA wA.heap.size hb rb pb qb h h p p
  have hNw := H.rnew z3
  have HNM : Hid (∀ e ∈ p.me, namesB e.1 = true) := K3.nm
  have HNI : Hid (NI h p) := ni3
  clear hPt z3 K3 ni3
  go_wp2_with fail
  refine hNw.mono ?_
  rintro e w4 ⟨rfl, x4, b4⟩
  generalize w3.heap.size = xb at *
  clear hNw b4
  go_wp2_with fail
  refine (pick_any a 9 (by omega) (by omega) _).mono ?_
  rintro e _ ⟨rfl, rfl⟩
  generalize pickN a 9 = t at *
  have hBe := x4.begin H (t : Int)
  clear x4
  go_wp2_with fail
  refine hBe.mono ?_
  rintro e w5 ⟨rfl, x5, k5⟩
  have hrc := (x5.out H).last
  rw [HLA.out] at hrc
  have hrl := cell_lt hrc
  have HX5 : Hid _ := hidden x5
  obtain ⟨b1', b2'⟩ := wrap_midC D hDs
  obtain ⟨b3', b4'⟩ := wrap_midC M hMs
  obtain ⟨b5', b6'⟩ := wrap_midC N hNs
  have HS0 : Hid (Stp h p (t : Int) N E 0 (RSt.new (t : Int))) := by
    rw [hE]
    exact Stp.new (t : Int) HLN.out (m2_one HOK.out)
  clear hBe x5 k5 hE
  go_wp2
  go_loopw [14] (fun tt wr => ∃ (k : Nat) (r : RSt), tt = .int .i64 (k : Int) ∧ RcS (fun w X => P4 wA wA.heap.size w hb rb pb qb h h p p X) wr wA.heap.size xb hb pb r (fun _ => False) ∧ Stp h p (t : Int) N E k r) (fun tt _ => E + 1 - (intOf tt).toNat)
  case atStart => exact ⟨0, RSt.new (t : Int), rfl, HX5.out, HS0.out⟩
  case round =>
    clear HX5 hrc hrl HS0
    obtain ⟨k, r, rfl, x, hst⟩ := hrel
    have hke := hst.lt
    have hkm : (k : Int) < (M : Int) := Int.ofNat_lt.2 (Nat.lt_of_lt_of_le (Nat.lt_succ_of_le hke) HEE.out.1)
    have hS := x.step H HNM.out HRF.out hst.rb (by have := HEE.out; omega)
    have hq := hst.step HOK.out HNM.out HIN.out
    have hq2 := hst.stop HOK.out HIN.out
    have HRB : Hid (RB r (7 * k)) := hst.rb
    have HKE : Hid (k ≤ E) := hke
    generalize hRR : r.step h p = R at *
    obtain ⟨b, r2⟩ := R
    simp only at hS hq hq2
    cases b with
    | true =>
      have HST : Hid _ := hidden (hq rfl)
      clear x hst hke hq hq2 hRR
      go_wp2_with fail
      refine hS.mono ?_
      rintro e w6 ⟨rfl, x6, k6⟩
      have HX6 : Hid _ := hidden x6
      clear hS x6 k6
      go_wp2
      go_roundw
      case rel => exact ⟨k + 1, r2, by go_num, HX6.out, HST.out⟩
      case measure => have := HKE.out; simp [intOf]; omega
    | false =>
      obtain ⟨e1', hen⟩ := hq2 rfl
      subst e1'
      have HEN : Hid (Ends h p (t : Int) r2.ended) := hen
      have HRR : Hid (r2.step h p = (false, r2)) := hRR
      clear x hst hke hq hq2 hen hRR
      go_wp2_with fail
      refine hS.mono ?_
      rintro e w6 ⟨rfl, x6, k6⟩
      have hRo := x6.rows HRB.out (by have := HKE.out; have := HEE.out; omega)
      have HX6 : Hid _ := hidden x6
      clear hS x6 k6
      go_wp2_with fail
      refine hRo.mono ?_
      rintro e w7 ⟨v, ts, rfl, hrl, hts, b7⟩
      obtain ⟨l, hle⟩ : ∃ l, l = r2.ended := ⟨_, rfl⟩
      rw [← hle] at HEN hts
      have HX7 : Hid _ := hidden (HX6.out.read H b7)
      have hz7 := HX7.out.out H
      obtain ⟨Lo, hLo, hLl, hQO⟩ := hz7.qouts
      have HQO : Hid _ := hidden hQO
      have HQM : Hid (∀ W, Below w7.heap.size w7 W → ∀ s : Nat, Calls Tryd.prog 25 #[.pointer (some ⟨qb, 0, none⟩), .int .u64 (s : Int)] W fun e w' => e = .returned (.tuple #[.int .i64 ((markR h p s).1 : Int), .bool (markR h p s).2.1, .bool (markR h p s).2.2]) ∧ Below W.heap.size W w') := fun W hB s => (hz7.read hB).qmark s
      have HB7 : Hid (Below wA.heap.size wA w7) := hz7.bel
      obtain ⟨nl, hnl⟩ : ∃ nl, nl = l.length := ⟨_, rfl⟩
      have HAT : Hid (∀ W, Below w7.heap.size w7 W → ∃ ao c, v = .slice ao nl c ∧ nl ≤ c ∧ c ≤ maxLen ∧ ∀ k (hk : k < l.length), ∃ g sv, ao = some ⟨g, 0, none⟩ ∧ g < W.heap.size ∧ W.cell? ⟨g, k * 2, none⟩ = some (.int .u64 (l[k].1 : Int)) ∧ W.cell? ⟨g, k * 2 + 1, none⟩ = some sv ∧ OwI W w6.heap.size sv l[k].2) := fun W hB => by rw [hnl]; exact (hrl.below hB).at3 hts
      obtain ⟨ao, c, hv, hc1, hc2, _⟩ := HAT.out w7 (Below.refl _ _)
      unfold maxLen at hc2
      subst hv
      have HLO : Hid (OutsOf p.me Lo ∧ Lo.length ≤ 1000000) := ⟨hLo, hLl⟩
      have HNL : Hid (nl = l.length) := hidden hnl
      have HN25 : Hid (N ≤ 25) := hidden hN25
      clear hRo hrl hts b7 hz7 hLo hLl hQO HX6 hle hnl hkm HLN hMs e1 e2 b1' b2' b3' b4' hDs
      go_wp2
      go_loopw [16, 17, 18, 19, 20] (fun tt ss _ _ _ wr => ∃ (at_ s : Nat), tt = .int .i64 (at_ : Int) ∧ ss = .int .i64 ((s : Int) + 1) ∧ s ≤ N ∧ AtS l at_ (s + 1) ∧ Below w7.heap.size w7 wr) (fun _ ss _ _ _ _ => N + 1 - (intOf ss).toNat)
      case atStart => exact ⟨0, 0, rfl, rfl, Nat.zero_le _, AtS.new (fun e he => (HEN.out.in_ HIN.out e he).1), Below.refl _ _⟩
      case round =>
        obtain ⟨at_, s, rfl, rfl, hsN, hat, hbr⟩ := hrel
        have hatl := hat.le
        have HAS : Hid _ := hidden hat
        have HBR : Hid _ := hidden hbr
        by_cases hlt : (s : Int) + 1 ≤ (N : Int)
        · have hMk := HQM.out wr hbr (s + 1)
          have hcs : ((s + 1 : Nat) : Int) = (s : Int) + 1 := by omega
          have hrow := HEN.out.row HM2.out (j := s) (by omega)
          have HS1 : Hid (s + 1 ≤ N) := by
            have e : s + 1 ≤ N := by omega
            exact e
          have hSO : susO h p (t : Int) (s + 1) = ((markR h p (s + 1)).2.2 && decide ((t : Int) < ((markR h p (s + 1)).1 : Int))) := rfl
          rw [hcs] at hMk
          generalize markR h p (s + 1) = mk at *
          obtain ⟨rk, gy, ok⟩ := mk
          simp only at hMk hSO
          rw [hSO] at hrow
          have HROW : Hid _ := hidden hrow
          clear hat hbr hrow hSO hsN
          go_wp2_with fail
          refine hMk.mono ?_
          rintro e w8 ⟨rfl, b8⟩
          have HB8 : Hid _ := hidden (HBR.out.trans (b8.mono HBR.out.size))
          obtain ⟨d0, d1, d2, gi, hgl⟩ := HD0.out w8 (HB7.out.trans (HB8.out.mono HB7.out.size))
          have hDi := dist_any gi s
          obtain ⟨dv, hdv⟩ : ∃ dv, dv = distR g s := ⟨_, rfl⟩
          have HDV : Hid (0 ≤ dv) := by
            have := (dist_le g s).1
            rw [← hdv] at this
            exact this
          rw [← hdv] at hDi HROW
          clear hdv b8 hMk gi HBR
          go_wp2_with fail
          refine hDi.mono ?_
          rintro e w9 ⟨rfl, b9⟩
          have HB9 : Hid _ := hidden (HB8.out.trans (b9.mono HB8.out.size))
          clear hDi d0 d1 d2 hgl HB8 b9
          by_cases hd0 : dv = 0
          · have hd1 : (dv == 0) = true := by simpa using hd0
            have HNX : Hid _ := hidden (HAS.out.skip (fun e => by have := (HROW.out.1 e).1; omega))
            go_wp2
            go_roundw
            case rel => exact ⟨at_, s + 1, rfl, by go_num, HS1.out, HNX.out, HB9.out⟩
            case measure => have := HS1.out; simp [intOf]; omega
          · have hd1 : (dv == 0) = false := by simpa using hd0
            cases ok with
            | false =>
              have HNX : Hid _ := hidden (HAS.out.skip (fun e => by have := (HROW.out.1 e).2; simp at this))
              go_wp2
              go_roundw
              case rel => exact ⟨at_, s + 1, rfl, by go_num, HS1.out, HNX.out, HB9.out⟩
              case measure => have := HS1.out; simp [intOf]; omega
            | true =>
              by_cases hrk : (rk : Int) ≤ (t : Int)
              · have HNX : Hid _ := hidden (HAS.out.skip (fun e => by have := (HROW.out.1 e).2; simp at this; omega))
                go_wp2
                go_roundw
                case rel => exact ⟨at_, s + 1, rfl, by go_num, HS1.out, HNX.out, HB9.out⟩
                case measure => have := HS1.out; simp [intOf]; omega
              · obtain ⟨ha, hq, hnx⟩ := HAS.out.here HEN.out.srt (HROW.out.2 ⟨by have := HDV.out; omega, by simp; omega⟩)
                have HNX : Hid _ := hidden hnx
                obtain ⟨ao', c', e', _, _, hcc⟩ := HAT.out w9 HB9.out
                obtain ⟨gq, sv, e2, hgq, r0, r1, hOw⟩ := hcc at_ ha
                simp only [Value.slice.injEq] at e'
                obtain ⟨rfl, _, rfl⟩ := e'
                subst e2
                rw [hq, hcs] at r0
                obtain ⟨so, sc, hsv, _⟩ := hOw.slice
                subst hsv
                have HF := HEN.out.full _ (List.getElem_mem ha)
                obtain ⟨ol, hol⟩ : ∃ ol, ol = l[at_].2 := ⟨_, rfl⟩
                rw [← hol] at hOw r1
                have HFO : Hid (OutL ol ∧ ∀ x, x ∈ ol ↔ Tell h p (t : Int) (s + 1) x) := by
                  have := HF.mem
                  rw [hq] at this
                  rw [hol]
                  exact ⟨HF.ou, this⟩
                have hatn : (at_ : Int) < (nl : Int) := by have := HNL.out; omega
                have HLd : Hid (∀ W, Below w9.heap.size w9 W → Calls Tryd.prog 28 #[.agg #[.slice a1 g.refs.length c1, .slice a2 g.out.length c2, .slice a3 g.inn.length c3], .pointer (some ⟨qb, 0, none⟩), .int .i64 (N : Int), .int .i64 ((s : Int) + 1), .int .i64 (t : Int)] W fun e w' => ∃ lv, e = .returned lv ∧ OwI w' W.heap.size lv ol ∧ Below W.heap.size W w') := fun W hB => by
                  have hBW := HB9.out.trans (hB.mono HB9.out.size)
                  have gW := (HD0.out W (HB7.out.trans (hBW.mono HB7.out.size))).2.2.2.1
                  have hc := leads_any (h := h) (p := p) (L := Lo) (qb := qb) (n := N) (s := s + 1) (t := (t : Int)) gW HM2.out (by have := HN25.out; omega) HNG.out ⟨by omega, HS1.out⟩ HIN.out (fun W' hB' q => HQM.out W' (hBW.trans (hB'.mono hBW.size)) q) (fun W' hB' => HQO.out W' (hBW.trans (hB'.mono hBW.size))) HLO.out.1 HLO.out.2 HNM.out HNI.out
                  rw [hcs] at hc
                  refine hc.mono ?_
                  rintro e w' ⟨lv, l', rfl, o1, o2, o3, o4⟩
                  have e3 : l' = ol := o2.same HFO.out.1 (fun x => by rw [o3, HFO.out.2])
                  subst e3
                  exact ⟨lv, rfl, o1, o4⟩
                have HOW : Hid (∀ W, Below w9.heap.size w9 W → OwI W w6.heap.size (.slice so ol.length sc) ol) := fun W hB => hOw.below hB
                have hgl := (HD0.out w9 (HB7.out.trans (HB9.out.mono HB7.out.size))).2.2.2.2
                have R0 : ∀ W, Below w9.heap.size w9 W → W.cell? ⟨gq, at_ * 2, none⟩ = some (.int .u64 ((s : Int) + 1)) := fun W hB => (hB.cell (p := ⟨gq, at_ * 2, none⟩) hgq).trans r0
                have R1 : ∀ W, Below w9.heap.size w9 W → W.cell? ⟨gq, at_ * 2 + 1, none⟩ = some (.slice so ol.length sc) := fun W hB => (hB.cell (p := ⟨gq, at_ * 2 + 1, none⟩) hgq).trans r1
                have D0 : ∀ W, Below w9.heap.size w9 W → W.cell? ⟨w.heap.size, 0, none⟩ = some (.slice a1 g.refs.length c1) := fun W hB => (HD0.out W (HB7.out.trans ((HB9.out.trans (hB.mono HB9.out.size)).mono HB7.out.size))).1
                have D1 : ∀ W, Below w9.heap.size w9 W → W.cell? ⟨w.heap.size, 1, none⟩ = some (.slice a2 g.out.length c2) := fun W hB => (HD0.out W (HB7.out.trans ((HB9.out.trans (hB.mono HB9.out.size)).mono HB7.out.size))).2.1
                have D2 : ∀ W, Below w9.heap.size w9 W → W.cell? ⟨w.heap.size, 2, none⟩ = some (.slice a3 g.inn.length c3) := fun W hB => (HD0.out W (HB7.out.trans ((HB9.out.trans (hB.mono HB9.out.size)).mono HB7.out.size))).2.2.1
                generalize ol.length = ln at *
                have hww : IntKind.u64.wrap ((s : Int) + 1) = (s : Int) + 1 := by rw [IntKind.wrap_u64]; omega
                have hne : (((s : Int) + 1) != ((s : Int) + 1)) = false := by simp
                have hne2 : (((s : Int) + 1) == ((s : Int) + 1)) = true := by simp
                have hge : ¬ (nl : Int) ≤ (at_ : Int) := by omega
                have hge' : decide ((nl : Int) ≤ (at_ : Int)) = false := decide_eq_false hge
                clear hcc hOw HF hol hq hnx r0 r1 HAT HAS HROW hd0
                go_upto_region 23 with fail
                refine rows_region w9 qb w.heap.size gq nl c at_ s N ln sc w6.heap.size so (t : Int) _ _ _ ol hatn (Int.not_le.2 hatn) hww R0 R1 D0 D1 D2 HLd HOW _ (fun _ _ _ _ _ h => h) _ _ _ _ _ _ _ _ _ _ _ _ _ _ _ _ _ _ _ _ _ _ _ _ _ _ _ _ _ _ _ _ _ _ _ _ _ _ _ _ _ _ _ _ _ _ _ _ _ _ _ _ _ _ _ _ _ _ _ _ _ _ _ _ _ _ _ _ _ _ _ _ _ _ _ _ _ _ _ _ _ _ _ _ _ _ _ _ _ _ _ _ _ _ _ _ _ _ _ _ _ _ _ _ _ _ _ _ _ _ _ _ _ _ _ _ _ _ _ _ _ _ _ _ _ _ _ _ _ _ _ _ _ _ _ _ _ _ ?_
                intro z105 z106 z107 z108 z109 z110 z111 z112 z113 z114 z115 z116 z117 z118 z119 z120 z121 z122 z123 z124 z125 z126 z127 z128 z129 z130 z131 z132 wd hbd
                have HBC : Hid _ := hidden (HB9.out.trans (hbd.mono HB9.out.size))
                clear R0 R1 D0 D1 D2 hbd HLd HOW
                go_simp
                go_wp2
                go_roundw
                case rel => exact ⟨at_ + 1, s + 1, by go_num, by go_num, HS1.out, HNX.out, HBC.out⟩
                case measure => have := HS1.out; simp [intOf]; omega
        · have hsn : s = N := by omega
          subst hsn
          have hend := HAS.out.ends (fun e he => (HEN.out.in_ HIN.out e he).2)
          have hnn : (at_ : Int) = (nl : Int) := by have := HNL.out; omega
          have x9 := HX7.out.read H HBR.out
          have hS2 := x9.step H HNM.out HRF.out HRB.out (by have := HKE.out; have := HEE.out; omega)
          rw [HRR.out] at hS2
          have heq : ((at_ : Int) == (nl : Int)) = true := by simpa using hnn
          clear hat hbr hend x9
          go_wp2_with fail
          refine hS2.mono ?_
          rintro e w10 ⟨rfl, x10, k10⟩
          have HB : Hid _ := hidden (HBA.out _ (x10.out H).bel)
          clear hS2 x10 k10
          go_wp2
          go_ret
          exact ⟨rfl, HB.out⟩
end Go.Proofs.YtlabdbfmfejkaaaDoor
