import Derived.Test.YtlabdbfmfejkaaaDoorReYP
import Derived.Test.YtlabdbfmfejkaaaDoorQuB
import Derived.Deep.CutRange
import Derived.Deep.CutBlock
import Derived.BigQuiet
import Derived.Test.YtlabdbfmfejkaaaDoorRePP
import Derived.Test.YtlabdbfmfejkaaaDoorReIP
import Derived.Deep.RegionHeld
/- leads(): going round till nothing changes, and what is told. -/
/- The law's own hand: whether lists of IDs, rows are alike. -/
/- Rows against leads, row by row (made by tools/mkrw.py). -/
namespace Go.Proofs.YtlabdbfmfejkaaaDoor
open Go.RowKit

/-- The second half: what is told of all that was met. -/
structure TlI (wj : World) (g : Gr) (n : Nat) (f : Nat → Bool) (x : Int × Nat) (i k : Nat) (v : Value) (w : World) : Prop where
  ex : ∃ b, v = .bool b ∧ (b = true ↔ Fnd g n f x i k)
  bel : Below wj.heap.size wj w
set_option maxRecDepth 20000 in
set_option maxHeartbeats 2000000 in
theorem leads_any {w : World} {vr vo vi : Value} {g : Gr} {h : HSt} {p : PSt} {L : List ((Int × Nat) × Nat)} {qb n s : Nat} {t : Int} (x : GI w vr vo vi g) (m : M2 g n n 0 h) (hn : n ≤ 30) (hng : n ≤ g.refs.length) (hs : 1 ≤ s ∧ s ≤ n) (hin : ∀ k o, getC h.cs k = some o → 1 ≤ k ∧ k ≤ n)
    (hQM : ∀ W, Below w.heap.size w W → ∀ s : Nat, Calls Tryd.prog 25 #[.pointer (some ⟨qb, 0, none⟩), .int .u64 (s : Int)] W fun e w' => e = .returned (.tuple #[.int .i64 ((markR h p s).1 : Int), .bool (markR h p s).2.1, .bool (markR h p s).2.2]) ∧ Below W.heap.size W w')
    (hQO : ∀ W, Below w.heap.size w W → Calls Tryd.prog 61 #[.pointer (some ⟨qb, 0, none⟩)] W fun e w' => ∃ v, e = .returned v ∧ OL w' 0 v L ∧ Below W.heap.size W w')
    (hL : OutsOf p.me L) (hLl : L.length ≤ 1000000) (nm : ∀ e ∈ p.me, namesB e.1 = true) (ni : NI h p) :
    Calls Tryd.prog 28 #[.agg #[vr, vo, vi], .pointer (some ⟨qb, 0, none⟩), .int .i64 (n : Int), .int .i64 (s : Int), .int .i64 t] w fun e w' => ∃ v l, e = .returned v ∧ OwI w' w.heap.size v l ∧ OutL l ∧ (∀ x, x ∈ l ↔ Tell h p t s x) ∧ Below w.heap.size w w' := by
  obtain ⟨a1, c1, a2, c2, a3, c3, rfl, rfl, rfl⟩ := x.shape
  have hA : ∀ o, Below w.heap.size w (w.alloc o) := fun o => bel_alloc w o
  have HX : Hid _ := hidden x
  have hmk := make_bks n (by omega)
  have hn2 : (n : Int) ≤ 30 := by omega
  obtain ⟨wB, hwB⟩ : ∃ z, z = w.alloc (.cells #[.slice a1 g.refs.length c1, .slice a2 g.out.length c2, .slice a3 g.inn.length c3] 26) := ⟨_, rfl⟩
  have hbB : Below w.heap.size w wB := by rw [hwB]; exact hA _
  have hgw : w.heap.size < wB.heap.size := by rw [hwB]; simp
  have HD0 : Hid (∀ W : World, Below wB.heap.size wB W → W.cell? ⟨w.heap.size, 0, none⟩ = some (.slice a1 g.refs.length c1) ∧ W.cell? ⟨w.heap.size, 1, none⟩ = some (.slice a2 g.out.length c2) ∧ W.cell? ⟨w.heap.size, 2, none⟩ = some (.slice a3 g.inn.length c3) ∧ GI W (.slice a1 g.refs.length c1) (.slice a2 g.out.length c2) (.slice a3 g.inn.length c3) g ∧ w.heap.size < W.heap.size) := fun W hB => by
    refine ⟨(hB.cell (p := ⟨w.heap.size, 0, none⟩) hgw).trans (by rw [hwB]; simp), (hB.cell (p := ⟨w.heap.size, 1, none⟩) hgw).trans (by rw [hwB]; simp), (hB.cell (p := ⟨w.heap.size, 2, none⟩) hgw).trans (by rw [hwB]; simp), ?_, Nat.lt_of_lt_of_le hgw hB.size⟩
    exact HX.out.below (hbB.trans (hB.mono hbB.size))
  have HI : Hid (∀ W i (hB : Below wB.heap.size wB W) (hi : i < n), ∃ b o b4 c4 nk, a1 = some ⟨b, o, none⟩ ∧ b < W.heap.size ∧ W.cell? ⟨b, o + i, none⟩ = some (.slice b4 nk c4) ∧ (i : Int) < (g.refs.length : Int) ∧ (∀ k : Nat, k < fl g i → (k : Int) < (nk : Int) ∧ (k : Int) < 7) ∧ (fl g i = nk ∨ (fl g i = 7 ∧ 7 < nk)) ∧ ∃ h : i < g.refs.length, nk = g.refs[i].2.length) := fun W i hB hi => by
    have h1 : i < g.refs.length := by omega
    have hG := (HD0.out W hB).2.2.2.1
    obtain ⟨b, o, q1, q2, q3⟩ := WS.one (f := fun y : Value × List Int => y.1) hG.r i h1
    obtain ⟨a4, c4, q4, _⟩ := (hG.rs _ (List.getElem_mem h1)).slice
    rw [q4] at q3
    have hfl := fl_at h1
    exact ⟨b, o, a4, c4, _, q1, q2, q3, by omega, fun k hk => ⟨by omega, by omega⟩, by omega, h1, rfl⟩
  have HW : Hid (∀ W, Below wB.heap.size wB W → Below w.heap.size w W) := fun W hB => hbB.trans (hB.mono hbB.size)
  have HQM : Hid (∀ W, Below wB.heap.size wB W → ∀ s : Nat, Calls Tryd.prog 25 #[.pointer (some ⟨qb, 0, none⟩), .int .u64 (s : Int)] W fun e w' => e = .returned (.tuple #[.int .i64 ((markR h p s).1 : Int), .bool (markR h p s).2.1, .bool (markR h p s).2.2]) ∧ Below W.heap.size W w') := fun W hB => hQM W (HW.out W hB)
  have HQO : Hid (∀ W, Below wB.heap.size wB W → Calls Tryd.prog 61 #[.pointer (some ⟨qb, 0, none⟩)] W fun e w' => ∃ v, e = .returned v ∧ OL w' 0 v L ∧ Below W.heap.size W w') := fun W hB => hQO W (HW.out W hB)
  have HM : Hid (LdI wB (w.heap.size + 1) n (fun _ => false) (wB.alloc (.cells (bqV n (fun _ => false)).toArray 4))) := by
    rw [hwB]
    exact LdI.made w _ n
  have HIN : Hid (∀ k o, getC h.cs k = some o → 1 ≤ k ∧ k ≤ n) := hin
  have HM2 : Hid (M2 g n n 0 h) := m
  have HND : Hid (h.node = 1) := m.node
  have HSS : Hid (1 ≤ s ∧ s ≤ n) := hs
  have HTA : Hid (∀ f : Nat → Bool, (∀ a, f a = true ↔ Led h p t s a) → OutL (tellL g n f t L) ∧ ∀ x, x ∈ tellL g n f t L ↔ Tell h p t s x) := fun f hf => tell_all m hin hL nm ni hf
  have hsi : (s : Int) < (n : Int) + 1 := by omega
  clear x hA hng m hin hs hQM hQO hL nm ni
  generalize hZ : (bqV n (fun _ => false)).toArray = Z at *
  clear hgw
  go_enter Tryd.func28, Tryd.ntmps28
  obtain ⟨k0, k1, k2⟩ := HM.out.cell s HSS.out.2
  rw [hwB] at k0 k1 k2
  go_upto_region 2 with fail
  go_cut [] from 28 to 30 (fun wc => LdI wB (w.heap.size + 1) n (fun a => decide (a = s)) wc)
  case first =>
    have HN : Hid _ := hidden (HM.out.set s)
    rw [upd_first, hwB] at HN
    go_wp2
    go_meet
    rw [hwB]
    have hh := HN.out
    simp [go_sem] at hh
    exact hh
  case rest =>
  have HZ0 : Hid _ := hidden hcut
  clear hcut k0 k1 k2 HM hmk
  go_wp2
  go_loopw [12, 13, 14, 15, 16, 17, 18] (fun tt _ _ _ _ _ _ wr => ∃ (r : Nat) (f : Nat → Bool), r ≤ n ∧ tt = .int .i64 (r : Int) ∧ LdI wB (w.heap.size + 1) n f wr ∧ CR h p t s n f r) (fun tt _ _ _ _ _ _ _ => n - (intOf tt).toNat)
  case atStart => exact ⟨0, _, Nat.zero_le _, rfl, HZ0.out, CR.new HSS.out⟩
  case round =>
    clear HZ0
    obtain ⟨r, f0, hr, rfl, z, hcr⟩ := hrel
    by_cases hlt : (r : Int) < (n : Int)
    · have HZ : Hid _ := hidden z
      have HCR : Hid _ := hidden hcr
      have HR : Hid (r + 1 ≤ n) := by
        have e : r + 1 ≤ n := by omega
        exact e
      clear z hcr hr
      go_wp2
      go_loopw [13, 14, 15, 16, 17, 18] (fun tt _ _ _ _ _ wr => ∃ (i : Nat) (f : Nat → Bool), i ≤ n ∧ tt = .int .i64 ((i : Int) + 1) ∧ LdI wB (w.heap.size + 1) n f wr ∧ CL h p t s n f0 f (i + 1) 0) (fun tt _ _ _ _ _ _ => n + 1 - (intOf tt).toNat)
      case atStart => exact ⟨0, f0, Nat.zero_le _, rfl, HZ.out, HCR.out.begin_ HIN.out HSS.out.1⟩
      case round =>
        clear HZ
        obtain ⟨i, f1, hi, rfl, z, hcl⟩ := hrel
        by_cases hil : (i : Int) + 1 ≤ (n : Int)
        · have HZ : Hid _ := hidden z
          have HCL : Hid _ := hidden hcl
          have HI1 : Hid (i + 1 ≤ n) := by
            have e : i + 1 ≤ n := by omega
            exact e
          clear z hcl hi
          go_wp2
          go_loopw [14, 15, 16, 17, 18] (fun tt _ _ _ _ wr => ∃ (k : Nat) (f : Nat → Bool), k ≤ fl g i ∧ tt = .int .i64 (k : Int) ∧ LdI wB (w.heap.size + 1) n f wr ∧ CL h p t s n f0 f (i + 1) k) (fun tt _ _ _ _ _ => fl g i - (intOf tt).toNat)
          case atStart => exact ⟨0, f1, Nat.zero_le _, rfl, HZ.out, HCL.out⟩
          case round =>
            clear HZ HCL
            obtain ⟨k, f, hk, rfl, z, hcl⟩ := hrel
            obtain ⟨b, o, a4, c4, nk, rfl, hbl, q1, hi2, hkk, hfe, hgl, hnk⟩ := HI.out wr i z.bel HI1.out
            obtain ⟨d0, d1, d2, gi, hgs⟩ := HD0.out wr z.bel
            obtain ⟨ci, _, hkl⟩ := z.cell (i + 1) HI1.out
            obtain ⟨hrl, hre⟩ := m2_refs HM2.out (i := i) HI1.out
            obtain ⟨fi, hfi⟩ : ∃ z, z = f (i + 1) := ⟨_, rfl⟩
            rw [← hfi] at ci
            have HZ5 : Hid _ := hidden z
            have HCL : Hid _ := hidden hcl
            have HEX : Hid ((fi = false ∨ k = fl g i) → CL h p t s n f0 f (i + 1 + 1) 0) := fun hx => hcl.up (by
              rcases hx with hx | hx
              · left; rw [← hfi]; exact hx
              · right; omega)
            have hi60 : i < 60 := by have := HI1.out; omega
            clear z hcl
            cases fi with
            | false =>
              clear gi hkk hfe hnk hgl hfi hrl hre
              go_wp2
              go_roundw
              case rel => exact ⟨i + 1, f, HI1.out, by go_num, HZ5.out, HEX.out (Or.inl rfl)⟩
              case measure => have := HI1.out; simp [intOf]; omega
            | true =>
              by_cases hkf : k < fl g i
              · obtain ⟨hk1, hk2⟩ := hkk k hkf
                have hTg := target_any gi i k n hgl (by omega) hi60 (by omega) (by omega) (by omega)
                have hxe := hre k hkf
                have HL1 : Hid (k + 1 ≤ fl g i) := hkf
                have HNO : Hid (¬ ((targetR g i k n).1 = (h.node : Int) ∧ susO h p t (targetR g i k n).2 = true) → CL h p t s n f0 f (i + 1) (k + 1)) := fun e => HCL.out.pass hxe e
                have HYES : Hid ((targetR g i k n).1 = (h.node : Int) → susO h p t (targetR g i k n).2 = true → CL h p t s n f0 (updF f (targetR g i k n).2) (i + 1) (k + 1) ∧ (targetR g i k n).2 ≤ n) := fun e1 e2 => by
                  refine ⟨HCL.out.look HIN.out hxe hfi.symm e1 e2, ?_⟩
                  obtain ⟨o, ho⟩ := sus_there e2
                  exact (HIN.out _ _ ho).2
                have hSO : susO h p t (targetR g i k n).2 = ((markR h p (targetR g i k n).2).2.2 && decide (t < ((markR h p (targetR g i k n).2).1 : Int))) := rfl
                generalize targetR g i k n = tg at *
                obtain ⟨ta, ts⟩ := tg
                simp only at hTg hSO
                clear gi hkk hfe hkf hk hnk hgl HEX hrl hre hxe hfi
                go_wp2_with fail
                refine hTg.mono ?_
                rintro e w6 ⟨rfl, b6⟩
                have HZ6 : Hid _ := hidden (HZ5.out.read b6)
                clear hTg b6 d0 d1 d2 hgs q1 hbl ci hkl HZ5
                go_upto_region 13 with fail
                obtain ⟨w7, hw7⟩ : ∃ z, z = w6.alloc (.cells #[.int .i64 ta, .int .u64 (ts : Int)] 47) := ⟨_, rfl⟩
                rw [← hw7]
                have b7 : Below w6.heap.size w6 w7 := by rw [hw7]; exact bel_alloc _ _
                have HB7 : Hid (∀ W, Below w7.heap.size w7 W → W.cell? ⟨w6.heap.size, 0, none⟩ = some (.int .i64 ta) ∧ W.cell? ⟨w6.heap.size, 1, none⟩ = some (.int .u64 (ts : Int)) ∧ w6.heap.size < W.heap.size) := fun W hB => by
                  have hl : w6.heap.size < w7.heap.size := by rw [hw7]; simp
                  refine ⟨(hB.cell (p := ⟨w6.heap.size, 0, none⟩) hl).trans (by rw [hw7]; simp), (hB.cell (p := ⟨w6.heap.size, 1, none⟩) hl).trans (by rw [hw7]; simp), Nat.lt_of_lt_of_le hl hB.size⟩
                have HZ7 : Hid _ := hidden (HZ6.out.read b7)
                obtain ⟨e0, e1, e2⟩ := HB7.out w7 (Below.refl _ _)
                have hMk := HQM.out w7 HZ7.out.bel ts
                clear hw7 b7 HZ6
                generalize markR h p ts = mk at *
                obtain ⟨rk, gy, ok⟩ := mk
                simp only at hMk hSO
                go_wp2_with fail
                refine hMk.mono ?_
                rintro e w8 ⟨rfl, b8⟩
                have HZ8 : Hid _ := hidden (HZ7.out.read b8)
                clear e0 e1 e2 hMk
                obtain ⟨e0, e1, e2⟩ := HB7.out w8 b8
                clear b8 HZ7 HB7
                have HSO : Hid (susO h p t ts = (ok && decide (t < (rk : Int)))) := hidden hSO
                clear hSO
                by_cases hta : ta = 1
                · subst hta
                  cases ok with
                  | false =>
                    have HNX : Hid _ := hidden (HNO.out (fun e => by
                      have e2 := e.2
                      rw [HSO.out] at e2
                      cases e2))
                    go_wp2
                    go_roundw
                    case rel => exact ⟨k + 1, f, HL1.out, by go_num, HZ8.out, HNX.out⟩
                    case measure => have := HL1.out; simp [intOf]; omega
                  | true =>
                    by_cases hrk : t < (rk : Int)
                    · obtain ⟨HNX, hts⟩ := HYES.out (by rw [HND.out]; rfl) (by
                        rw [HSO.out]
                        simp [hrk])
                      obtain ⟨cx, cxf, cxl⟩ := HZ8.out.cell ts hts
                      have HNX : Hid _ := hidden HNX
                      have htsi : (ts : Int) < (n : Int) + 1 := by omega
                      clear hts
                      go_wp2
                      go_roundw
                      case rel => exact ⟨k + 1, _, HL1.out, by go_num, HZ8.out.set ts, HNX.out⟩
                      case measure => have := HL1.out; simp [intOf]; omega
                    · have HNX : Hid _ := hidden (HNO.out (fun e => by
                        have e2 := e.2
                        rw [HSO.out] at e2
                        simp [hrk] at e2))
                      go_wp2
                      go_roundw
                      case rel => exact ⟨k + 1, f, HL1.out, by go_num, HZ8.out, HNX.out⟩
                      case measure => have := HL1.out; simp [intOf]; omega
                · have HNX : Hid _ := hidden (HNO.out (fun e => hta (by
                    have e1 := e.1
                    rw [HND.out] at e1
                    simpa using e1)))
                  have hta2 : ¬ (ta = 1) := hta
                  go_wp2
                  go_roundw
                  case rel => exact ⟨k + 1, f, HL1.out, by go_num, HZ8.out, HNX.out⟩
                  case measure => have := HL1.out; simp [intOf]; omega
              · have hke : k = fl g i := by omega
                have HD : Hid _ := hidden (HEX.out (Or.inr hke))
                rcases hfe with hfe | hfe
                · have hk1 : ¬ (k : Int) < (nk : Int) := by omega
                  clear gi hkk hnk hgl HEX hfi hrl hre
                  go_wp2
                  go_roundw
                  case rel => exact ⟨i + 1, f, HI1.out, by go_num, HZ5.out, HD.out⟩
                  case measure => have := HI1.out; simp [intOf]; omega
                · have hk1 : (k : Int) < (nk : Int) := by omega
                  have hk2 : ¬ (k : Int) < 7 := by omega
                  clear gi hkk hnk hgl HEX hfi hrl hre
                  go_wp2
                  go_roundw
                  case rel => exact ⟨i + 1, f, HI1.out, by go_num, HZ5.out, HD.out⟩
                  case measure => have := HI1.out; simp [intOf]; omega
        · have hin1 : i = n := by omega
          subst hin1
          have HZ : Hid _ := hidden z
          have HNX : Hid _ := hidden (HCR.out.next hcl)
          clear z hcl
          go_wp2
          go_roundw
          case rel => exact ⟨r + 1, f1, HR.out, by go_num, HZ.out, HNX.out⟩
          case measure => have := HR.out; simp [intOf]; omega
    · have hrn : r = n := by omega
      subst hrn
      obtain ⟨ht1, ht2⟩ := HTA.out f0 (hcr.all (hcr.zero HIN.out HSS.out.1))
      have HT1 : Hid _ := hidden ht1
      have HT2 : Hid _ := hidden ht2
      have hQ := HQO.out wr z.bel
      have HZ : Hid _ := hidden z
      clear z hcr ht1 ht2 HTA
      go_wp2_with fail
      refine hQ.mono ?_
      rintro e w5 ⟨av, rfl, hol, b5⟩
      have HZ5 : Hid _ := hidden (HZ.out.read b5)
      obtain ⟨N, hN⟩ : ∃ N, N = L.length := ⟨_, rfl⟩
      have HOL : Hid (∀ W, Below w5.heap.size w5 W → ∀ j (hj : j < L.length), ∃ b c, av = .slice (some ⟨b, 0, none⟩) N c ∧ b < W.heap.size ∧ W.cell? ⟨b, j * 3, none⟩ = some (.int .i64 L[j].1.1) ∧ W.cell? ⟨b, j * 3 + 1, none⟩ = some (.int .u64 (L[j].1.2 : Int)) ∧ W.cell? ⟨b, j * 3 + 2, none⟩ = some (.int .i64 (L[j].2 : Int))) := fun W hB j hj => by
        obtain ⟨ao, cap, e, hx⟩ := (hol.below hB).ex
        obtain ⟨b, e2, _, hbl, hc⟩ := hx (by omega)
        subst e2
        obtain ⟨q0, q1, q2⟩ := osV_at L j hj
        exact ⟨b, cap, by rw [hN]; exact e, hbl, hc _ _ q0, hc _ _ q1, hc _ _ q2⟩
      obtain ⟨ao, cap, hav, _⟩ := hol.ex
      subst hav
      rw [← hN] at hLl ⊢
      have HN : Hid (N = L.length) := hN
      clear hol b5 hQ HZ hN
      go_wp2
      go_loopw [19, 21, 22, 23, 24] (fun v tt _ _ _ wr => ∃ (j : Nat), j ≤ N ∧ tt = .int .i64 (j : Int) ∧ OwI wr w5.heap.size v (tellL g r f0 t (L.take j)) ∧ Below w5.heap.size w5 wr) (fun _ tt _ _ _ _ => N - (intOf tt).toNat)
      case atStart => exact ⟨0, Nat.zero_le _, rfl, OwI.nil _ _, Below.refl _ _⟩
      case round =>
        obtain ⟨j, hj, rfl, ho, hb⟩ := hrel
        by_cases hjl : (j : Int) < (N : Int)
        · have HB : Hid _ := hidden hb
          have hjl' : j < L.length := by
            have := HN.out
            omega
          have HJ : Hid (j + 1 ≤ N) := by
            have e : j + 1 ≤ N := by omega
            exact e
          obtain ⟨b, c, eb, hbl, q0, q1, q2⟩ := HOL.out wr hb j hjl'
          simp only [Value.slice.injEq] at eb
          obtain ⟨rfl, _, rfl⟩ := eb
          have HTK : Hid ((Fnd g r f0 L[j].1 r 0 ∧ t < (L[j].2 : Int) → tellL g r f0 t (L.take (j + 1)) = tellL g r f0 t (L.take j) ++ [L[j].1]) ∧ (¬ (Fnd g r f0 L[j].1 r 0 ∧ t < (L[j].2 : Int)) → tellL g r f0 t (L.take (j + 1)) = tellL g r f0 t (L.take j))) := by
            rw [List.take_succ_eq_append_getElem hjl']
            exact ⟨tell_yes, tell_no⟩
          generalize L[j] = y at *
          obtain ⟨⟨xa, xs⟩, rk⟩ := y
          simp only at q0 q1 q2 HTK
          have HC : Hid (∀ W, Below wr.heap.size wr W → W.cell? ⟨b, j * 3, none⟩ = some (.int .i64 xa) ∧ W.cell? ⟨b, j * 3 + 1, none⟩ = some (.int .u64 (xs : Int)) ∧ W.cell? ⟨b, j * 3 + 2, none⟩ = some (.int .i64 (rk : Int)) ∧ b < W.heap.size) := fun W hB => ⟨(hB.cell (p := ⟨b, j * 3, none⟩) hbl).trans q0, (hB.cell (p := ⟨b, j * 3 + 1, none⟩) hbl).trans q1, (hB.cell (p := ⟨b, j * 3 + 2, none⟩) hbl).trans q2, Nat.lt_of_lt_of_le hbl hB.size⟩
          obtain ⟨vo, vc, hv2, _⟩ := ho.slice
          subst hv2
          have HO : Hid _ := hidden ho
          have hln : (tellL g r f0 t (L.take j)).length ≤ 1000000 := by
            have h1 := tell_len g r f0 t (L.take j)
            have h2 : (L.take j).length ≤ L.length := by rw [List.length_take]; omega
            have h3 := HN.out
            omega
          have HLL : Hid _ := hidden hln
          generalize (tellL g r f0 t (L.take j)).length = vn at *
          clear ho hb q0 q1 q2 hbl hln
          generalize wr = wj at *
          go_wp2
          go_loopw [22, 23, 24] (fun fv tt _ wr => ∃ (i : Nat) (bb : Bool), i ≤ r ∧ fv = .bool bb ∧ tt = .int .i64 ((i : Int) + 1) ∧ (bb = true ↔ Fnd g r f0 (xa, xs) i 0) ∧ Below wj.heap.size wj wr) (fun _ tt _ _ => r + 1 - (intOf tt).toNat)
          case atStart => exact ⟨0, false, Nat.zero_le _, rfl, rfl, ⟨fun e => (by cases e), fun e => absurd e Fnd.zero⟩, Below.refl _ _⟩
          case round =>
            obtain ⟨i, bb, hi, rfl, rfl, hfb, hbr⟩ := hrel
            have HF : Hid _ := hidden hfb
            have HB2 : Hid _ := hidden hbr
            by_cases hil : (i : Int) + 1 ≤ (r : Int)
            · have HI1 : Hid (i + 1 ≤ r) := by
                have e : i + 1 ≤ r := by omega
                exact e
              clear hfb hbr hi
              go_wp2
              go_loopw [22, 24] (fun fv tt wr => ∃ (k : Nat) (bb : Bool), k ≤ fl g i ∧ fv = .bool bb ∧ tt = .int .i64 (k : Int) ∧ (bb = true ↔ Fnd g r f0 (xa, xs) i k) ∧ Below wj.heap.size wj wr) (fun _ tt _ => fl g i - (intOf tt).toNat)
              case atStart => exact ⟨0, bb, Nat.zero_le _, rfl, rfl, HF.out, HB2.out⟩
              case round =>
                clear HF HB2
                obtain ⟨k, bb, hk, rfl, rfl, hfb, hbr⟩ := hrel
                have zr := (HZ5.out.read HB.out).read (hbr.mono (Nat.le_refl _))
                obtain ⟨b', o, a4, c4, nk, rfl, hbl', q1, hi2, hkk, hfe, hgl, hnk⟩ := HI.out wr i zr.bel HI1.out
                obtain ⟨d0, d1, d2, gi, hgs⟩ := HD0.out wr zr.bel
                obtain ⟨ci, _, hkl⟩ := zr.cell (i + 1) HI1.out
                obtain ⟨fi, hfi⟩ : ∃ z, z = f0 (i + 1) := ⟨_, rfl⟩
                rw [← hfi] at ci
                have HFI : Hid (fi = f0 (i + 1)) := hfi
                have HF : Hid _ := hidden hfb
                have HB2 : Hid _ := hidden hbr
                have hi60 : i < 60 := by have := HI1.out; omega
                clear hfb hbr zr hfi
                cases fi with
                | false =>
                  have HU : Hid (bb = true ↔ Fnd g r f0 (xa, xs) (i + 1) 0) := HF.out.trans (Fnd.up (Or.inl HFI.out.symm)).symm
                  clear gi hkk hfe hnk hgl
                  go_wp2
                  go_roundw
                  case rel => exact ⟨i + 1, bb, HI1.out, rfl, by go_num, HU.out, HB2.out⟩
                  case measure => have := HI1.out; simp [intOf]; omega
                | true =>
                  by_cases hkf : k < fl g i
                  · obtain ⟨hk1, hk2⟩ := hkk k hkf
                    have HL1 : Hid (k + 1 ≤ fl g i) := hkf
                    have HLK : Hid (Fnd g r f0 (xa, xs) i (k + 1) ↔ Fnd g r f0 (xa, xs) i k ∨ targetR g i k r = (xa, xs)) := Fnd.look HFI.out.symm
                    cases bb with
                    | true =>
                      have HU : Hid (true = true ↔ Fnd g r f0 (xa, xs) i (k + 1)) := ⟨fun _ => HLK.out.2 (Or.inl (HF.out.1 rfl)), fun _ => rfl⟩
                      clear gi hkk hfe hnk hgl
                      go_upto_region 28 with fail
                      go_quiet (fail)
                      go_wp2
                      go_roundw
                      case rel => exact ⟨k + 1, true, HL1.out, rfl, by go_num, HU.out, HB2.out.trans (below_drewN0 _ _ |>.mono HB2.out.size)⟩
                      case measure => have := HL1.out; simp [intOf]; omega
                    | false =>
                      have hTg := fun p : BelW wr => target_any (gi.below p.h) i k r hgl (by omega) hi60 (by omega) (by omega) (by omega)
                      have D0 := fun p : BelW wr => p.cell d0
                      have D1 := fun p : BelW wr => p.cell d1
                      have D2 := fun p : BelW wr => p.cell d2
                      have C0 := fun p : BelW wr => p.cell (HC.out wr HB2.out).1
                      have C1 := fun p : BelW wr => p.cell (HC.out wr HB2.out).2.1
                      have hbl := (HC.out wr HB2.out).2.2.2
                      generalize targetR g i k r = tg at *
                      obtain ⟨ta, ts⟩ := tg
                      simp only at hTg
                      have HU : Hid ((ta == xa && (ts : Int) == (xs : Int)) = true ↔ Fnd g r f0 (xa, xs) i (k + 1)) := by
                        have e : ¬ Fnd g r f0 (xa, xs) i k := fun h => by have := HF.out.2 h; cases this
                        have e2 := HLK.out
                        have e3 : (ta == xa && (ts : Int) == (xs : Int)) = true ↔ Fnd g r f0 (xa, xs) i (k + 1) := by
                          rw [e2]
                          simp only [Bool.and_eq_true, beq_iff_eq, Prod.mk.injEq, e, false_or]
                          constructor
                          · rintro ⟨h1, h2⟩; exact ⟨h1, by omega⟩
                          · rintro ⟨h1, h2⟩; exact ⟨h1, by omega⟩
                        exact e3
                      have heq := eqID
                      have hgd := guardID
                      have hjN : (j : Int) < (N : Int) := by have := HJ.out; omega
                      have hwi : IntKind.i64.wrap (i : Int) = (i : Int) := by rw [IntKind.wrap_i64]; omega
                      have hmix : Tryd.prog.follows .mixedOrders = true := by kernel_rfl
                      clear gi hkk hfe hnk hgl
                      go_upto_region 28 with fail
                      refine wp_region_below hmix (by kernel_rfl) ?_
                      iterate 7 (quiet_step (done))
                      quiet_step ((go_at_call 18; exact calls_below_of (hTg _)))
                      iterate 8 (quiet_step (done))
                      refine wpQuiet_nil ?_
                      rintro _ ⟨⟨wq, hq⟩, rfl⟩
                      have HQ : Hid _ := hidden hq
                      clear hTg D0 D1 D2 C0 C1 hq
                      go_wp2
                      go_roundw
                      case rel => exact ⟨k + 1, _, HL1.out, rfl, by go_num, HU.out, HB2.out.trans (HQ.out.mono HB2.out.size)⟩
                      case measure => have := HL1.out; simp [intOf]; omega
                  · have hke : k = fl g i := by omega
                    have HU : Hid (bb = true ↔ Fnd g r f0 (xa, xs) (i + 1) 0) := HF.out.trans (Fnd.up (Or.inr hke)).symm
                    rcases hfe with hfe | hfe
                    · have hk1 : ¬ (k : Int) < (nk : Int) := by omega
                      clear gi hkk hnk hgl
                      go_wp2
                      go_roundw
                      case rel => exact ⟨i + 1, bb, HI1.out, rfl, by go_num, HU.out, HB2.out⟩
                      case measure => have := HI1.out; simp [intOf]; omega
                    · have hk1 : (k : Int) < (nk : Int) := by omega
                      have hk2 : ¬ (k : Int) < 7 := by omega
                      clear gi hkk hnk hgl
                      go_wp2
                      go_roundw
                      case rel => exact ⟨i + 1, bb, HI1.out, rfl, by go_num, HU.out, HB2.out⟩
                      case measure => have := HI1.out; simp [intOf]; omega
            · have hir : i = r := by omega
              subst hir
              obtain ⟨_, _, q2, hbl⟩ := HC.out wr hbr
              obtain ⟨q0, q1, _, _⟩ := HC.out wr hbr
              have HBW : Hid _ := hidden (HB.out.trans (hbr.mono HB.out.size))
              have HO2 : Hid _ := hidden (HO.out.below hbr)
              have hjN : (j : Int) < (N : Int) := by have := HJ.out; omega
              by_cases hbt : bb = true ∧ t < (rk : Int)
              · obtain ⟨rfl, hrk⟩ := hbt
                have HNX : Hid (tellL g i f0 t (L.take (j + 1)) = tellL g i f0 t (L.take j) ++ [(xa, xs)]) := by
                  exact HTK.out.1 ⟨hfb.1 rfl, hrk⟩
                have HVN : Hid (vn ≤ 1000000) := HLL.out
                clear hfb hbr HTK HF
                go_wp2_with (at_builtin; refine wpList_owI rfl (.tmp 150) (.tmp 156) rfl w5.heap.size _ (tellL g i f0 t (L.take j)) rfl (HO2.out.below (bel_alloc _ _)) _ [(xa, xs)] rfl (sr_id _ xa xs _) (by have h1 := tell_len g i f0 t (L.take j); have h2 : (L.take j).length ≤ L.length := (by rw [List.length_take]; omega); have h3 := HN.out; simp; omega) (by have := HBW.out.size; simp; omega) ?_; intro v5 w6 ho5 hk5 hm5; have HO5 : Hid _ := hidden ho5; have HB5 : Hid (Below w5.heap.size w5 w6) := HBW.out.trans (((bel_alloc wr _).mono HBW.out.size).trans (hk5.below (by have := HBW.out.size; simp; omega) (fun q hq e => by have := (HO2.out.ge q e).1; omega))); clear ho5 hk5 hm5)
                go_roundw
                case rel => exact ⟨j + 1, HJ.out, by go_num, by rw [HNX.out]; exact HO5.out, HB5.out⟩
                case measure => have := HJ.out; simp [intOf]; omega
              · have HNX : Hid (tellL g i f0 t (L.take (j + 1)) = tellL g i f0 t (L.take j)) := by
                  exact HTK.out.2 (fun h => hbt ⟨hfb.2 h.1, h.2⟩)
                clear hfb hbr HTK HF
                cases bb with
                | false =>
                  go_wp2
                  go_roundw
                  case rel => exact ⟨j + 1, HJ.out, by go_num, by rw [HNX.out]; exact HO2.out, HBW.out⟩
                  case measure => have := HJ.out; simp [intOf]; omega
                | true =>
                  have hrk : ¬ t < (rk : Int) := fun h => hbt ⟨rfl, h⟩
                  go_wp2
                  go_roundw
                  case rel => exact ⟨j + 1, HJ.out, by go_num, by rw [HNX.out]; exact HO2.out, HBW.out⟩
                  case measure => have := HJ.out; simp [intOf]; omega
        · have hjn : j = N := by omega
          subst hjn
          rw [List.take_of_length_le (by have := HN.out; omega)] at ho
          have HO : Hid _ := hidden ho
          have HB : Hid _ := hidden (HW.out _ (HZ5.out.read hb).bel)
          clear ho hb
          go_wp2
          go_ret
          exact ⟨_, rfl, _, HO.out.mono (by have := (HW.out _ HZ5.out.bel).size; omega), HT1.out, fun a b => HT2.out (a, b), HB.out⟩
end Go.Proofs.YtlabdbfmfejkaaaDoor

namespace Go.Proofs.YtlabdbfmfejkaaaDoor
open Go.RowKit
open Go.Sort hiding Below

theorem grow_more {w W : World} (n : Nat) (os : Array Obj) (h : ∃ q os', W = grow (w.drewN q) os') : ∃ q os', grow (W.drewN n) os = grow (w.drewN q) os' := by
  obtain ⟨q, os', e⟩ := h
  rw [e]
  exact ⟨q + n, os' ++ os, by rw [← grow_grow, ← World.drewN_drewN]; rfl⟩
theorem grow_more' {w W : World} (n : Nat) (h : ∃ q os', W = grow (w.drewN q) os') : ∃ q os', W.drewN n = grow (w.drewN q) os' := by
  have := grow_more n #[] h
  rw [grow_empty] at this
  exact this
set_option maxRecDepth 20000 in
set_option maxHeartbeats 2000000 in
theorem idsI_any (xs : List (Int × Nat)) (v1 v2 : Value) (B1 B2 : Nat) (w : World) (ha : OwI w B1 v1 xs) (hb : OwI w B2 v2 xs) :
    Calls Tryd.prog 27 #[v1, v2] w fun e w' => e = .returned (.bool true) ∧ ∃ q os', w' = grow (w.drewN q) os' := by
  have hg := guardID
  have he := eqID
  obtain ⟨a1, c1, rfl, hc1, hm1, ha⟩ := ha.at
  obtain ⟨a2, c2, rfl, hc2, hm2, hb⟩ := hb.at
  unfold maxLen at hm1 hm2
  have HA : Hid _ := hidden ha
  have HB : Hid _ := hidden hb
  clear ha hb
  go_enter Tryd.func27, Tryd.ntmps27
  go_wp2
  go_loopw [5] (fun i wr => ∃ k : Nat, k ≤ xs.length ∧ i = .int .i64 (k : Int) ∧ Below w.heap.size w wr ∧ ∃ q os', wr = grow (w.drewN q) os') (fun i _ => xs.length - (intOf i).toNat)
  case atStart => exact ⟨0, Nat.zero_le _, rfl, Below.refl _ _, 0, #[], by rw [grow_empty]; rfl⟩
  case round =>
    obtain ⟨k, hk, rfl, hbr, hgr⟩ := hrel
    have HGR : Hid _ := hidden hgr
    clear hgr
    have hzr := hbr.size
    by_cases hlt : k < xs.length
    · obtain ⟨g1, rfl, _, l1, p0, p1⟩ := HA.out k hlt
      obtain ⟨g2, rfl, _, l2, q0, q1⟩ := HB.out k hlt
      have p0 := (hbr.cell (p := ⟨g1, k * 2, none⟩) l1).trans p0
      have p1 := (hbr.cell (p := ⟨g1, k * 2 + 1, none⟩) l1).trans p1
      have q0 := (hbr.cell (p := ⟨g2, k * 2, none⟩) l2).trans q0
      have q1 := (hbr.cell (p := ⟨g2, k * 2 + 1, none⟩) l2).trans q1
      generalize xs[k] = x at *
      have hq1 : (x.1 == x.1) = true := beq_self_eq_true _
      have hq2 : ((x.2 : Int) == (x.2 : Int)) = true := beq_self_eq_true _
      go_wp2
      go_quiet (fail)
      go_wp2
      go_roundw
      case rel =>
        exact ⟨k + 1, by omega, by go_num, hbr.trans ((below_drewN0 _ _).mono hzr), grow_more' _ HGR.out⟩
      case measure => simp [intOf]; omega
    · go_wp2
      go_ret
      exact ⟨rfl, HGR.out⟩
theorem RL.at {w : World} {B : Nat} {v : Value} {ts : List ((Nat × List (Int × Nat)) × Value)} (h : RL w B v ts) : ∃ ao c, v = .slice ao ts.length c ∧ ts.length ≤ c ∧ c ≤ maxLen ∧ ∀ k (hk : k < ts.length), ∃ g, ao = some ⟨g, 0, none⟩ ∧ B ≤ g ∧ g < w.heap.size ∧ w.cell? ⟨g, k * 2, none⟩ = some (.int .u64 (ts[k].1.1 : Int)) ∧ w.cell? ⟨g, k * 2 + 1, none⟩ = some ts[k].2 := by
  obtain ⟨ao, c, rfl, h1, h2, h3⟩ := own_slice h.ow
  refine ⟨ao, c, rfl, h1, h2, fun k hk => ?_⟩
  obtain ⟨e0, e1⟩ := endV_at ts k hk
  rcases h.ow.2 with ⟨_, h0⟩ | ⟨g, cap, cur, hv, hbg, hg, hn, hm, hs, ht⟩
  · omega
  · simp only [Value.slice.injEq] at hv
    obtain ⟨rfl, _, rfl⟩ := hv
    have hgl := (Array.getElem?_eq_some_iff.1 hg).1
    have hcell : ∀ (j : Nat) (u : Value), (endV ts)[j]? = some u → w.cell? ⟨g, j, none⟩ = some u := fun j u hu => by
      rw [cell_of_row w g j _ _ _ hg]
      rw [← ht, List.getElem?_take] at hu
      split at hu
      · simpa using hu
      · cases hu
    exact ⟨g, rfl, hbg, hgl, hcell _ _ e0, hcell _ _ e1⟩
set_option maxRecDepth 20000 in
set_option maxHeartbeats 2000000 in
theorem rowsEq_any (ts us : List ((Nat × List (Int × Nat)) × Value)) (v1 v2 : Value) (B1 B2 : Nat) (w : World) (ha : RL w B1 v1 ts) (hb : RL w B2 v2 us) (he : ts.map (·.1) = us.map (·.1)) :
    Calls Tryd.prog 29 #[v1, v2] w fun e w' => e = .returned (.bool true) ∧ Below w.heap.size w w' := by
  have hlen : us.length = ts.length := by
    have := congrArg List.length he
    simpa using this.symm
  have HIq : Hid (∀ k (h1 : k < ts.length) (h2 : k < us.length), us[k].1 = ts[k].1) := fun k h1 h2 => by
    have e := congrArg (fun l => l[k]?) he
    simp only [List.getElem?_map, List.getElem?_eq_getElem h1, List.getElem?_eq_getElem h2, Option.map_some, Option.some.injEq] at e
    exact e.symm
  have HO1 : Hid (∀ W, Below w.heap.size w W → ∀ k (h1 : k < ts.length), OwI W B1 ts[k].2 ts[k].1.2) := fun W hB k h1 => (ha.sr _ (List.getElem_mem h1)).below hB
  have HO2 : Hid (∀ W, Below w.heap.size w W → ∀ k (h1 : k < us.length), OwI W B2 us[k].2 us[k].1.2) := fun W hB k h1 => (hb.sr _ (List.getElem_mem h1)).below hB
  obtain ⟨a1, c1, rfl, hc1, hm1, ha⟩ := ha.at
  obtain ⟨a2, c2, rfl, hc2, hm2, hb⟩ := hb.at
  unfold maxLen at hm1 hm2
  obtain ⟨n, hn⟩ : ∃ n, n = ts.length := ⟨_, rfl⟩
  have HA : Hid _ := hidden ha
  have HB : Hid _ := hidden hb
  have HN : Hid (n = ts.length ∧ us.length = ts.length) := ⟨hn, hlen⟩
  rw [hlen] at hc2 ⊢
  rw [← hn] at hc1 hc2 ⊢
  clear ha hb he hn hlen
  go_enter Tryd.func29, Tryd.ntmps29
  go_wp2
  go_loopw [5] (fun i wr => ∃ k : Nat, k ≤ n ∧ i = .int .i64 (k : Int) ∧ Below w.heap.size w wr) (fun i _ => n - (intOf i).toNat)
  case atStart => exact ⟨0, Nat.zero_le _, rfl, Below.refl _ _⟩
  case round =>
    obtain ⟨k, hk, rfl, hbr⟩ := hrel
    have hzr := hbr.size
    by_cases hlt : k < n
    · have h1 : k < ts.length := by have := HN.out; omega
      have h2 : k < us.length := by have := HN.out; omega
      obtain ⟨g1, rfl, _, l1, p0, p1⟩ := HA.out k h1
      obtain ⟨g2, rfl, _, l2, q0, q1⟩ := HB.out k h2
      have heq := HIq.out k h1 h2
      have o1 := HO1.out
      have o2 := HO2.out
      have p0 := (hbr.cell (p := ⟨g1, k * 2, none⟩) l1).trans p0
      have p1 := (hbr.cell (p := ⟨g1, k * 2 + 1, none⟩) l1).trans p1
      have q0 := (hbr.cell (p := ⟨g2, k * 2, none⟩) l2).trans q0
      have q1 := (hbr.cell (p := ⟨g2, k * 2 + 1, none⟩) l2).trans q1
      have hC : ∀ n os, Calls Tryd.prog 27 #[ts[k].2, us[k].2] (grow (wr.drewN n) os) fun e w' => e = .returned (.bool true) ∧ ∃ q os', w' = grow ((grow (wr.drewN n) os).drewN q) os' := fun n os => by
        have hB := hbr.trans ((below_grow wr n os).mono hzr)
        have a := o1 _ hB k h1
        have b := o2 _ hB k h2
        rw [heq] at b
        exact idsI_any _ _ _ _ _ _ a b
      rw [heq] at q0
      clear o1 o2 heq
      have P0 := cell_grown (w := wr) (a := ⟨g1, k * 2, none⟩) (cell_lt p0) p0
      have P1 := cell_grown (w := wr) (a := ⟨g1, k * 2 + 1, none⟩) (cell_lt p1) p1
      have Q0 := cell_grown (w := wr) (a := ⟨g2, k * 2, none⟩) (cell_lt q0) q0
      have Q1 := cell_grown (w := wr) (a := ⟨g2, k * 2 + 1, none⟩) (cell_lt q1) q1
      generalize ts[k].2 = x1 at *
      generalize us[k].2 = x2 at *
      generalize ts[k].1.1 = i1 at *
      have hq1 : ((i1 : Int) == (i1 : Int)) = true := beq_self_eq_true _
      go_upto_region 6 with fail
      have hmix : Tryd.prog.follows .mixedOrders = true := by kernel_rfl
      refine wp_region_quiet_grown (by assumption) (by kernel_rfl) ?_
      iterate 25 (quiet_step (first | (go_at_call 27; exact Calls.grown_of (hC _ _))))
      refine wpQuiet_nil ?_
      intro _ hw'
      obtain ⟨⟨nq, osq⟩, hw''⟩ := hw'
      subst hw''
      clear P0 P1 Q0 Q1 hC
      go_wp2
      go_roundw
      case rel => exact ⟨k + 1, by omega, by go_num, hbr.trans ((below_grow _ _ _).mono hzr)⟩
      case measure => simp [intOf]; omega
    · go_wp2
      go_ret
      exact ⟨rfl, hbr⟩
end Go.Proofs.YtlabdbfmfejkaaaDoor

namespace Go.Proofs.YtlabdbfmfejkaaaDoor
open Go.RowKit
open Go.Sort hiding Below

set_option maxRecDepth 100000 in
set_option maxHeartbeats 8000000 in
theorem rows_region (wr : World) (qb bx gq nl cl at_ s N ln sc B : Nat) (so : Option Addr) (t : Int) (v1 v2 v3 : Value) (ol : List (Int × Nat)) (hatn : (at_ : Int) < (nl : Int)) (hge : ¬ (nl : Int) ≤ (at_ : Int)) (hww : IntKind.u64.wrap ((s : Int) + 1) = (s : Int) + 1) (R0 : ∀ W, Below wr.heap.size wr W → W.cell? ⟨gq, at_ * 2, none⟩ = some (.int .u64 ((s : Int) + 1))) (R1 : ∀ W, Below wr.heap.size wr W → W.cell? ⟨gq, at_ * 2 + 1, none⟩ = some (.slice so ln sc)) (D0 : ∀ W, Below wr.heap.size wr W → W.cell? ⟨bx, 0, none⟩ = some (v1)) (D1 : ∀ W, Below wr.heap.size wr W → W.cell? ⟨bx, 1, none⟩ = some (v2)) (D2 : ∀ W, Below wr.heap.size wr W → W.cell? ⟨bx, 2, none⟩ = some (v3)) (HLd : Hid (∀ W, Below wr.heap.size wr W → Calls Tryd.prog 28 #[.agg #[v1, v2, v3], .pointer (some ⟨qb, 0, none⟩), .int .i64 (N : Int), .int .i64 ((s : Int) + 1), .int .i64 t] W fun e w' => ∃ lv, e = .returned lv ∧ OwI w' W.heap.size lv ol ∧ Below W.heap.size W w')) (HOW : Hid (∀ W, Below wr.heap.size wr W → OwI W B (.slice so ln sc) ol)) (Q : Exit → Act → World → Prop) (hQ : ∀ x (a : Act) (d : Nat) (u : Value) (w : World), Q (.panic x) (a.put (some d) u) w → Q (.panic x) a w) (x0 x1 x4 x5 x6 x7 x8 x9 x11 x12 x14 x18 x19 x20 x21 x22 x23 x24 x25 x26 x27 x28 x29 x30 x31 x32 x33 x34 x35 x36 x37 x38 x39 x40 x41 x42 x43 x44 x45 x46 x47 x48 x49 x50 x51 x52 x53 x54 x55 x56 x57 x58 x59 x60 x61 x62 x63 x64 x65 x66 x67 x68 x69 x70 x71 x72 x73 x74 x75 x76 x77 x78 x79 x80 x81 x82 x83 x84 x85 x86 x87 x88 x89 x90 x91 x92 x93 x94 x95 x96 x97 x98 x99 x100 x101 x102 x103 x104 x105 x106 x107 x108 x109 x110 x111 x112 x113 x114 x115 x116 x117 x118 x119 x120 x121 x122 x123 x124 x125 x126 x127 x128 x129 x130 x131 x132 x133 x134 x135 x136 x137 x138 x139 x140 x141 x142 x143 x144 : Value)
    (h : ∀ (z105 z106 z107 z108 z109 z110 z111 z112 z113 z114 z115 z116 z117 z118 z119 z120 z121 z122 z123 z124 z125 z126 z127 z128 z129 z130 z131 z132 : Value) (w' : World), Below wr.heap.size wr w' → Q .normal ({ tmps := #[x0, x1, .int .i64 t, .pointer (some ⟨bx, 0, none⟩), x4, x5, x6, x7, x8, x9, .pointer (some ⟨qb, 0, none⟩), x11, x12, .int .i64 (N : Int), x14, .slice (some ⟨gq, 0, none⟩) nl cl, .int .i64 (at_ : Int), .int .i64 ((s : Int) + 1), x18, x19, x20, x21, x22, x23, x24, x25, x26, x27, x28, x29, x30, x31, x32, x33, x34, x35, x36, x37, x38, x39, x40, x41, x42, x43, x44, x45, x46, x47, x48, x49, x50, x51, x52, x53, x54, x55, x56, x57, x58, x59, x60, x61, x62, x63, x64, x65, x66, x67, x68, x69, x70, x71, x72, x73, x74, x75, x76, x77, x78, x79, x80, x81, x82, x83, x84, x85, x86, x87, x88, x89, x90, x91, x92, x93, x94, x95, x96, x97, x98, x99, x100, x101, x102, x103, x104, z105, z106, z107, z108, z109, z110, z111, z112, z113, z114, z115, z116, z117, z118, z119, z120, z121, z122, z123, z124, z125, z126, z127, z128, z129, z130, z131, z132, .bool false, x134, x135, x136, x137, x138, x139, x140, x141, x142, x143, x144], defers := [] }) w') :
    Code.wp Tryd.prog (.region 23 #[{ dst := some 105, op := Op.move (Operand.tmp 16), type := 3, pos := "law.go:152", after := #[], guard := none }, { dst := some 106, op := Op.move (Operand.tmp 15), type := 63, pos := "law.go:152", after := #[], guard := none }, { dst := some 107, op := Op.call { callee := Callee.builtin Builtin.len, args := #[Operand.tmp 106], argTypes := #[63] }, type := 3, pos := "law.go:152", after := #[{ on := 1, ground := Ground.data }], guard := none }, { dst := some 108, op := Op.binOp BinOp.geq 3 (Operand.tmp 105) (Operand.tmp 107) 3, type := 4, pos := "law.go:152", after := #[{ on := 0, ground := Ground.data }, { on := 2, ground := Ground.data }], guard := none }, { dst := some 109, op := Op.move (Operand.tmp 108), type := 4, pos := "law.go:152", after := #[{ on := 3, ground := Ground.data }], guard := none }, { dst := some 110, op := Op.move (Operand.tmp 15), type := 63, pos := "law.go:152", after := #[{ on := 4, ground := Ground.guard }], guard := some (4, false) }, { dst := some 111, op := Op.move (Operand.tmp 16), type := 3, pos := "law.go:152", after := #[{ on := 4, ground := Ground.guard }], guard := some (4, false) }, { dst := some 112, op := Op.indexAddr 63 (Operand.tmp 110) (Operand.tmp 111), type := 0, pos := "law.go:152", after := #[{ on := 5, ground := Ground.data }, { on := 6, ground := Ground.data }, { on := 4, ground := Ground.guard }], guard := some (4, false) }, { dst := some 113, op := Op.fieldAddr 72 (Operand.tmp 112) 0, type := 0, pos := "law.go:152", after := #[{ on := 7, ground := Ground.data }, { on := 4, ground := Ground.guard }], guard := some (4, false) }, { dst := some 114, op := Op.load 32 (Operand.tmp 113), type := 32, pos := "law.go:152", after := #[{ on := 8, ground := Ground.data }, { on := 4, ground := Ground.guard }], guard := some (4, false) }, { dst := some 115, op := Op.move (Operand.tmp 17), type := 3, pos := "law.go:152", after := #[{ on := 4, ground := Ground.guard }], guard := some (4, false) }, { dst := some 116, op := Op.convert 3 32 (Operand.tmp 115), type := 32, pos := "law.go:152", after := #[{ on := 10, ground := Ground.data }, { on := 4, ground := Ground.guard }], guard := some (4, false) }, { dst := some 117, op := Op.binOp BinOp.neq 32 (Operand.tmp 114) (Operand.tmp 116) 32, type := 4, pos := "law.go:152", after := #[{ on := 9, ground := Ground.data }, { on := 11, ground := Ground.data }, { on := 4, ground := Ground.guard }], guard := some (4, false) }, { dst := some 118, op := Op.pick (Operand.tmp 109) (Operand.const (Value.bool true)) (Operand.tmp 117), type := 4, pos := "law.go:152", after := #[{ on := 4, ground := Ground.data }, { on := 12, ground := Ground.data }], guard := none }, { dst := some 119, op := Op.move (Operand.tmp 118), type := 4, pos := "law.go:152", after := #[{ on := 13, ground := Ground.data }, { on := 4, ground := Ground.chain }], guard := none }, { dst := some 120, op := Op.move (Operand.tmp 15), type := 63, pos := "law.go:152", after := #[{ on := 14, ground := Ground.guard }], guard := some (14, false) }, { dst := some 121, op := Op.move (Operand.tmp 16), type := 3, pos := "law.go:152", after := #[{ on := 14, ground := Ground.guard }], guard := some (14, false) }, { dst := some 122, op := Op.indexAddr 63 (Operand.tmp 120) (Operand.tmp 121), type := 0, pos := "law.go:152", after := #[{ on := 15, ground := Ground.data }, { on := 16, ground := Ground.data }, { on := 14, ground := Ground.guard }], guard := some (14, false) }, { dst := some 123, op := Op.fieldAddr 72 (Operand.tmp 122) 1, type := 0, pos := "law.go:152", after := #[{ on := 17, ground := Ground.data }, { on := 14, ground := Ground.guard }], guard := some (14, false) }, { dst := some 124, op := Op.load 45 (Operand.tmp 123), type := 45, pos := "law.go:152", after := #[{ on := 18, ground := Ground.data }, { on := 14, ground := Ground.guard }], guard := some (14, false) }, { dst := some 125, op := Op.load 26 (Operand.tmp 3), type := 26, pos := "law.go:152", after := #[{ on := 14, ground := Ground.guard }], guard := some (14, false) }, { dst := some 126, op := Op.move (Operand.tmp 10), type := 66, pos := "law.go:152", after := #[{ on := 14, ground := Ground.guard }], guard := some (14, false) }, { dst := some 127, op := Op.move (Operand.tmp 13), type := 3, pos := "law.go:152", after := #[{ on := 14, ground := Ground.guard }], guard := some (14, false) }, { dst := some 128, op := Op.move (Operand.tmp 17), type := 3, pos := "law.go:152", after := #[{ on := 14, ground := Ground.guard }], guard := some (14, false) }, { dst := some 129, op := Op.move (Operand.tmp 2), type := 3, pos := "law.go:152", after := #[{ on := 14, ground := Ground.guard }], guard := some (14, false) }, { dst := some 130, op := Op.call { callee := Callee.value (Operand.func 28), args := #[Operand.tmp 125, Operand.tmp 126, Operand.tmp 127, Operand.tmp 128, Operand.tmp 129], argTypes := #[26, 66, 3, 3, 3] }, type := 45, pos := "law.go:152", after := #[{ on := 20, ground := Ground.data }, { on := 21, ground := Ground.data }, { on := 22, ground := Ground.data }, { on := 23, ground := Ground.data }, { on := 24, ground := Ground.data }, { on := 14, ground := Ground.chain }, { on := 14, ground := Ground.guard }], guard := some (14, false) }, { dst := some 131, op := Op.call { callee := Callee.value (Operand.func 27), args := #[Operand.tmp 124, Operand.tmp 130], argTypes := #[45, 45] }, type := 4, pos := "law.go:152", after := #[{ on := 19, ground := Ground.data }, { on := 25, ground := Ground.data }, { on := 25, ground := Ground.chain }, { on := 14, ground := Ground.guard }], guard := some (14, false) }, { dst := some 132, op := Op.unOp UnOp.not 4 (Operand.tmp 131), type := 4, pos := "law.go:152", after := #[{ on := 26, ground := Ground.data }, { on := 14, ground := Ground.guard }], guard := some (14, false) }, { dst := some 133, op := Op.pick (Operand.tmp 119) (Operand.const (Value.bool true)) (Operand.tmp 132), type := 4, pos := "law.go:152", after := #[{ on := 14, ground := Ground.data }, { on := 27, ground := Ground.data }], guard := none }] true) Q ({ tmps := #[x0, x1, .int .i64 t, .pointer (some ⟨bx, 0, none⟩), x4, x5, x6, x7, x8, x9, .pointer (some ⟨qb, 0, none⟩), x11, x12, .int .i64 (N : Int), x14, .slice (some ⟨gq, 0, none⟩) nl cl, .int .i64 (at_ : Int), .int .i64 ((s : Int) + 1), x18, x19, x20, x21, x22, x23, x24, x25, x26, x27, x28, x29, x30, x31, x32, x33, x34, x35, x36, x37, x38, x39, x40, x41, x42, x43, x44, x45, x46, x47, x48, x49, x50, x51, x52, x53, x54, x55, x56, x57, x58, x59, x60, x61, x62, x63, x64, x65, x66, x67, x68, x69, x70, x71, x72, x73, x74, x75, x76, x77, x78, x79, x80, x81, x82, x83, x84, x85, x86, x87, x88, x89, x90, x91, x92, x93, x94, x95, x96, x97, x98, x99, x100, x101, x102, x103, x104, x105, x106, x107, x108, x109, x110, x111, x112, x113, x114, x115, x116, x117, x118, x119, x120, x121, x122, x123, x124, x125, x126, x127, x128, x129, x130, x131, x132, x133, x134, x135, x136, x137, x138, x139, x140, x141, x142, x143, x144], defers := [] }) wr := by
  have hge2 : decide ((nl : Int) ≤ (at_ : Int)) = false := decide_eq_false hge
  have q0 : Below wr.heap.size wr wr.drew := (Below.refl _ _).drew
  refine wp_region_held_drew (S := fun W => Below wr.heap.size wr W) (by kernel_rfl) q0 (fun hS => ?_)
  refine wpAnyH_take (i := 0) (oi := { dst := some 105, op := Op.move (Operand.tmp 16), type := 3, pos := "law.go:152", after := #[], guard := none }) (v := .int .i64 (at_ : Int)) rfl (by kernel_rfl) (by kernel_rfl) (by kernel_rfl) (fun x a w h => hQ x a _ _ w h) (Or.inl ⟨by rfl, fun W hW => by go_simp⟩) hS ?_
  simp only [Act.put, List.setIfInBounds_toArray, List.set_cons_zero, List.set_cons_succ]
  refine wpAnyH_take (i := 1) (oi := { dst := some 106, op := Op.move (Operand.tmp 15), type := 63, pos := "law.go:152", after := #[], guard := none }) (v := .slice (some ⟨gq, 0, none⟩) nl cl) rfl (by kernel_rfl) (by kernel_rfl) (by kernel_rfl) (fun x a w h => hQ x a _ _ w h) (Or.inl ⟨by rfl, fun W hW => by go_simp⟩) hS ?_
  simp only [Act.put, List.setIfInBounds_toArray, List.set_cons_zero, List.set_cons_succ]
  refine wpAnyH_take (i := 2) (oi := { dst := some 107, op := Op.call { callee := Callee.builtin Builtin.len, args := #[Operand.tmp 106], argTypes := #[63] }, type := 3, pos := "law.go:152", after := #[{ on := 1, ground := Ground.data }], guard := none }) (v := .int .i64 (nl : Int)) rfl (by kernel_rfl) (by kernel_rfl) (by kernel_rfl) (fun x a w h => hQ x a _ _ w h) (Or.inl ⟨by rfl, fun W hW => by go_simp⟩) hS ?_
  simp only [Act.put, List.setIfInBounds_toArray, List.set_cons_zero, List.set_cons_succ]
  refine wpAnyH_take (i := 3) (oi := { dst := some 108, op := Op.binOp BinOp.geq 3 (Operand.tmp 105) (Operand.tmp 107) 3, type := 4, pos := "law.go:152", after := #[{ on := 0, ground := Ground.data }, { on := 2, ground := Ground.data }], guard := none }) (v := .bool false) rfl (by kernel_rfl) (by kernel_rfl) (by kernel_rfl) (fun x a w h => hQ x a _ _ w h) (Or.inl ⟨by rfl, fun W hW => by go_simp⟩) hS ?_
  simp only [Act.put, List.setIfInBounds_toArray, List.set_cons_zero, List.set_cons_succ]
  refine wpAnyH_take (i := 4) (oi := { dst := some 109, op := Op.move (Operand.tmp 108), type := 4, pos := "law.go:152", after := #[{ on := 3, ground := Ground.data }], guard := none }) (v := .bool false) rfl (by kernel_rfl) (by kernel_rfl) (by kernel_rfl) (fun x a w h => hQ x a _ _ w h) (Or.inl ⟨by rfl, fun W hW => by go_simp⟩) hS ?_
  simp only [Act.put, List.setIfInBounds_toArray, List.set_cons_zero, List.set_cons_succ]
  refine wpAnyH_take (i := 5) (oi := { dst := some 110, op := Op.move (Operand.tmp 15), type := 63, pos := "law.go:152", after := #[{ on := 4, ground := Ground.guard }], guard := some (4, false) }) (v := .slice (some ⟨gq, 0, none⟩) nl cl) rfl (by kernel_rfl) (by kernel_rfl) (by kernel_rfl) (fun x a w h => hQ x a _ _ w h) (Or.inl ⟨by rfl, fun W hW => by go_simp⟩) hS ?_
  simp only [Act.put, List.setIfInBounds_toArray, List.set_cons_zero, List.set_cons_succ]
  refine wpAnyH_take (i := 6) (oi := { dst := some 111, op := Op.move (Operand.tmp 16), type := 3, pos := "law.go:152", after := #[{ on := 4, ground := Ground.guard }], guard := some (4, false) }) (v := .int .i64 (at_ : Int)) rfl (by kernel_rfl) (by kernel_rfl) (by kernel_rfl) (fun x a w h => hQ x a _ _ w h) (Or.inl ⟨by rfl, fun W hW => by go_simp⟩) hS ?_
  simp only [Act.put, List.setIfInBounds_toArray, List.set_cons_zero, List.set_cons_succ]
  refine wpAnyH_take (i := 7) (oi := { dst := some 112, op := Op.indexAddr 63 (Operand.tmp 110) (Operand.tmp 111), type := 0, pos := "law.go:152", after := #[{ on := 5, ground := Ground.data }, { on := 6, ground := Ground.data }, { on := 4, ground := Ground.guard }], guard := some (4, false) }) (v := .pointer (some ⟨gq, at_ * 2, none⟩)) rfl (by kernel_rfl) (by kernel_rfl) (by kernel_rfl) (fun x a w h => hQ x a _ _ w h) (Or.inl ⟨by rfl, fun W hW => by go_simp⟩) hS ?_
  simp only [Act.put, List.setIfInBounds_toArray, List.set_cons_zero, List.set_cons_succ]
  refine wpAnyH_take (i := 8) (oi := { dst := some 113, op := Op.fieldAddr 72 (Operand.tmp 112) 0, type := 0, pos := "law.go:152", after := #[{ on := 7, ground := Ground.data }, { on := 4, ground := Ground.guard }], guard := some (4, false) }) (v := .pointer (some ⟨gq, at_ * 2, none⟩)) rfl (by kernel_rfl) (by kernel_rfl) (by kernel_rfl) (fun x a w h => hQ x a _ _ w h) (Or.inl ⟨by rfl, fun W hW => by go_simp⟩) hS ?_
  simp only [Act.put, List.setIfInBounds_toArray, List.set_cons_zero, List.set_cons_succ]
  refine wpAnyH_take (i := 9) (oi := { dst := some 114, op := Op.load 32 (Operand.tmp 113), type := 32, pos := "law.go:152", after := #[{ on := 8, ground := Ground.data }, { on := 4, ground := Ground.guard }], guard := some (4, false) }) (v := .int .u64 ((s : Int) + 1)) rfl (by kernel_rfl) (by kernel_rfl) (by kernel_rfl) (fun x a w h => hQ x a _ _ w h) (Or.inl ⟨by rfl, fun W hW => by go_simp⟩) hS ?_
  simp only [Act.put, List.setIfInBounds_toArray, List.set_cons_zero, List.set_cons_succ]
  refine wpAnyH_take (i := 10) (oi := { dst := some 115, op := Op.move (Operand.tmp 17), type := 3, pos := "law.go:152", after := #[{ on := 4, ground := Ground.guard }], guard := some (4, false) }) (v := .int .i64 ((s : Int) + 1)) rfl (by kernel_rfl) (by kernel_rfl) (by kernel_rfl) (fun x a w h => hQ x a _ _ w h) (Or.inl ⟨by rfl, fun W hW => by go_simp⟩) hS ?_
  simp only [Act.put, List.setIfInBounds_toArray, List.set_cons_zero, List.set_cons_succ]
  refine wpAnyH_take (i := 11) (oi := { dst := some 116, op := Op.convert 3 32 (Operand.tmp 115), type := 32, pos := "law.go:152", after := #[{ on := 10, ground := Ground.data }, { on := 4, ground := Ground.guard }], guard := some (4, false) }) (v := .int .u64 ((s : Int) + 1)) rfl (by kernel_rfl) (by kernel_rfl) (by kernel_rfl) (fun x a w h => hQ x a _ _ w h) (Or.inl ⟨by rfl, fun W hW => by go_simp⟩) hS ?_
  simp only [Act.put, List.setIfInBounds_toArray, List.set_cons_zero, List.set_cons_succ]
  refine wpAnyH_take (i := 12) (oi := { dst := some 117, op := Op.binOp BinOp.neq 32 (Operand.tmp 114) (Operand.tmp 116) 32, type := 4, pos := "law.go:152", after := #[{ on := 9, ground := Ground.data }, { on := 11, ground := Ground.data }, { on := 4, ground := Ground.guard }], guard := some (4, false) }) (v := .bool false) rfl (by kernel_rfl) (by kernel_rfl) (by kernel_rfl) (fun x a w h => hQ x a _ _ w h) (Or.inl ⟨by rfl, fun W hW => by go_simp⟩) hS ?_
  simp only [Act.put, List.setIfInBounds_toArray, List.set_cons_zero, List.set_cons_succ]
  refine wpAnyH_take (i := 13) (oi := { dst := some 118, op := Op.pick (Operand.tmp 109) (Operand.const (Value.bool true)) (Operand.tmp 117), type := 4, pos := "law.go:152", after := #[{ on := 4, ground := Ground.data }, { on := 12, ground := Ground.data }], guard := none }) (v := .bool false) rfl (by kernel_rfl) (by kernel_rfl) (by kernel_rfl) (fun x a w h => hQ x a _ _ w h) (Or.inl ⟨by rfl, fun W hW => by go_simp⟩) hS ?_
  simp only [Act.put, List.setIfInBounds_toArray, List.set_cons_zero, List.set_cons_succ]
  refine wpAnyH_take (i := 14) (oi := { dst := some 119, op := Op.move (Operand.tmp 118), type := 4, pos := "law.go:152", after := #[{ on := 13, ground := Ground.data }, { on := 4, ground := Ground.chain }], guard := none }) (v := .bool false) rfl (by kernel_rfl) (by kernel_rfl) (by kernel_rfl) (fun x a w h => hQ x a _ _ w h) (Or.inl ⟨by rfl, fun W hW => by go_simp⟩) hS ?_
  simp only [Act.put, List.setIfInBounds_toArray, List.set_cons_zero, List.set_cons_succ]
  refine wpAnyH_take (i := 15) (oi := { dst := some 120, op := Op.move (Operand.tmp 15), type := 63, pos := "law.go:152", after := #[{ on := 14, ground := Ground.guard }], guard := some (14, false) }) (v := .slice (some ⟨gq, 0, none⟩) nl cl) rfl (by kernel_rfl) (by kernel_rfl) (by kernel_rfl) (fun x a w h => hQ x a _ _ w h) (Or.inl ⟨by rfl, fun W hW => by go_simp⟩) hS ?_
  simp only [Act.put, List.setIfInBounds_toArray, List.set_cons_zero, List.set_cons_succ]
  refine wpAnyH_take (i := 16) (oi := { dst := some 121, op := Op.move (Operand.tmp 16), type := 3, pos := "law.go:152", after := #[{ on := 14, ground := Ground.guard }], guard := some (14, false) }) (v := .int .i64 (at_ : Int)) rfl (by kernel_rfl) (by kernel_rfl) (by kernel_rfl) (fun x a w h => hQ x a _ _ w h) (Or.inl ⟨by rfl, fun W hW => by go_simp⟩) hS ?_
  simp only [Act.put, List.setIfInBounds_toArray, List.set_cons_zero, List.set_cons_succ]
  refine wpAnyH_take (i := 17) (oi := { dst := some 122, op := Op.indexAddr 63 (Operand.tmp 120) (Operand.tmp 121), type := 0, pos := "law.go:152", after := #[{ on := 15, ground := Ground.data }, { on := 16, ground := Ground.data }, { on := 14, ground := Ground.guard }], guard := some (14, false) }) (v := .pointer (some ⟨gq, at_ * 2, none⟩)) rfl (by kernel_rfl) (by kernel_rfl) (by kernel_rfl) (fun x a w h => hQ x a _ _ w h) (Or.inl ⟨by rfl, fun W hW => by go_simp⟩) hS ?_
  simp only [Act.put, List.setIfInBounds_toArray, List.set_cons_zero, List.set_cons_succ]
  refine wpAnyH_take (i := 18) (oi := { dst := some 123, op := Op.fieldAddr 72 (Operand.tmp 122) 1, type := 0, pos := "law.go:152", after := #[{ on := 17, ground := Ground.data }, { on := 14, ground := Ground.guard }], guard := some (14, false) }) (v := .pointer (some ⟨gq, at_ * 2 + 1, none⟩)) rfl (by kernel_rfl) (by kernel_rfl) (by kernel_rfl) (fun x a w h => hQ x a _ _ w h) (Or.inl ⟨by rfl, fun W hW => by go_simp⟩) hS ?_
  simp only [Act.put, List.setIfInBounds_toArray, List.set_cons_zero, List.set_cons_succ]
  refine wpAnyH_take (i := 19) (oi := { dst := some 124, op := Op.load 45 (Operand.tmp 123), type := 45, pos := "law.go:152", after := #[{ on := 18, ground := Ground.data }, { on := 14, ground := Ground.guard }], guard := some (14, false) }) (v := .slice so ln sc) rfl (by kernel_rfl) (by kernel_rfl) (by kernel_rfl) (fun x a w h => hQ x a _ _ w h) (Or.inl ⟨by rfl, fun W hW => by go_simp⟩) hS ?_
  simp only [Act.put, List.setIfInBounds_toArray, List.set_cons_zero, List.set_cons_succ]
  refine wpAnyH_take (i := 20) (oi := { dst := some 125, op := Op.load 26 (Operand.tmp 3), type := 26, pos := "law.go:152", after := #[{ on := 14, ground := Ground.guard }], guard := some (14, false) }) (v := .agg #[v1, v2, v3]) rfl (by kernel_rfl) (by kernel_rfl) (by kernel_rfl) (fun x a w h => hQ x a _ _ w h) (Or.inl ⟨by rfl, fun W hW => by go_simp⟩) hS ?_
  simp only [Act.put, List.setIfInBounds_toArray, List.set_cons_zero, List.set_cons_succ]
  refine wpAnyH_take (i := 21) (oi := { dst := some 126, op := Op.move (Operand.tmp 10), type := 66, pos := "law.go:152", after := #[{ on := 14, ground := Ground.guard }], guard := some (14, false) }) (v := .pointer (some ⟨qb, 0, none⟩)) rfl (by kernel_rfl) (by kernel_rfl) (by kernel_rfl) (fun x a w h => hQ x a _ _ w h) (Or.inl ⟨by rfl, fun W hW => by go_simp⟩) hS ?_
  simp only [Act.put, List.setIfInBounds_toArray, List.set_cons_zero, List.set_cons_succ]
  refine wpAnyH_take (i := 22) (oi := { dst := some 127, op := Op.move (Operand.tmp 13), type := 3, pos := "law.go:152", after := #[{ on := 14, ground := Ground.guard }], guard := some (14, false) }) (v := .int .i64 (N : Int)) rfl (by kernel_rfl) (by kernel_rfl) (by kernel_rfl) (fun x a w h => hQ x a _ _ w h) (Or.inl ⟨by rfl, fun W hW => by go_simp⟩) hS ?_
  simp only [Act.put, List.setIfInBounds_toArray, List.set_cons_zero, List.set_cons_succ]
  refine wpAnyH_take (i := 23) (oi := { dst := some 128, op := Op.move (Operand.tmp 17), type := 3, pos := "law.go:152", after := #[{ on := 14, ground := Ground.guard }], guard := some (14, false) }) (v := .int .i64 ((s : Int) + 1)) rfl (by kernel_rfl) (by kernel_rfl) (by kernel_rfl) (fun x a w h => hQ x a _ _ w h) (Or.inl ⟨by rfl, fun W hW => by go_simp⟩) hS ?_
  simp only [Act.put, List.setIfInBounds_toArray, List.set_cons_zero, List.set_cons_succ]
  refine wpAnyH_take (i := 24) (oi := { dst := some 129, op := Op.move (Operand.tmp 2), type := 3, pos := "law.go:152", after := #[{ on := 14, ground := Ground.guard }], guard := some (14, false) }) (v := .int .i64 t) rfl (by kernel_rfl) (by kernel_rfl) (by kernel_rfl) (fun x a w h => hQ x a _ _ w h) (Or.inl ⟨by rfl, fun W hW => by go_simp⟩) hS ?_
  simp only [Act.put, List.setIfInBounds_toArray, List.set_cons_zero, List.set_cons_succ]
  refine wpAnyH_ready (rs := [25]) (by kernel_rfl) (by simp) ?_
  refine AllReadyH.cons rfl (fun K hK => ?_) AllReadyH.nil
  go_simp
  go_wp2_with (go_at_call 28; refine (HLd.out _ q0).mono ?_; rintro e wa ⟨lv, rfl, hlo, hba⟩; have qa : Below wr.heap.size wr wa := q0.trans (hba.mono q0.size))
  refine hK.out _ _ qa (fun hS => ?_)
  clear hK K
  refine wpAnyH_ready (rs := [26]) (by kernel_rfl) (by simp) ?_
  refine AllReadyH.cons rfl (fun K hK => ?_) AllReadyH.nil
  go_simp
  go_wp2_with (go_at_call 27; refine (idsI_any ol _ _ _ _ _ (HOW.out _ qa) hlo).mono ?_; rintro e wb ⟨rfl, nq, osq, hwb⟩; have qb' : Below wr.heap.size wr wb := (by rw [hwb]; exact qa.trans ((below_grow _ _ _).mono qa.size)); clear hwb)
  refine hK.out _ _ qb' (fun hS => ?_)
  clear hK K
  refine wpAnyH_take (i := 27) (oi := { dst := some 132, op := Op.unOp UnOp.not 4 (Operand.tmp 131), type := 4, pos := "law.go:152", after := #[{ on := 26, ground := Ground.data }, { on := 14, ground := Ground.guard }], guard := some (14, false) }) (v := .bool false) rfl (by kernel_rfl) (by kernel_rfl) (by kernel_rfl) (fun x a w h => hQ x a _ _ w h) (Or.inl ⟨by rfl, fun W hW => by go_simp⟩) hS ?_
  simp only [Act.put, List.setIfInBounds_toArray, List.set_cons_zero, List.set_cons_succ]
  refine wpAnyH_take (i := 28) (oi := { dst := some 133, op := Op.pick (Operand.tmp 119) (Operand.const (Value.bool true)) (Operand.tmp 132), type := 4, pos := "law.go:152", after := #[{ on := 14, ground := Ground.data }, { on := 27, ground := Ground.data }], guard := none }) (v := .bool false) rfl (by kernel_rfl) (by kernel_rfl) (by kernel_rfl) (fun x a w h => hQ x a _ _ w h) (Or.inl ⟨by rfl, fun W hW => by go_simp⟩) hS ?_
  simp only [Act.put, List.setIfInBounds_toArray, List.set_cons_zero, List.set_cons_succ]
  refine wpAnyH_done (by kernel_rfl) ?_ _
  exact h _ _ _ _ _ _ _ _ _ _ _ _ _ _ _ _ _ _ _ _ _ _ _ _ _ _ _ _ _ qb'

end Go.Proofs.YtlabdbfmfejkaaaDoor
