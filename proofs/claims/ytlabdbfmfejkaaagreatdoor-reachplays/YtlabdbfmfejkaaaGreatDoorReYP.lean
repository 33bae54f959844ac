import Derived.Test.YtlabdbfmfejkaaaGreatDoorRePP
import Derived.Test.YtlabdbfmfejkaaaGreatDoorMkSP
import Derived.Deep.CutRange
import Derived.Deep.CutBlock
import Derived.BigQuiet
import Derived.Test.YtlabdbfmfejkaaaGreatDoorReMP
/- Both paints, painted alike; a reacher beside both. -/
/- A reacher beside both heaps and paints; ReachEnds. -/
namespace Go.Proofs.YtlabdbfmfejkaaaGreatDoor
open Go.ChangeShapes Go.WideShapes Go.ChangeAt Go.RowKit Go.Deep

/-- How an object was marked. -/
structure Way where
  ser : Nat
  rank : Int
  xn : Int
  xs : Nat
  scan : Bool
def cWay (s : Way) : List Value := [.int .u64 (s.ser : Int), .int .i64 s.rank, .int .i64 s.xn, .int .u64 (s.xs : Int), .bool s.scan]
def Way.Ok (s : Way) : Prop := s.ser < 18446744073709551616 ∧ s.xs < 18446744073709551616
theorem list5w {α : Type} {l : List α} (h : l.length = 5) : ∃ a b c d e, l = [a, b, c, d, e] := by
  match l, h with
  | [a, b, c, d, e], _ => exact ⟨a, b, c, d, e, rfl⟩
theorem ews_way {H : Type} {enc : TypeId × Value → H} {W : World} : ∀ n cs (y : DataW H × List MemPlace), DataW.trod enc Tryz.prog W 0 (fun _ => true) true n 57 cs = some y → ∃ x : Way, cs = cWay x ∧ x.Ok := by
  intro n cs y h
  obtain ⟨hlen, k, hf⟩ := trod_fields 5 Tryz.underlying57 (by kernel_rfl) h
  obtain ⟨v0, v1, v2, v3, v4, rfl⟩ := list5w hlen
  obtain ⟨y0, g0⟩ := hf 0 44 0 1 rfl (by kernel_rfl)
  obtain ⟨y1, g1⟩ := hf 1 3 1 1 rfl (by kernel_rfl)
  obtain ⟨y3, g3⟩ := hf 2 55 2 2 rfl (by kernel_rfl)
  obtain ⟨y5, g5⟩ := hf 3 4 4 1 rfl (by kernel_rfl)
  obtain ⟨_, k3, hf3⟩ := trod_fields 2 Tryz.underlying55 (by kernel_rfl) g3
  obtain ⟨y30, g30⟩ := hf3 0 3 0 1 rfl (by kernel_rfl)
  obtain ⟨y31, g31⟩ := hf3 1 44 1 1 rfl (by kernel_rfl)
  obtain ⟨z0, e0, b0⟩ := trod_u64 g0
  obtain ⟨z1, e1, _, _⟩ := DataW.trod_int Tryz.underlying3 g1
  obtain ⟨z3, e3, _, _⟩ := DataW.trod_int Tryz.underlying3 g30
  obtain ⟨z4, e4, b4⟩ := trod_u64 g31
  obtain ⟨z5, e5, _⟩ := DataW.trod_bool Tryz.underlying4 g5
  simp only [List.drop_succ_cons, List.drop_zero, List.take_succ_cons, List.take_zero, List.cons.injEq, and_true] at e0 e1 e3 e4 e5
  subst e0 e1 e3 e4 e5
  exact ⟨⟨z0, z1, z3, z4, z5⟩, rfl, b0, b4⟩
theorem WS.way {w : World} {ao : Option Addr} {n cap : Nat} {xs : List Way} (h : WS w (.slice ao n cap) 5 cWay xs) (i : Nat) (hi : i < xs.length) : ∃ b off, ao = some ⟨b, off, none⟩ ∧ b < w.heap.size ∧
    w.cell? ⟨b, off + i * 5, none⟩ = some (.int .u64 (xs[i].ser : Int)) ∧ w.cell? ⟨b, off + i * 5 + 1, none⟩ = some (.int .i64 xs[i].rank) ∧ w.cell? ⟨b, off + i * 5 + 2, none⟩ = some (.int .i64 xs[i].xn) ∧ w.cell? ⟨b, off + i * 5 + 3, none⟩ = some (.int .u64 (xs[i].xs : Int)) ∧ w.cell? ⟨b, off + i * 5 + 4, none⟩ = some (.bool xs[i].scan) := by
  obtain ⟨b, off, h1, h2, h3⟩ := h.at i hi
  exact ⟨b, off, h1, h2, h3 0 _ rfl, h3 1 _ rfl, h3 2 _ rfl, h3 3 _ rfl, h3 4 _ rfl⟩

set_option maxRecDepth 20000 in
set_option maxHeartbeats 4000000 in
theorem painted_any {w0 w : World} {hb rb : Nat} {h : HSt} {vl : Value} {xs : List Way} (y : H2 w0 w0.heap.size w hb rb h h (fun _ => False)) (hl : WS w0 vl 5 cWay xs) (hR : ∀ y ∈ xs, y.Ok) (hla : h.last ≤ 30 ∨ h.last ≤ 60) :
    Calls Tryz.prog 6 #[.pointer (some ⟨hb, 0, none⟩), .pointer (some ⟨rb, 0, none⟩), vl] w fun e w' => ∃ pb qb p, e = .returned (.tuple #[.pointer (some ⟨pb, 0, none⟩), .pointer (some ⟨qb, 0, none⟩)]) ∧ P4 w0 w0.heap.size w' hb rb pb qb h h p p (fun _ => False) ∧ PI p 10000 := by
  obtain ⟨ao, cap, rfl, _, _⟩ := hl.slice
  have HWS : Hid _ := hidden hl
  have HOKS : Hid _ := hidden hR
  have hNw := pnew_ok hb w0.heap.size 4 (by omega) (by omega) w y.le
  have hNq := fun W (hB : w0.heap.size ≤ W.heap.size) => rnewp_any 4 (by omega) (by omega) rb w0.heap.size W hB
  have HY : Hid _ := hidden y
  have HLA : Hid (h.last ≤ 60) := by
    have e : h.last ≤ 60 := by omega
    exact e
  have hLE := y.le
  clear y hl hR hla
  go_enter Tryz.func6, Tryz.ntmps6
  go_wp2_with fail
  refine hNw.mono ?_
  rintro e w3 ⟨pb, G, rfl, pn, hG, b3⟩
  clear hNw
  go_wp2_with fail
  refine (hNq _ (Nat.le_trans hLE b3.size)).mono ?_
  rintro e w4 ⟨rfl, q4, b4⟩
  have HZ : Hid _ := hidden (HY.out.p4 pn hG b3 q4 b4)
  have HK0 : Hid (PI (PSt.new 4) 0) := ⟨List.nodup_nil, (fun e he => (by cases he)), Nat.zero_le _, Nat.zero_le _⟩
  clear hNq pn hG b3 q4 b4 HY
  generalize w3.heap.size = qb at *
  go_wp2
  go_loopw [11, 12] (fun t _ wr => ∃ (i : Nat) (p : PSt), i ≤ 100 ∧ t = .int .i64 (i : Int) ∧ PI p (i * 20) ∧ P4 w0 w0.heap.size wr hb rb pb qb h h p p (fun _ => False)) (fun t _ _ => 100 - (intOf t).toNat)
  case atStart => exact ⟨0, _, by omega, rfl, HK0.out, HZ.out⟩
  case round =>
    clear HZ HK0
    obtain ⟨i, p, hi, rfl, K, z⟩ := hrel
    by_cases hlt : i < xs.length ∧ i < 100
    · obtain ⟨hl1, hl2⟩ := hlt
      have HQ0 : Hid (∀ W, Below w0.heap.size w0 W → ∃ b off, ao = some ⟨b, off, none⟩ ∧ b < W.heap.size ∧ W.cell? ⟨b, off + i * 5, none⟩ = some (.int .u64 (xs[i].ser : Int)) ∧ W.cell? ⟨b, off + i * 5 + 1, none⟩ = some (.int .i64 xs[i].rank) ∧ W.cell? ⟨b, off + i * 5 + 2, none⟩ = some (.int .i64 xs[i].xn) ∧ W.cell? ⟨b, off + i * 5 + 3, none⟩ = some (.int .u64 (xs[i].xs : Int)) ∧ W.cell? ⟨b, off + i * 5 + 4, none⟩ = some (.bool xs[i].scan)) := fun W hB => (HWS.out.below hB).way i hl1
      have hokx := HOKS.out _ (List.getElem_mem hl1)
      have hlti : (i : Int) < (xs.length : Int) := by omega
      have hlt100 : (i : Int) < 100 := by omega
      generalize xs[i] = st at *
      obtain ⟨ser, rank, xn, xs', scan⟩ := st
      simp only at HQ0
      obtain ⟨b, off, rfl, hbw, q0, q1, q2, q3, q4⟩ := HQ0.out _ z.bel
      have HQ : Hid (∀ W, Below w0.heap.size w0 W → b < W.heap.size ∧ W.cell? ⟨b, off + i * 5 + 1, none⟩ = some (.int .i64 rank) ∧ W.cell? ⟨b, off + i * 5 + 2, none⟩ = some (.int .i64 xn) ∧ W.cell? ⟨b, off + i * 5 + 3, none⟩ = some (.int .u64 (xs' : Int)) ∧ W.cell? ⟨b, off + i * 5 + 4, none⟩ = some (.bool scan)) := fun W hB => by
        obtain ⟨b', off', e, h1, _, h3, h4, h5, h6⟩ := HQ0.out W hB
        cases e
        exact ⟨h1, h3, h4, h5, h6⟩
      have hser := hokx.1
      simp only at hser
      have HL : Hid (i + 1 ≤ 100) := hl2
      have hc := z.last
      have hrl := cell_lt hc
      obtain ⟨N, hN⟩ : ∃ N, N = h.last := ⟨_, rfl⟩
      rw [← hN] at hc
      have hN60 : N ≤ 60 := by have := HLA.out; omega
      obtain ⟨q, hq⟩ : ∃ q, q = ser % (N + 1) := ⟨_, rfl⟩
      obtain ⟨D, hDN⟩ : ∃ D, D = N + 1 := ⟨_, rfl⟩
      have hadd : (N : Int) + 1 = (D : Int) := by omega
      have hrem : (ser : Int).tmod (D : Int) = (q : Int) := by rw [hq, hDN]; rfl
      have hrem2 : (ser : Int) % (D : Int) = (q : Int) := by rw [hq, hDN]; rfl
      have hq64 : q < 18446744073709551616 := by have := Nat.mod_le ser (N + 1); omega
      have hne : ((D : Int) == 0) = false := by rw [beq_eq_false_iff_ne]; omega
      have hne2 : ¬ (D : Int) = 0 := by omega
      have hwA : IntKind.u64.wrap ((N : Int) + 1) = (D : Int) := by rw [IntKind.wrap_u64]; omega
      have hwB : ((N : Int) + 1) % 18446744073709551616 = (D : Int) := by omega
      have HQ64 : Hid (q < 18446744073709551616) := hidden hq64
      have HK : Hid _ := hidden K
      have HZ1 : Hid _ := hidden z
      have HKB : Hid (i * 20 + 20 < 1000000) := by
        have e : i * 20 + 20 < 1000000 := by omega
        exact e
      clear hq64 hser hokx hl1 hl2 K z hq hDN hadd hi hN hN60
      go_upto_region 8 with fail
      go_cut [12] from 34 to 46 (fun t wc => t = .int .u64 (q : Int) ∧ Below wr.heap.size wr wc)
      case first =>
        clear HQ0 HQ HL HQ64 HK HZ1 HKB
        have P0 : ∀ k, (wr.drewN k).cell? ⟨b, off + i * 5, none⟩ = some (.int .u64 (ser : Int)) := fun _ => q0
        have P1 : ∀ k, (wr.drewN k).cell? ⟨rb, 2, none⟩ = some (.int .u64 (N : Int)) := fun _ => hc
        go_quiet (fail)
        go_wp2
        go_meet
        exact ⟨rfl, below_drewN0 _ _⟩
      case rest =>
        obtain ⟨rfl, bc⟩ := hcut
        have z1 := HZ1.out.read bc
        clear q0 q1 q2 q3 q4 hbw hc hrl bc HZ1 HQ0 hrem hrem2 hwA hwB hne hne2
        obtain ⟨hbw, q1, q2, q3, q4⟩ := HQ.out _ z1.bel
        have hS1 := z1.shade 1 q rank
        clear z1
        go_wp2_with fail
        refine hS1.mono ?_
        rintro e w5 ⟨rfl, z5, k5⟩
        have HZ5 : Hid _ := hidden z5
        clear hS1 q1 q2 q3 q4 hbw k5
        obtain ⟨hbw, q1, q2, q3, q4⟩ := HQ.out _ z5.bel
        have hS2 := z5.rshade HK.out (by have := HKB.out; omega) 1 q rank
        have hK6 := HK.out.shade h (1, q) rank
        generalize p.shade h (1, q) rank = p6 at *
        clear z5 HZ5 HK
        go_wp2_with fail
        refine hS2.mono ?_
        rintro e w6 ⟨rfl, z6, k6⟩
        clear hS2 q1 q2 q3 q4 hbw k6
        obtain ⟨hbw, q1, q2, q3, q4⟩ := HQ.out _ z6.bel
        have hS3 := fun W (hB : Below w6.heap.size w6 W) => (z6.read hB).shade xn xs' rank
        have HK6 : Hid _ := hidden hK6
        have bd6 := below_drew0 w6
        have HZ6 : Hid _ := hidden z6
        clear z6 hK6
        go_upto_region 11 with fail
        go_cut [] from 65 to 76 (fun wc => P4 w0 w0.heap.size wc hb rb pb qb h h (p6.shade h (xn, xs') rank) p6 (fun _ => False))
        case first =>
          go_region_with (go_at_call 27; refine (hS3 _ bd6).mono ?_; rintro e w7 ⟨rfl, z7, k7⟩; clear k7)
          all_goals
            go_wp2
            go_meet
            exact z7
        case rest =>
          have z7 := hcut
          clear hS3 q1 q2 q3 q4 hbw bd6 HZ6 hcut
          obtain ⟨hbw, q1, q2, q3, q4⟩ := HQ.out _ z7.bel
          have bd7 := below_drew0 wc
          have hS4 := (z7.read bd7).rshade HK6.out (by have := HKB.out; omega) xn xs' rank
          have hK8 := HK6.out.shade h (xn, xs') rank
          generalize p6.shade h (xn, xs') rank = p8 at *
          have HK8 : Hid _ := hidden hK8
          clear z7 hK8 HK6 bd7
          go_upto_region 12 with fail
          go_cut [] from 77 to 88 (fun wc => P4 w0 w0.heap.size wc hb rb pb qb h h p8 p8 (fun _ => False))
          case first =>
            go_region_with (go_at_call 30; refine hS4.mono ?_; rintro e w8 ⟨rfl, z8, k8⟩; clear k8)
            all_goals
              go_wp2
              go_meet
              exact z8
          case rest =>
            have z8 := hcut
            clear hS4 q1 q2 q3 q4 hbw hcut
            obtain ⟨hbw, q1, q2, q3, q4⟩ := HQ.out _ z8.bel
            cases scan with
            | false =>
              have HE : Hid _ := hidden z8
              clear z8 q1 q2 q3
              go_wp2
              go_roundw
              case rel => exact ⟨i + 1, p8, HL.out, by go_num, HK8.out.mono (by omega), HE.out⟩
              case measure => have := HL.out; simp [intOf]; omega
            | true =>
              have hSc := z8.scan q HQ64.out
              have HOK8 : Hid h.Ok := z8.okh
              clear z8 q1 q2 q3
              go_wp2_with fail
              refine hSc.mono ?_
              rintro e w9 ⟨rfl, z9, k9⟩
              have hSr := z9.rscan HK8.out (by have := HKB.out; omega) q
              have hKA := HK8.out.scan HOK8.out q
              generalize p8.scan h q = p9 at *
              generalize scanR h p8 q = sb at *
              have HKA : Hid _ := hidden hKA
              clear hSc z9 k9 q4 hbw hKA
              go_wp2_with fail
              refine hSr.mono ?_
              rintro e wa ⟨rfl, za, ka⟩
              have HE : Hid _ := hidden za
              clear hSr za ka
              go_wp2
              go_roundw
              case rel => exact ⟨i + 1, p9, HL.out, by go_num, HKA.out.mono (by omega), HE.out⟩
              case measure => have := HL.out; simp [intOf]; omega
    · have hex : (¬ (i : Int) < (xs.length : Int)) ∨ ((i : Int) < (xs.length : Int) ∧ ¬ (i : Int) < 100) := by omega
      have HE : Hid _ := hidden z
      have HKE : Hid (PI p 10000) := K.mono (by omega)
      clear z K hlt
      rcases hex with hx | ⟨hx1, hx2⟩
      all_goals
        go_wp2
        go_ret2
        exact ⟨pb, qb, rfl, p, HE.out, HKE.out⟩
end Go.Proofs.YtlabdbfmfejkaaaGreatDoor

namespace Go.Proofs.YtlabdbfmfejkaaaGreatDoor
open Go.RowKit

section
variable {w0 w w' : World} {B hb rb pb qb : Nat} {h1 h2 h' : HSt} {p1 p2 p' : PSt} {X : Nat → Prop}
theorem P4.ph (x : P4 w0 B w hb rb pb qb h1 h2 p1 p2 X) : PH w0 B w pb hb h1 p1 X := by
  obtain ⟨F, G, P, Q, hp, rp, pn, qn, ap⟩ := x.ex
  exact ⟨⟨F, P, hp, pn, fun k hk => ⟨(ap.aF k hk).1, (ap.aF k hk).2.2, ap.fp k hk⟩, fun k hk => (ap.aP k hk).2.2⟩, x.bel, x.le, x.xs, x.pos⟩
theorem P4.fresh (x : P4 w0 B w hb rb pb qb h1 h2 p1 p2 X) {S : Nat → Prop} (hk : Kept w w' S) (hS : ∀ k, S k → k < w.heap.size → X k ∧ B ≤ k) : P4 w0 B w' hb rb pb qb h1 h2 p1 p2 (fun k => X k ∨ (w.heap.size ≤ k ∧ k < w'.heap.size)) := by
  have hk' : Kept w w' (fun k => X k ∧ B ≤ k) := hk.mono (fun k hl e => hS k e hl)
  have hs := hk.size
  obtain ⟨F, G, P, Q, hp, rp, pn, qn, ap⟩ := x.ex
  have hpos := x.pos
  have y := x.other hk' (fun k e => e)
  refine ⟨⟨F, G, P, Q, hp.kept hk' (fun e => by have := e.2; omega) (fun k a b => (ap.aF k a).2.2 b.1), rp.kept hk' (fun k a b => (ap.aG k a).2.2 b.1), pn.kept hk' (fun k a b => (ap.aP k a).2.2 b.1), qn.kept hk' (fun k a b => (ap.aQ k a).2.2 b.1), (ap.turn (Y := fun k => X k ∨ (w.heap.size ≤ k ∧ k < w'.heap.size)) (fun k _ hl e => ?_)).grow hs⟩, y.bel, y.le, fun k e => ?_, x.pos⟩
  · rcases e with e | e
    · exact e
    · omega
  · rcases e with e | e
    · exact y.xs k e
    · exact e.2
theorem hos_p4 (w0 : World) (B hb rb pb qb : Nat) (h1 h2 : HSt) (p1 p2 : PSt) : Hos (fun w X => P4 w0 B w hb rb pb qb h1 h2 p1 p2 X) w0 B pb hb h1 p1 :=
  ⟨fun _ _ x => x.ph, fun _ _ _ _ x hk hT => x.fresh hk hT, fun _ _ Y x hY => x.off Y hY⟩
end
theorem sq_bound {n : Nat} (hn : n ≤ 40) : n * (n + 2) ≤ 1680 ∧ n * (n + 2) + 1 = (n + 1) * (n + 1) ∧ n * (n + 2) ≤ (n + 1) * (n + 2) := by
  refine ⟨Nat.le_trans (Nat.mul_le_mul hn (by omega : n + 2 ≤ 42)) (by omega), ?_, Nat.mul_le_mul_right _ (by omega)⟩
  rw [Nat.add_mul, Nat.mul_add, Nat.mul_add]
  omega
theorem wrap_midC (x : Nat) (h1 : x < 1000000) : wrap64 (x : Int) = (x : Int) ∧ IntKind.i64.wrap (x : Int) = (x : Int) := by
  refine ⟨by rw [wrap64]; omega, by rw [IntKind.wrap_i64]; omega⟩
theorem m2_inC {g : Gr} {n : Nat} {h : HSt} (m : M2 g n n 0 h) (hok : h.Ok) : ∀ k o, getC h.cs k = some o → 1 ≤ k ∧ k ≤ n := by
  intro k o hk
  obtain ⟨ho, hs⟩ := getC_mem hk
  have hle := hok.le o ho
  rw [hs, m.last] at hle
  exact hle
theorem ends_arith {k l E L M : Nat} (h : k + l ≤ E) (H : E ≤ L ∧ E + 1 = M ∧ E ≤ 1680) : k ≤ E ∧ 7 * k + 7 ≤ 900000 ∧ (k : Int) ≤ (L : Int) ∧ (k : Int) ≤ (M : Int) := by
  omega
theorem ends_more {k l l' E : Nat} (h : k + l ≤ E) (h' : l' < l) : k + 1 + l' ≤ E := by omega
end Go.Proofs.YtlabdbfmfejkaaaGreatDoor
