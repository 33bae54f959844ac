import Derived.Test.YtlabdbfmfejkaaaDoorRePP
import Derived.Test.YtlabdbfmfejkaaaDoorPcAP
import Derived.Deep.CutRange
import Derived.Deep.CutBlock
import Derived.BigQuiet
import Derived.Test.YtlabdbfmfejkaaaDoorReMP
/- Both paints, painted alike; a reacher beside both. -/
/- painted, with whatever shades and scans keep. -/
/- What leads() tells, reckoned; a list of Bools as a function. -/
namespace Go.Proofs.YtlabdbfmfejkaaaDoor
open Go.ChangeShapes Go.WideShapes Go.ChangeAt Go.RowKit Go.Deep

/-- How an object was marked. -/
structure Way where
  ser : Nat
  rank : Int
  xn : Int
  xs : Nat
  scan : Bool
def cWay (s : Way) : List Value := [.int .u64 (s.ser : Int), .int .i64 s.rank, .int .i64 s.xn, .int .u64 (s.xs : Int), .bool s.scan]
def Way.Ok (s : Way) : Prop := s.ser < 18446744073709551616 ∧ s.xs < 18446744073709551616
theorem list5w {α : Type} {l : List α} (h : l.length = 5) : ∃ a b c d e, l = [a, b, c, d, e] := by
  match l, h with
  | [a, b, c, d, e], _ => exact ⟨a, b, c, d, e, rfl⟩
theorem ews_way {H : Type} {enc : TypeId × Value → H} {W : World} : ∀ n cs (y : DataW H × List MemPlace), DataW.trod enc Tryd.prog W 0 (fun _ => true) true n 114 cs = some y → ∃ x : Way, cs = cWay x ∧ x.Ok := by
  intro n cs y h
  obtain ⟨hlen, k, hf⟩ := trod_fields 5 Tryd.underlying114 (by kernel_rfl) h
  obtain ⟨v0, v1, v2, v3, v4, rfl⟩ := list5w hlen
  obtain ⟨y0, g0⟩ := hf 0 32 0 1 rfl (by kernel_rfl)
  obtain ⟨y1, g1⟩ := hf 1 3 1 1 rfl (by kernel_rfl)
  obtain ⟨y3, g3⟩ := hf 2 47 2 2 rfl (by kernel_rfl)
  obtain ⟨y5, g5⟩ := hf 3 4 4 1 rfl (by kernel_rfl)
  obtain ⟨_, k3, hf3⟩ := trod_fields 2 Tryd.underlying47 (by kernel_rfl) g3
  obtain ⟨y30, g30⟩ := hf3 0 3 0 1 rfl (by kernel_rfl)
  obtain ⟨y31, g31⟩ := hf3 1 32 1 1 rfl (by kernel_rfl)
  obtain ⟨z0, e0, b0⟩ := trod_u64 g0
  obtain ⟨z1, e1, _, _⟩ := DataW.trod_int Tryd.underlying3 g1
  obtain ⟨z3, e3, _, _⟩ := DataW.trod_int Tryd.underlying3 g30
  obtain ⟨z4, e4, b4⟩ := trod_u64 g31
  obtain ⟨z5, e5, _⟩ := DataW.trod_bool Tryd.underlying4 g5
  simp only [List.drop_succ_cons, List.drop_zero, List.take_succ_cons, List.take_zero, List.cons.injEq, and_true] at e0 e1 e3 e4 e5
  subst e0 e1 e3 e4 e5
  exact ⟨⟨z0, z1, z3, z4, z5⟩, rfl, b0, b4⟩
theorem WS.way {w : World} {ao : Option Addr} {n cap : Nat} {xs : List Way} (h : WS w (.slice ao n cap) 5 cWay xs) (i : Nat) (hi : i < xs.length) : ∃ b off, ao = some ⟨b, off, none⟩ ∧ b < w.heap.size ∧
    w.cell? ⟨b, off + i * 5, none⟩ = some (.int .u64 (xs[i].ser : Int)) ∧ w.cell? ⟨b, off + i * 5 + 1, none⟩ = some (.int .i64 xs[i].rank) ∧ w.cell? ⟨b, off + i * 5 + 2, none⟩ = some (.int .i64 xs[i].xn) ∧ w.cell? ⟨b, off + i * 5 + 3, none⟩ = some (.int .u64 (xs[i].xs : Int)) ∧ w.cell? ⟨b, off + i * 5 + 4, none⟩ = some (.bool xs[i].scan) := by
  obtain ⟨b, off, h1, h2, h3⟩ := h.at i hi
  exact ⟨b, off, h1, h2, h3 0 _ rfl, h3 1 _ rfl, h3 2 _ rfl, h3 3 _ rfl, h3 4 _ rfl⟩

set_option maxRecDepth 20000 in
set_option maxHeartbeats 4000000 in
theorem painted_any {w0 w : World} {hb rb : Nat} {h : HSt} {vl : Value} {xs : List Way} (y : H2 w0 w0.heap.size w hb rb h h (fun _ => False)) (hl : WS w0 vl 5 cWay xs) (hR : ∀ y ∈ xs, y.Ok) (hla : h.last ≤ 30 ∨ h.last ≤ 60) :
    Calls Tryd.prog 23 #[.pointer (some ⟨hb, 0, none⟩), .pointer (some ⟨rb, 0, none⟩), vl] w fun e w' => ∃ pb qb p, e = .returned (.tuple #[.pointer (some ⟨pb, 0, none⟩), .pointer (some ⟨qb, 0, none⟩)]) ∧ P4 w0 w0.heap.size w' hb rb pb qb h h p p (fun _ => False) ∧ PI p 10000 := by
  obtain ⟨ao, cap, rfl, _, _⟩ := hl.slice
  have HWS : Hid _ := hidden hl
  have HOKS : Hid _ := hidden hR
  have hNw := pnew_ok hb w0.heap.size 4 (by omega) (by omega) w y.le
  have hNq := fun W (hB : w0.heap.size ≤ W.heap.size) => rnewp_any 4 (by omega) (by omega) rb w0.heap.size W hB
  have HY : Hid _ := hidden y
  have HLA : Hid (h.last ≤ 60) := by
    have e : h.last ≤ 60 := by omega
    exact e
  have hLE := y.le
  clear y hl hR hla
  go_enter Tryd.func23, Tryd.ntmps23
  go_wp2_with fail
  refine hNw.mono ?_
  rintro e w3 ⟨pb, G, rfl, pn, hG, b3⟩
  clear hNw
  go_wp2_with fail
  refine (hNq _ (Nat.le_trans hLE b3.size)).mono ?_
  rintro e w4 ⟨rfl, q4, b4⟩
  have HZ : Hid _ := hidden (HY.out.p4 pn hG b3 q4 b4)
  have HK0 : Hid (PI (PSt.new 4) 0) := ⟨List.nodup_nil, (fun e he => (by cases he)), Nat.zero_le _, Nat.zero_le _⟩
  clear hNq pn hG b3 q4 b4 HY
  generalize w3.heap.size = qb at *
  go_wp2
  go_loopw [11, 12] (fun t _ wr => ∃ (i : Nat) (p : PSt), i ≤ 100 ∧ t = .int .i64 (i : Int) ∧ PI p (i * 20) ∧ P4 w0 w0.heap.size wr hb rb pb qb h h p p (fun _ => False)) (fun t _ _ => 100 - (intOf t).toNat)
  case atStart => exact ⟨0, _, by omega, rfl, HK0.out, HZ.out⟩
  case round =>
    clear HZ HK0
    obtain ⟨i, p, hi, rfl, K, z⟩ := hrel
    by_cases hlt : i < xs.length ∧ i < 100
    · obtain ⟨hl1, hl2⟩ := hlt
      have HQ0 : Hid (∀ W, Below w0.heap.size w0 W → ∃ b off, ao = some ⟨b, off, none⟩ ∧ b < W.heap.size ∧ W.cell? ⟨b, off + i * 5, none⟩ = some (.int .u64 (xs[i].ser : Int)) ∧ W.cell? ⟨b, off + i * 5 + 1, none⟩ = some (.int .i64 xs[i].rank) ∧ W.cell? ⟨b, off + i * 5 + 2, none⟩ = some (.int .i64 xs[i].xn) ∧ W.cell? ⟨b, off + i * 5 + 3, none⟩ = some (.int .u64 (xs[i].xs : Int)) ∧ W.cell? ⟨b, off + i * 5 + 4, none⟩ = some (.bool xs[i].scan)) := fun W hB => (HWS.out.below hB).way i hl1
      have hokx := HOKS.out _ (List.getElem_mem hl1)
      have hlti : (i : Int) < (xs.length : Int) := by omega
      have hlt100 : (i : Int) < 100 := by omega
      generalize xs[i] = st at *
      obtain ⟨ser, rank, xn, xs', scan⟩ := st
      simp only at HQ0
      obtain ⟨b, off, rfl, hbw, q0, q1, q2, q3, q4⟩ := HQ0.out _ z.bel
      have HQ : Hid (∀ W, Below w0.heap.size w0 W → b < W.heap.size ∧ W.cell? ⟨b, off + i * 5 + 1, none⟩ = some (.int .i64 rank) ∧ W.cell? ⟨b, off + i * 5 + 2, none⟩ = some (.int .i64 xn) ∧ W.cell? ⟨b, off + i * 5 + 3, none⟩ = some (.int .u64 (xs' : Int)) ∧ W.cell? ⟨b, off + i * 5 + 4, none⟩ = some (.bool scan)) := fun W hB => by
        obtain ⟨b', off', e, h1, _, h3, h4, h5, h6⟩ := HQ0.out W hB
        cases e
        exact ⟨h1, h3, h4, h5, h6⟩
      have hser := hokx.1
      simp only at hser
      have HL : Hid (i + 1 ≤ 100) := hl2
      have hc := z.last
      have hrl := cell_lt hc
      obtain ⟨N, hN⟩ : ∃ N, N = h.last := ⟨_, rfl⟩
      rw [← hN] at hc
      have hN60 : N ≤ 60 := by have := HLA.out; omega
      obtain ⟨q, hq⟩ : ∃ q, q = ser % (N + 1) := ⟨_, rfl⟩
      obtain ⟨D, hDN⟩ : ∃ D, D = N + 1 := ⟨_, rfl⟩
      have hadd : (N : Int) + 1 = (D : Int) := by omega
      have hrem : (ser : Int).tmod (D : Int) = (q : Int) := by rw [hq, hDN]; rfl
      have hrem2 : (ser : Int) % (D : Int) = (q : Int) := by rw [hq, hDN]; rfl
      have hq64 : q < 18446744073709551616 := by have := Nat.mod_le ser (N + 1); omega
      have hne : ((D : Int) == 0) = false := by rw [beq_eq_false_iff_ne]; omega
      have hne2 : ¬ (D : Int) = 0 := by omega
      have hwA : IntKind.u64.wrap ((N : Int) + 1) = (D : Int) := by rw [IntKind.wrap_u64]; omega
      have hwB : ((N : Int) + 1) % 18446744073709551616 = (D : Int) := by omega
      have HQ64 : Hid (q < 18446744073709551616) := hidden hq64
      have HK : Hid _ := hidden K
      have HZ1 : Hid _ := hidden z
      have HKB : Hid (i * 20 + 20 < 1000000) := by
        have e : i * 20 + 20 < 1000000 := by omega
        exact e
      clear hq64 hser hokx hl1 hl2 K z hq hDN hadd hi hN hN60
      go_upto_region 8 with fail
      go_cut [12] from 34 to 46 (fun t wc => t = .int .u64 (q : Int) ∧ Below wr.heap.size wr wc)
      case first =>
        clear HQ0 HQ HL HQ64 HK HZ1 HKB
        have P0 : ∀ k, (wr.drewN k).cell? ⟨b, off + i * 5, none⟩ = some (.int .u64 (ser : Int)) := fun _ => q0
        have P1 : ∀ k, (wr.drewN k).cell? ⟨rb, 2, none⟩ = some (.int .u64 (N : Int)) := fun _ => hc
        go_quiet (fail)
        go_wp2
        go_meet
        exact ⟨rfl, below_drewN0 _ _⟩
      case rest =>
        obtain ⟨rfl, bc⟩ := hcut
        have z1 := HZ1.out.read bc
        clear q0 q1 q2 q3 q4 hbw hc hrl bc HZ1 HQ0 hrem hrem2 hwA hwB hne hne2
        obtain ⟨hbw, q1, q2, q3, q4⟩ := HQ.out _ z1.bel
        have hS1 := z1.shade 1 q rank
        clear z1
        go_wp2_with fail
        refine hS1.mono ?_
        rintro e w5 ⟨rfl, z5, k5⟩
        have HZ5 : Hid _ := hidden z5
        clear hS1 q1 q2 q3 q4 hbw k5
        obtain ⟨hbw, q1, q2, q3, q4⟩ := HQ.out _ z5.bel
        have hS2 := z5.rshade HK.out (by have := HKB.out; omega) 1 q rank
        have hK6 := HK.out.shade h (1, q) rank
        generalize p.shade h (1, q) rank = p6 at *
        clear z5 HZ5 HK
        go_wp2_with fail
        refine hS2.mono ?_
        rintro e w6 ⟨rfl, z6, k6⟩
        clear hS2 q1 q2 q3 q4 hbw k6
        obtain ⟨hbw, q1, q2, q3, q4⟩ := HQ.out _ z6.bel
        have hS3 := fun W (hB : Below w6.heap.size w6 W) => (z6.read hB).shade xn xs' rank
        have HK6 : Hid _ := hidden hK6
        have bd6 := below_drew0 w6
        have HZ6 : Hid _ := hidden z6
        clear z6 hK6
        go_upto_region 11 with fail
        go_cut [] from 65 to 76 (fun wc => P4 w0 w0.heap.size wc hb rb pb qb h h (p6.shade h (xn, xs') rank) p6 (fun _ => False))
        case first =>
          go_region_with (go_at_call 13; refine (hS3 _ bd6).mono ?_; rintro e w7 ⟨rfl, z7, k7⟩; clear k7)
          all_goals
            go_wp2
            go_meet
            exact z7
        case rest =>
          have z7 := hcut
          clear hS3 q1 q2 q3 q4 hbw bd6 HZ6 hcut
          obtain ⟨hbw, q1, q2, q3, q4⟩ := HQ.out _ z7.bel
          have bd7 := below_drew0 wc
          have hS4 := (z7.read bd7).rshade HK6.out (by have := HKB.out; omega) xn xs' rank
          have hK8 := HK6.out.shade h (xn, xs') rank
          generalize p6.shade h (xn, xs') rank = p8 at *
          have HK8 : Hid _ := hidden hK8
          clear z7 hK8 HK6 bd7
          go_upto_region 12 with fail
          go_cut [] from 77 to 88 (fun wc => P4 w0 w0.heap.size wc hb rb pb qb h h p8 p8 (fun _ => False))
          case first =>
            go_region_with (go_at_call 57; refine hS4.mono ?_; rintro e w8 ⟨rfl, z8, k8⟩; clear k8)
            all_goals
              go_wp2
              go_meet
              exact z8
          case rest =>
            have z8 := hcut
            clear hS4 q1 q2 q3 q4 hbw hcut
            obtain ⟨hbw, q1, q2, q3, q4⟩ := HQ.out _ z8.bel
            cases scan with
            | false =>
              have HE : Hid _ := hidden z8
              clear z8 q1 q2 q3
              go_wp2
              go_roundw
              case rel => exact ⟨i + 1, p8, HL.out, by go_num, HK8.out.mono (by omega), HE.out⟩
              case measure => have := HL.out; simp [intOf]; omega
            | true =>
              have hSc := z8.scan q HQ64.out
              have HOK8 : Hid h.Ok := z8.okh
              clear z8 q1 q2 q3
              go_wp2_with fail
              refine hSc.mono ?_
              rintro e w9 ⟨rfl, z9, k9⟩
              have hSr := z9.rscan HK8.out (by have := HKB.out; omega) q
              have hKA := HK8.out.scan HOK8.out q
              generalize p8.scan h q = p9 at *
              generalize scanR h p8 q = sb at *
              have HKA : Hid _ := hidden hKA
              clear hSc z9 k9 q4 hbw hKA
              go_wp2_with fail
              refine hSr.mono ?_
              rintro e wa ⟨rfl, za, ka⟩
              have HE : Hid _ := hidden za
              clear hSr za ka
              go_wp2
              go_roundw
              case rel => exact ⟨i + 1, p9, HL.out, by go_num, HKA.out.mono (by omega), HE.out⟩
              case measure => have := HL.out; simp [intOf]; omega
    · have hex : (¬ (i : Int) < (xs.length : Int)) ∨ ((i : Int) < (xs.length : Int) ∧ ¬ (i : Int) < 100) := by omega
      have HE : Hid _ := hidden z
      have HKE : Hid (PI p 10000) := K.mono (by omega)
      clear z K hlt
      rcases hex with hx | ⟨hx1, hx2⟩
      all_goals
        go_wp2
        go_ret2
        exact ⟨pb, qb, rfl, p, HE.out, HKE.out⟩
end Go.Proofs.YtlabdbfmfejkaaaDoor

namespace Go.Proofs.YtlabdbfmfejkaaaDoor
open Go.RowKit

/-- No remote reference of this node stands in it. -/
def NI (h : HSt) (p : PSt) : Prop := ∀ e ∈ p.me, e.1.1 ≠ (h.node : Int)
theorem putA_mem {κ β : Type} [DecidableEq κ] {l : List (κ × β)} {x : κ} {v : β} {e : κ × β} (h : e ∈ putA l x v) : e.1 = x ∨ e ∈ l := by
  unfold putA at h
  split at h
  · obtain ⟨q, hq, he⟩ := List.mem_map.1 h
    split at he
    · subst he; exact Or.inl rfl
    · subst he; exact Or.inr hq
  · rcases List.mem_append.1 h with h | h
    · exact Or.inr h
    · rw [List.mem_singleton] at h
      subst h
      exact Or.inl rfl
theorem NI.new (h : HSt) (M : Nat) : NI h (PSt.new M) := fun e he => by cases he
theorem own_me (h : HSt) (p : PSt) (s r : Nat) : (p.own h s r).me = p.me := by
  have hp : ∀ q : PSt, (q.push s).me = q.me := fun q => (push_ma q s).2
  unfold PSt.own
  repeat' split
  all_goals first | rfl | (rw [hp])
theorem NI.shade {h : HSt} {p : PSt} (H : NI h p) (x : Int × Nat) (r : Int) : NI h (p.shade h x r) := by
  unfold PSt.shade
  split
  · split
    · unfold NI
      rw [own_me]
      exact H
    · next hn =>
      unfold PSt.meet
      split
      · exact fun e he => (putA_mem he).elim (fun e1 => by rw [e1]; exact hn) (H e)
      · split
        · exact fun e he => (putA_mem he).elim (fun e1 => by rw [e1]; exact hn) (H e)
        · exact H
  · exact H
theorem NI.all {h : HSt} (l : List (Int × Nat)) (r : Nat) : ∀ {p : PSt}, NI h p → NI h (PSt.all h p l r) := by
  unfold PSt.all
  induction l with
  | nil => intro p H; exact H
  | cons x l ih => intro p H; exact ih (H.shade x r)
theorem NI.scan {h : HSt} {p : PSt} (H : NI h p) (s : Nat) : NI h (p.scan h s) := by
  unfold PSt.scan
  split
  · exact NI.all _ _ H
  · exact H
set_option maxRecDepth 20000 in
set_option maxHeartbeats 4000000 in
theorem painted_inv (J : PSt → Prop) {w0 w : World} {hb rb : Nat} {h : HSt} {vl : Value} {xs : List Way} (y : H2 w0 w0.heap.size w hb rb h h (fun _ => False)) (hl : WS w0 vl 5 cWay xs) (hR : ∀ y ∈ xs, y.Ok) (hla : h.last ≤ 30 ∨ h.last ≤ 60) (J0 : J (PSt.new 4)) (Js : ∀ p x r, J p → J (p.shade h x r)) (Jc : ∀ p s, J p → J (p.scan h s)) :
    Calls Tryd.prog 23 #[.pointer (some ⟨hb, 0, none⟩), .pointer (some ⟨rb, 0, none⟩), vl] w fun e w' => ∃ pb qb p, e = .returned (.tuple #[.pointer (some ⟨pb, 0, none⟩), .pointer (some ⟨qb, 0, none⟩)]) ∧ P4 w0 w0.heap.size w' hb rb pb qb h h p p (fun _ => False) ∧ PI p 10000 ∧ J p := by
  obtain ⟨ao, cap, rfl, _, _⟩ := hl.slice
  have HWS : Hid _ := hidden hl
  have HOKS : Hid _ := hidden hR
  have hNw := pnew_ok hb w0.heap.size 4 (by omega) (by omega) w y.le
  have hNq := fun W (hB : w0.heap.size ≤ W.heap.size) => rnewp_any 4 (by omega) (by omega) rb w0.heap.size W hB
  have HY : Hid _ := hidden y
  have HLA : Hid (h.last ≤ 60) := by
    have e : h.last ≤ 60 := by omega
    exact e
  have hLE := y.le
  have HJ0 : Hid _ := hidden J0
  have HJs : Hid _ := hidden Js
  have HJc : Hid _ := hidden Jc
  clear y hl hR hla J0 Js Jc
  go_enter Tryd.func23, Tryd.ntmps23
  go_wp2_with fail
  refine hNw.mono ?_
  rintro e w3 ⟨pb, G, rfl, pn, hG, b3⟩
  clear hNw
  go_wp2_with fail
  refine (hNq _ (Nat.le_trans hLE b3.size)).mono ?_
  rintro e w4 ⟨rfl, q4, b4⟩
  have HZ : Hid _ := hidden (HY.out.p4 pn hG b3 q4 b4)
  have HK0 : Hid (PI (PSt.new 4) 0) := ⟨List.nodup_nil, (fun e he => (by cases he)), Nat.zero_le _, Nat.zero_le _⟩
  clear hNq pn hG b3 q4 b4 HY
  generalize w3.heap.size = qb at *
  go_wp2
  go_loopw [11, 12] (fun t _ wr => ∃ (i : Nat) (p : PSt), i ≤ 100 ∧ t = .int .i64 (i : Int) ∧ PI p (i * 20) ∧ J p ∧ P4 w0 w0.heap.size wr hb rb pb qb h h p p (fun _ => False)) (fun t _ _ => 100 - (intOf t).toNat)
  case atStart => exact ⟨0, _, by omega, rfl, HK0.out, HJ0.out, HZ.out⟩
  case round =>
    clear HZ HK0
    obtain ⟨i, p, hi, rfl, K, jp, z⟩ := hrel
    by_cases hlt : i < xs.length ∧ i < 100
    · obtain ⟨hl1, hl2⟩ := hlt
      have HQ0 : Hid (∀ W, Below w0.heap.size w0 W → ∃ b off, ao = some ⟨b, off, none⟩ ∧ b < W.heap.size ∧ W.cell? ⟨b, off + i * 5, none⟩ = some (.int .u64 (xs[i].ser : Int)) ∧ W.cell? ⟨b, off + i * 5 + 1, none⟩ = some (.int .i64 xs[i].rank) ∧ W.cell? ⟨b, off + i * 5 + 2, none⟩ = some (.int .i64 xs[i].xn) ∧ W.cell? ⟨b, off + i * 5 + 3, none⟩ = some (.int .u64 (xs[i].xs : Int)) ∧ W.cell? ⟨b, off + i * 5 + 4, none⟩ = some (.bool xs[i].scan)) := fun W hB => (HWS.out.below hB).way i hl1
      have hokx := HOKS.out _ (List.getElem_mem hl1)
      have hlti : (i : Int) < (xs.length : Int) := by omega
      have hlt100 : (i : Int) < 100 := by omega
      generalize xs[i] = st at *
      obtain ⟨ser, rank, xn, xs', scan⟩ := st
      simp only at HQ0
      obtain ⟨b, off, rfl, hbw, q0, q1, q2, q3, q4⟩ := HQ0.out _ z.bel
      have HQ : Hid (∀ W, Below w0.heap.size w0 W → b < W.heap.size ∧ W.cell? ⟨b, off + i * 5 + 1, none⟩ = some (.int .i64 rank) ∧ W.cell? ⟨b, off + i * 5 + 2, none⟩ = some (.int .i64 xn) ∧ W.cell? ⟨b, off + i * 5 + 3, none⟩ = some (.int .u64 (xs' : Int)) ∧ W.cell? ⟨b, off + i * 5 + 4, none⟩ = some (.bool scan)) := fun W hB => by
        obtain ⟨b', off', e, h1, _, h3, h4, h5, h6⟩ := HQ0.out W hB
        cases e
        exact ⟨h1, h3, h4, h5, h6⟩
      have hser := hokx.1
      simp only at hser
      have HL : Hid (i + 1 ≤ 100) := hl2
      have hc := z.last
      have hrl := cell_lt hc
      obtain ⟨N, hN⟩ : ∃ N, N = h.last := ⟨_, rfl⟩
      rw [← hN] at hc
      have hN60 : N ≤ 60 := by have := HLA.out; omega
      obtain ⟨q, hq⟩ : ∃ q, q = ser % (N + 1) := ⟨_, rfl⟩
      obtain ⟨D, hDN⟩ : ∃ D, D = N + 1 := ⟨_, rfl⟩
      have hadd : (N : Int) + 1 = (D : Int) := by omega
      have hrem : (ser : Int).tmod (D : Int) = (q : Int) := by rw [hq, hDN]; rfl
      have hrem2 : (ser : Int) % (D : Int) = (q : Int) := by rw [hq, hDN]; rfl
      have hq64 : q < 18446744073709551616 := by have := Nat.mod_le ser (N + 1); omega
      have hne : ((D : Int) == 0) = false := by rw [beq_eq_false_iff_ne]; omega
      have hne2 : ¬ (D : Int) = 0 := by omega
      have hwA : IntKind.u64.wrap ((N : Int) + 1) = (D : Int) := by rw [IntKind.wrap_u64]; omega
      have hwB : ((N : Int) + 1) % 18446744073709551616 = (D : Int) := by omega
      have HQ64 : Hid (q < 18446744073709551616) := hidden hq64
      have HK : Hid _ := hidden K
      have HJ : Hid _ := hidden jp
      have HZ1 : Hid _ := hidden z
      have HKB : Hid (i * 20 + 20 < 1000000) := by
        have e : i * 20 + 20 < 1000000 := by omega
        exact e
      clear hq64 hser hokx hl1 hl2 K jp z hq hDN hadd hi hN hN60
      go_upto_region 8 with fail
      go_cut [12] from 34 to 46 (fun t wc => t = .int .u64 (q : Int) ∧ Below wr.heap.size wr wc)
      case first =>
        clear HQ0 HQ HL HQ64 HK HZ1 HKB
        have P0 : ∀ k, (wr.drewN k).cell? ⟨b, off + i * 5, none⟩ = some (.int .u64 (ser : Int)) := fun _ => q0
        have P1 : ∀ k, (wr.drewN k).cell? ⟨rb, 2, none⟩ = some (.int .u64 (N : Int)) := fun _ => hc
        go_quiet (fail)
        go_wp2
        go_meet
        exact ⟨rfl, below_drewN0 _ _⟩
      case rest =>
        obtain ⟨rfl, bc⟩ := hcut
        have z1 := HZ1.out.read bc
        clear q0 q1 q2 q3 q4 hbw hc hrl bc HZ1 HQ0 hrem hrem2 hwA hwB hne hne2
        obtain ⟨hbw, q1, q2, q3, q4⟩ := HQ.out _ z1.bel
        have hS1 := z1.shade 1 q rank
        clear z1
        go_wp2_with fail
        refine hS1.mono ?_
        rintro e w5 ⟨rfl, z5, k5⟩
        have HZ5 : Hid _ := hidden z5
        clear hS1 q1 q2 q3 q4 hbw k5
        obtain ⟨hbw, q1, q2, q3, q4⟩ := HQ.out _ z5.bel
        have hS2 := z5.rshade HK.out (by have := HKB.out; omega) 1 q rank
        have hK6 := HK.out.shade h (1, q) rank
        have HJ6 : Hid _ := hidden (HJs.out _ (1, q) rank HJ.out)
        generalize p.shade h (1, q) rank = p6 at *
        clear z5 HZ5 HK HJ
        go_wp2_with fail
        refine hS2.mono ?_
        rintro e w6 ⟨rfl, z6, k6⟩
        clear hS2 q1 q2 q3 q4 hbw k6
        obtain ⟨hbw, q1, q2, q3, q4⟩ := HQ.out _ z6.bel
        have hS3 := fun W (hB : Below w6.heap.size w6 W) => (z6.read hB).shade xn xs' rank
        have HK6 : Hid _ := hidden hK6
        have bd6 := below_drew0 w6
        have HZ6 : Hid _ := hidden z6
        clear z6 hK6
        go_upto_region 11 with fail
        go_cut [] from 65 to 76 (fun wc => P4 w0 w0.heap.size wc hb rb pb qb h h (p6.shade h (xn, xs') rank) p6 (fun _ => False))
        case first =>
          go_region_with (go_at_call 13; refine (hS3 _ bd6).mono ?_; rintro e w7 ⟨rfl, z7, k7⟩; clear k7)
          all_goals
            go_wp2
            go_meet
            exact z7
        case rest =>
          have z7 := hcut
          clear hS3 q1 q2 q3 q4 hbw bd6 HZ6 hcut
          obtain ⟨hbw, q1, q2, q3, q4⟩ := HQ.out _ z7.bel
          have bd7 := below_drew0 wc
          have hS4 := (z7.read bd7).rshade HK6.out (by have := HKB.out; omega) xn xs' rank
          have hK8 := HK6.out.shade h (xn, xs') rank
          have HJ8 : Hid _ := hidden (HJs.out _ (xn, xs') rank HJ6.out)
          generalize p6.shade h (xn, xs') rank = p8 at *
          have HK8 : Hid _ := hidden hK8
          clear z7 hK8 HK6 HJ6 bd7
          go_upto_region 12 with fail
          go_cut [] from 77 to 88 (fun wc => P4 w0 w0.heap.size wc hb rb pb qb h h p8 p8 (fun _ => False))
          case first =>
            go_region_with (go_at_call 57; refine hS4.mono ?_; rintro e w8 ⟨rfl, z8, k8⟩; clear k8)
            all_goals
              go_wp2
              go_meet
              exact z8
          case rest =>
            have z8 := hcut
            clear hS4 q1 q2 q3 q4 hbw hcut
            obtain ⟨hbw, q1, q2, q3, q4⟩ := HQ.out _ z8.bel
            cases scan with
            | false =>
              have HE : Hid _ := hidden z8
              clear z8 q1 q2 q3
              go_wp2
              go_roundw
              case rel => exact ⟨i + 1, p8, HL.out, by go_num, HK8.out.mono (by omega), HJ8.out, HE.out⟩
              case measure => have := HL.out; simp [intOf]; omega
            | true =>
              have hSc := z8.scan q HQ64.out
              have HOK8 : Hid h.Ok := z8.okh
              clear z8 q1 q2 q3
              go_wp2_with fail
              refine hSc.mono ?_
              rintro e w9 ⟨rfl, z9, k9⟩
              have hSr := z9.rscan HK8.out (by have := HKB.out; omega) q
              have hKA := HK8.out.scan HOK8.out q
              have HJA : Hid _ := hidden (HJc.out _ q HJ8.out)
              generalize p8.scan h q = p9 at *
              generalize scanR h p8 q = sb at *
              have HKA : Hid _ := hidden hKA
              clear hSc z9 k9 q4 hbw hKA
              go_wp2_with fail
              refine hSr.mono ?_
              rintro e wa ⟨rfl, za, ka⟩
              have HE : Hid _ := hidden za
              clear hSr za ka
              go_wp2
              go_roundw
              case rel => exact ⟨i + 1, p9, HL.out, by go_num, HKA.out.mono (by omega), HJA.out, HE.out⟩
              case measure => have := HL.out; simp [intOf]; omega
    · have hex : (¬ (i : Int) < (xs.length : Int)) ∨ ((i : Int) < (xs.length : Int) ∧ ¬ (i : Int) < 100) := by omega
      have HE : Hid _ := hidden z
      have HKE : Hid (PI p 10000) := K.mono (by omega)
      have HJE : Hid _ := hidden jp
      clear z K jp hlt
      rcases hex with hx | ⟨hx1, hx2⟩
      all_goals
        go_wp2
        go_ret2
        exact ⟨pb, qb, rfl, p, HE.out, HKE.out, HJE.out⟩
end Go.Proofs.YtlabdbfmfejkaaaDoor

namespace Go.Proofs.YtlabdbfmfejkaaaDoor
open Go.RowKit

/-- The cells of a list of n + 1 Bools. -/
def bqV (n : Nat) (f : Nat → Bool) : List Value := (List.range (n + 1)).map (fun j => Value.bool (f j))
theorem bk_cell {w : World} {kb n : Nat} {f : Nat → Bool} (r : Row w kb 4 (bqV n f)) (j : Nat) (hj : j ≤ n) : w.cell? ⟨kb, j, none⟩ = some (.bool (f j)) := by
  refine r.at j _ ?_
  unfold bqV
  rw [List.getElem?_map, List.getElem?_range (by omega)]
  rfl
theorem bk_set {w : World} {kb n : Nat} {f : Nat → Bool} (r : Row w kb 4 (bqV n f)) (j : Nat) : Row (w.setCell ⟨kb, j, none⟩ (.bool true)) kb 4 (bqV n (updF f j)) := by
  have h := r.set j (.bool true)
  have e : (bqV n f).set j (.bool true) = bqV n (updF f j) := by
    unfold bqV updF
    apply List.ext_getElem?
    intro i
    rw [List.getElem?_set, List.getElem?_map, List.getElem?_map]
    simp only [List.length_map, List.length_range]
    by_cases e : j = i
    · subst e
      rw [if_pos rfl]
      by_cases hj : j < n + 1
      · rw [if_pos hj, List.getElem?_range hj]
        simp
      · rw [if_neg hj, List.getElem?_eq_none (by simp; omega)]
        rfl
    · rw [if_neg e]
      by_cases hi : i < n + 1
      · rw [List.getElem?_range hi]
        simp only [Option.map_some]
        rw [if_neg (fun h => e h.symm)]
      · rw [List.getElem?_eq_none (by simp; omega)]
        rfl
  rw [e] at h
  exact h
theorem Tryd.infoBool' : (Tryd.prog.info? 4).map (fun i => (i.zero, i.size, i.bytes)) = some (some (.bool false), 1, 1) := by kernel_rfl
theorem made_bk (M : Nat) : madeCells (Value.bool false).cells ((M + 1) * 1) = (bqV M (fun _ => false)).toArray := by
  rw [Nat.mul_one, show (Value.bool false).cells = #[Value.bool false] from rfl]
  apply Array.ext'
  rw [toList_madeCells_one]
  simp [bqV]
  rw [List.map_const', List.length_range]
theorem make_bks (n : Nat) (hn : n ≤ 60) : ∀ W : World, (Instr.makeSlice 23 (.int .i64 ((n : Int) + 1)) (.int .i64 ((n : Int) + 1))).run Tryd.prog W = .ok (.slice (some ⟨W.heap.size, 0, none⟩) (n + 1) (n + 1)) (W.alloc (.cells (bqV n (fun _ => false)).toArray 4)) := fun W => by
  obtain ⟨i, hi, hz0, hz1, hz2⟩ := info_parts Tryd.infoBool'
  have := run_make (P := Tryd.prog) W 23 4 i _ Tryd.underlying23 hi hz0 .i64 .i64 ((n : Int) + 1) ((n : Int) + 1) (by omega) (Int.le_refl _) (by rw [hz2]; omega) (by omega)
  rw [hz1, show ((n : Int) + 1).toNat = n + 1 by omega, made_bk] at this
  exact this
/-- The list in memory; what was there ahead stays. -/
structure LdI (wB : World) (kb n : Nat) (f : Nat → Bool) (w : World) : Prop where
  row : Row w kb 4 (bqV n f)
  bel : Below wB.heap.size wB w
  ge : wB.heap.size ≤ kb
section
variable {wB w w' : World} {kb n : Nat} {f f' : Nat → Bool}
theorem LdI.read (h : LdI wB kb n f w) (hb : Below w.heap.size w w') : LdI wB kb n f w' := ⟨h.row.below hb, h.bel.trans (hb.mono h.bel.size), h.ge⟩
theorem LdI.set (h : LdI wB kb n f w) (j : Nat) : LdI wB kb n (updF f j) (w.setCell ⟨kb, j, none⟩ (.bool true)) := ⟨bk_set h.row j, h.bel.setCell h.ge _, h.ge⟩
theorem LdI.cell (h : LdI wB kb n f w) (j : Nat) (hj : j ≤ n) : w.cell? ⟨kb, j, none⟩ = some (.bool (f j)) ∧ w.frozen? ⟨kb, j, none⟩ = false ∧ kb < w.heap.size := ⟨bk_cell h.row j hj, h.row.frozen j, h.row.lt⟩
theorem LdI.made (w : World) (o : Obj) (n : Nat) : LdI (w.alloc o) (w.heap.size + 1) n (fun _ => false) ((w.alloc o).alloc (.cells (bqV n (fun _ => false)).toArray 4)) := by
  have h := heap_alloc_new (w.alloc o) (.cells (bqV n (fun _ => false)).toArray 4)
  rw [World.size_alloc] at h
  exact ⟨h, bel_alloc _ _, by simp⟩
end
theorem upd_first (s : Nat) : updF (fun _ => false) s = fun a => decide (a = s) := by
  funext a
  unfold updF
  by_cases e : a = s
  · rw [if_pos e, decide_eq_true e]
  · rw [if_neg e, decide_eq_false e]
section
variable {g : Gr} {n : Nat} {h : HSt}
/-- What references of an object are, of a graph. -/
theorem m2_refs (m : M2 g n n 0 h) {i : Nat} (hi : i < n) : (refsC h.cs (i + 1)).length = fl g i ∧ ∀ k, k < fl g i → (refsC h.cs (i + 1))[k]? = some (targetR g i k n) := by
  obtain ⟨o, h1, h2, h3⟩ := m.at_ i hi
  have e : refsC h.cs (i + 1) = o.rf := by
    unfold refsC
    rw [h1]
  rw [e]
  exact ⟨h2, fun k hk => h3 k hk (Or.inl hi)⟩
theorem m2_mem (m : M2 g n n 0 h) {i : Nat} (hi : i < n) (x : Int × Nat) : x ∈ refsC h.cs (i + 1) ↔ ∃ k, k < fl g i ∧ targetR g i k n = x := by
  obtain ⟨h1, h2⟩ := m2_refs m hi
  constructor
  · intro hx
    obtain ⟨k, hk, e⟩ := List.getElem_of_mem hx
    have := h2 k (by omega)
    rw [List.getElem?_eq_getElem hk] at this
    simp only [Option.some.injEq] at this
    exact ⟨k, by omega, this.symm.trans e⟩
  · rintro ⟨k, hk, rfl⟩
    exact List.mem_of_getElem? (h2 k hk)
theorem refs_out (hin : ∀ k o, getC h.cs k = some o → 1 ≤ k ∧ k ≤ n) {a : Nat} {x : Int × Nat} (hx : x ∈ refsC h.cs a) : 1 ≤ a ∧ a ≤ n := by
  unfold refsC at hx
  cases hg : getC h.cs a with
  | none => rw [hg] at hx; cases hx
  | some o => exact hin _ _ hg
end
/-- So far it is found. -/
def Fnd (g : Gr) (n : Nat) (f : Nat → Bool) (x : Int × Nat) (i k : Nat) : Prop := (∃ j, j < i ∧ f (j + 1) = true ∧ ∃ q, q < fl g j ∧ targetR g j q n = x) ∨ (f (i + 1) = true ∧ ∃ q, q < k ∧ targetR g i q n = x)
section
variable {g : Gr} {n : Nat} {f : Nat → Bool} {x : Int × Nat} {i k : Nat}
theorem Fnd.zero : ¬ Fnd g n f x 0 0 := by
  rintro (⟨j, h, _⟩ | ⟨_, q, h, _⟩) <;> exact absurd h (Nat.not_lt_zero _)
theorem Fnd.look (hf : f (i + 1) = true) : Fnd g n f x i (k + 1) ↔ Fnd g n f x i k ∨ targetR g i k n = x := by
  constructor
  · rintro (h | ⟨h1, q, h2, h3⟩)
    · exact Or.inl (Or.inl h)
    · by_cases e : q = k
      · subst e; exact Or.inr h3
      · exact Or.inl (Or.inr ⟨h1, q, by omega, h3⟩)
  · rintro ((h | ⟨h1, q, h2, h3⟩) | h)
    · exact Or.inl h
    · exact Or.inr ⟨h1, q, by omega, h3⟩
    · exact Or.inr ⟨hf, k, Nat.lt_succ_self k, h⟩
theorem Fnd.up (hk : f (i + 1) = false ∨ k = fl g i) : Fnd g n f x (i + 1) 0 ↔ Fnd g n f x i k := by
  constructor
  · rintro (⟨j, h1, h2, q, h3, h4⟩ | ⟨_, q, h, _⟩)
    · by_cases e : j = i
      · subst e
        rcases hk with hk | hk
        · rw [hk] at h2; cases h2
        · exact Or.inr ⟨h2, q, by omega, h4⟩
      · exact Or.inl ⟨j, by omega, h2, q, h3, h4⟩
    · exact absurd h (Nat.not_lt_zero _)
  · rintro (⟨j, h1, h2⟩ | ⟨h1, q, h2, h3⟩)
    · exact Or.inl ⟨j, by omega, h2⟩
    · rcases hk with hk | hk
      · rw [hk] at h1; cases h1
      · exact Or.inl ⟨i, by omega, h1, q, by omega, h3⟩
end
open Classical in
/-- Which entries of all are told. -/
noncomputable def tellL (g : Gr) (n : Nat) (f : Nat → Bool) (t : Int) (L : List ((Int × Nat) × Nat)) : List (Int × Nat) := (L.filter (fun e => decide (Fnd g n f e.1 n 0) && decide (t < (e.2 : Int)))).map (·.1)
theorem tell_nil (g : Gr) (n : Nat) (f : Nat → Bool) (t : Int) : tellL g n f t [] = [] := rfl
open Classical in
theorem tell_snoc (g : Gr) (n : Nat) (f : Nat → Bool) (t : Int) (L : List ((Int × Nat) × Nat)) (e : (Int × Nat) × Nat) : tellL g n f t (L ++ [e]) = tellL g n f t L ++ (if Fnd g n f e.1 n 0 ∧ t < (e.2 : Int) then [e.1] else []) := by
  unfold tellL
  rw [List.filter_append, List.map_append]
  congr 1
  by_cases h : Fnd g n f e.1 n 0 ∧ t < (e.2 : Int)
  · rw [if_pos h]
    simp [h.1, h.2]
  · rw [if_neg h]
    by_cases h1 : Fnd g n f e.1 n 0
    · have h2 : ¬ t < (e.2 : Int) := fun h2 => h ⟨h1, h2⟩
      simp [h2]
    · simp [h1]
theorem tell_yes {g : Gr} {n : Nat} {f : Nat → Bool} {t : Int} {L : List ((Int × Nat) × Nat)} {e : (Int × Nat) × Nat} (h : Fnd g n f e.1 n 0 ∧ t < (e.2 : Int)) : tellL g n f t (L ++ [e]) = tellL g n f t L ++ [e.1] := by rw [tell_snoc, if_pos h]
theorem tell_no {g : Gr} {n : Nat} {f : Nat → Bool} {t : Int} {L : List ((Int × Nat) × Nat)} {e : (Int × Nat) × Nat} (h : ¬ (Fnd g n f e.1 n 0 ∧ t < (e.2 : Int))) : tellL g n f t (L ++ [e]) = tellL g n f t L := by rw [tell_snoc, if_neg h, List.append_nil]
theorem tell_len (g : Gr) (n : Nat) (f : Nat → Bool) (t : Int) (L : List ((Int × Nat) × Nat)) : (tellL g n f t L).length ≤ L.length := by
  unfold tellL
  rw [List.length_map]
  exact List.length_filter_le _ _
section
variable {h : HSt} {p : PSt} {t : Int} {g : Gr} {n s : Nat} {f : Nat → Bool} {L : List ((Int × Nat) × Nat)}
theorem outs_at_ (hL : OutsOf p.me L) {x : Int × Nat} {r : Nat} : getA p.me x = some r ↔ (x, r) ∈ L := by
  constructor
  · intro h1
    exact hL.1.mem_iff.2 (getA_key h1)
  · intro h1
    have h2 := hL.1.mem_iff.1 h1
    unfold getA
    cases hf : p.me.find? (fun q => decide (q.1 = x)) with
    | none =>
      rw [List.find?_eq_none] at hf
      have h3 := hf _ h2
      simp at h3
    | some e =>
      have h3 := List.find?_some hf
      have h4 := hL.1.mem_iff.2 (List.mem_of_find?_eq_some hf)
      simp only [decide_eq_true_eq] at h3
      obtain ⟨i, hi, e1⟩ := List.getElem_of_mem h1
      obtain ⟨j, hj, e2⟩ := List.getElem_of_mem h4
      have hp := List.pairwise_iff_getElem.1 hL.2
      have hk : keyI L[i].1 = keyI L[j].1 := by rw [e1, e2, h3]
      have hij : i = j := by
        rcases Nat.lt_trichotomy i j with a | a | a
        · have := hp i j hi hj a; omega
        · exact a
        · have := hp j i hj hi a; omega
      subst hij
      rw [e1] at e2
      rw [← e2]
      rfl
theorem sus_out (hL : OutsOf p.me L) {x : Int × Nat} : susI p t x = true ↔ ∃ r, (x, r) ∈ L ∧ t < (r : Int) := by
  unfold susI metR
  cases hg : getA p.me x with
  | none =>
    simp only [Bool.false_and, Bool.false_eq_true, false_iff]
    rintro ⟨r, h1, _⟩
    rw [← outs_at_ hL, hg] at h1
    cases h1
  | some r =>
    simp only [Bool.true_and, decide_eq_true_eq]
    constructor
    · intro h1
      exact ⟨r, (outs_at_ hL).1 hg, h1⟩
    · rintro ⟨r', h1, h2⟩
      rw [← outs_at_ hL, hg] at h1
      cases h1
      exact h2
/-- What it tells is what the document's row tells. -/
theorem tell_all (m : M2 g n n 0 h) (hin : ∀ k o, getC h.cs k = some o → 1 ≤ k ∧ k ≤ n) (hL : OutsOf p.me L) (nm : ∀ e ∈ p.me, namesB e.1 = true) (ni : NI h p) (hf : ∀ a, f a = true ↔ Led h p t s a) : OutL (tellL g n f t L) ∧ ∀ x, x ∈ tellL g n f t L ↔ Tell h p t s x := by
  have hmem : ∀ x, x ∈ tellL g n f t L ↔ ∃ r, (x, r) ∈ L ∧ Fnd g n f x n 0 ∧ t < (r : Int) := fun x => by
    unfold tellL
    rw [List.mem_map]
    constructor
    · rintro ⟨e, h1, rfl⟩
      rw [List.mem_filter] at h1
      simp only [Bool.and_eq_true, decide_eq_true_eq] at h1
      exact ⟨e.2, h1.1, h1.2.1, h1.2.2⟩
    · rintro ⟨r, h1, h2, h3⟩
      refine ⟨(x, r), ?_, rfl⟩
      rw [List.mem_filter]
      simp only [Bool.and_eq_true, decide_eq_true_eq]
      exact ⟨h1, h2, h3⟩
  refine ⟨⟨?_, fun x hx => ?_⟩, fun x => ?_⟩
  · unfold Srt kis tellL
    rw [List.map_map, List.pairwise_map]
    exact (hL.2.sublist List.filter_sublist).imp (fun e => by simpa [ltQ] using e)
  · obtain ⟨r, h1, _⟩ := (hmem x).1 hx
    exact nm _ (hL.1.mem_iff.1 h1)
  · rw [hmem]
    constructor
    · rintro ⟨r, h1, h2, h3⟩
      rcases h2 with ⟨j, hj, h4, q, h5, h6⟩ | ⟨_, q, h4, _⟩
      · exact ⟨j + 1, (hf _).1 h4, (m2_mem m hj x).2 ⟨q, h5, h6⟩, ni _ (hL.1.mem_iff.1 h1), (sus_out hL).2 ⟨r, h1, h3⟩⟩
      · exact absurd h4 (Nat.not_lt_zero _)
    · rintro ⟨a, h1, h2, _, h4⟩
      obtain ⟨r, h5, h6⟩ := (sus_out hL).1 h4
      obtain ⟨ha1, ha2⟩ := refs_out hin h2
      obtain ⟨j, rfl⟩ : ∃ j, a = j + 1 := ⟨a - 1, by omega⟩
      exact ⟨r, h5, Or.inl ⟨j, by omega, (hf _).2 h1, (m2_mem m (by omega) x).1 h2⟩, h6⟩
theorem led_pos (hin : ∀ k o, getC h.cs k = some o → 1 ≤ k ∧ k ≤ n) (hs : 1 ≤ s) {a : Nat} (H : Led h p t s a) : 1 ≤ a := by
  induction H with
  | base => exact hs
  | next _ _ h3 _ =>
    obtain ⟨o, ho⟩ := sus_there h3
    exact (hin _ _ ho).1
theorem CR.zero {r : Nat} (H : CR h p t s n f r) (hin : ∀ k o, getC h.cs k = some o → 1 ≤ k ∧ k ≤ n) (hs : 1 ≤ s) : f 0 = false := by
  cases e : f 0 with
  | false => rfl
  | true => exact absurd (led_pos hin hs (H.snd 0 e).1) (by omega)
theorem CR.begin_ {r : Nat} (H : CR h p t s n f r) (hin : ∀ k o, getC h.cs k = some o → 1 ≤ k ∧ k ≤ n) (hs : 1 ≤ s) : CL h p t s n f f 1 0 := by
  rcases H.cl0 with h1 | ⟨a, rfl, h1⟩
  · exact h1
  · rw [H.zero hin hs] at h1
    cases h1
end
end Go.Proofs.YtlabdbfmfejkaaaDoor
