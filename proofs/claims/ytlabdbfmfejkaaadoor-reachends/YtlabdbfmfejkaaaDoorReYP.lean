import Derived.Test.YtlabdbfmfejkaaaDoorRePP
import Derived.Test.YtlabdbfmfejkaaaDoorPbY0P
import Derived.Deep.CutRange
import Derived.Deep.CutBlock
import Derived.BigQuiet
import Derived.Test.YtlabdbfmfejkaaaDoorMkDP
/- Both paints, painted alike; a reacher beside both. -/
/- A reacher ends, reckoned. No program's text is in it. -/
/- A reacher beside both heaps and paints; ReachEnds. -/
namespace Go.Proofs.YtlabdbfmfejkaaaDoor
open Go.ChangeShapes Go.WideShapes Go.ChangeAt Go.RowKit Go.Deep

/-- How an object was marked. -/
structure Way where
  ser : Nat
  rank : Int
  xn : Int
  xs : Nat
  scan : Bool
def cWay (s : Way) : List Value := [.int .u64 (s.ser : Int), .int .i64 s.rank, .int .i64 s.xn, .int .u64 (s.xs : Int), .bool s.scan]
def Way.Ok (s : Way) : Prop := s.ser < 18446744073709551616 ∧ s.xs < 18446744073709551616
theorem list5w {α : Type} {l : List α} (h : l.length = 5) : ∃ a b c d e, l = [a, b, c, d, e] := by
  match l, h with
  | [a, b, c, d, e], _ => exact ⟨a, b, c, d, e, rfl⟩
theorem ews_way {H : Type} {enc : TypeId × Value → H} {W : World} : ∀ n cs (y : DataW H × List MemPlace), DataW.trod enc Tryd.prog W 0 (fun _ => true) true n 114 cs = some y → ∃ x : Way, cs = cWay x ∧ x.Ok := by
  intro n cs y h
  obtain ⟨hlen, k, hf⟩ := trod_fields 5 Tryd.underlying114 (by kernel_rfl) h
  obtain ⟨v0, v1, v2, v3, v4, rfl⟩ := list5w hlen
  obtain ⟨y0, g0⟩ := hf 0 32 0 1 rfl (by kernel_rfl)
  obtain ⟨y1, g1⟩ := hf 1 3 1 1 rfl (by kernel_rfl)
  obtain ⟨y3, g3⟩ := hf 2 47 2 2 rfl (by kernel_rfl)
  obtain ⟨y5, g5⟩ := hf 3 4 4 1 rfl (by kernel_rfl)
  obtain ⟨_, k3, hf3⟩ := trod_fields 2 Tryd.underlying47 (by kernel_rfl) g3
  obtain ⟨y30, g30⟩ := hf3 0 3 0 1 rfl (by kernel_rfl)
  obtain ⟨y31, g31⟩ := hf3 1 32 1 1 rfl (by kernel_rfl)
  obtain ⟨z0, e0, b0⟩ := trod_u64 g0
  obtain ⟨z1, e1, _, _⟩ := DataW.trod_int Tryd.underlying3 g1
  obtain ⟨z3, e3, _, _⟩ := DataW.trod_int Tryd.underlying3 g30
  obtain ⟨z4, e4, b4⟩ := trod_u64 g31
  obtain ⟨z5, e5, _⟩ := DataW.trod_bool Tryd.underlying4 g5
  simp only [List.drop_succ_cons, List.drop_zero, List.take_succ_cons, List.take_zero, List.cons.injEq, and_true] at e0 e1 e3 e4 e5
  subst e0 e1 e3 e4 e5
  exact ⟨⟨z0, z1, z3, z4, z5⟩, rfl, b0, b4⟩
theorem WS.way {w : World} {ao : Option Addr} {n cap : Nat} {xs : List Way} (h : WS w (.slice ao n cap) 5 cWay xs) (i : Nat) (hi : i < xs.length) : ∃ b off, ao = some ⟨b, off, none⟩ ∧ b < w.heap.size ∧
    w.cell? ⟨b, off + i * 5, none⟩ = some (.int .u64 (xs[i].ser : Int)) ∧ w.cell? ⟨b, off + i * 5 + 1, none⟩ = some (.int .i64 xs[i].rank) ∧ w.cell? ⟨b, off + i * 5 + 2, none⟩ = some (.int .i64 xs[i].xn) ∧ w.cell? ⟨b, off + i * 5 + 3, none⟩ = some (.int .u64 (xs[i].xs : Int)) ∧ w.cell? ⟨b, off + i * 5 + 4, none⟩ = some (.bool xs[i].scan) := by
  obtain ⟨b, off, h1, h2, h3⟩ := h.at i hi
  exact ⟨b, off, h1, h2, h3 0 _ rfl, h3 1 _ rfl, h3 2 _ rfl, h3 3 _ rfl, h3 4 _ rfl⟩

set_option maxRecDepth 20000 in
set_option maxHeartbeats 4000000 in
theorem painted_any {w0 w : World} {hb rb : Nat} {h : HSt} {vl : Value} {xs : List Way} (y : H2 w0 w0.heap.size w hb rb h h (fun _ => False)) (hl : WS w0 vl 5 cWay xs) (hR : ∀ y ∈ xs, y.Ok) (hla : h.last ≤ 30 ∨ h.last ≤ 60) :
    Calls Tryd.prog 23 #[.pointer (some ⟨hb, 0, none⟩), .pointer (some ⟨rb, 0, none⟩), vl] w fun e w' => ∃ pb qb p, e = .returned (.tuple #[.pointer (some ⟨pb, 0, none⟩), .pointer (some ⟨qb, 0, none⟩)]) ∧ P4 w0 w0.heap.size w' hb rb pb qb h h p p (fun _ => False) ∧ PI p 10000 := by
  obtain ⟨ao, cap, rfl, _, _⟩ := hl.slice
  have HWS : Hid _ := hidden hl
  have HOKS : Hid _ := hidden hR
  have hNw := pnew_ok hb w0.heap.size 4 (by omega) (by omega) w y.le
  have hNq := fun W (hB : w0.heap.size ≤ W.heap.size) => rnewp_any 4 (by omega) (by omega) rb w0.heap.size W hB
  have HY : Hid _ := hidden y
  have HLA : Hid (h.last ≤ 60) := by
    have e : h.last ≤ 60 := by omega
    exact e
  have hLE := y.le
  clear y hl hR hla
  go_enter Tryd.func23, Tryd.ntmps23
  go_wp2_with fail
  refine hNw.mono ?_
  rintro e w3 ⟨pb, G, rfl, pn, hG, b3⟩
  clear hNw
  go_wp2_with fail
  refine (hNq _ (Nat.le_trans hLE b3.size)).mono ?_
  rintro e w4 ⟨rfl, q4, b4⟩
  have HZ : Hid _ := hidden (HY.out.p4 pn hG b3 q4 b4)
  have HK0 : Hid (PI (PSt.new 4) 0) := ⟨List.nodup_nil, (fun e he => (by cases he)), Nat.zero_le _, Nat.zero_le _⟩
  clear hNq pn hG b3 q4 b4 HY
  generalize w3.heap.size = qb at *
  go_wp2
  go_loopw [11, 12] (fun t _ wr => ∃ (i : Nat) (p : PSt), i ≤ 100 ∧ t = .int .i64 (i : Int) ∧ PI p (i * 20) ∧ P4 w0 w0.heap.size wr hb rb pb qb h h p p (fun _ => False)) (fun t _ _ => 100 - (intOf t).toNat)
  case atStart => exact ⟨0, _, by omega, rfl, HK0.out, HZ.out⟩
  case round =>
    clear HZ HK0
    obtain ⟨i, p, hi, rfl, K, z⟩ := hrel
    by_cases hlt : i < xs.length ∧ i < 100
    · obtain ⟨hl1, hl2⟩ := hlt
      have HQ0 : Hid (∀ W, Below w0.heap.size w0 W → ∃ b off, ao = some ⟨b, off, none⟩ ∧ b < W.heap.size ∧ W.cell? ⟨b, off + i * 5, none⟩ = some (.int .u64 (xs[i].ser : Int)) ∧ W.cell? ⟨b, off + i * 5 + 1, none⟩ = some (.int .i64 xs[i].rank) ∧ W.cell? ⟨b, off + i * 5 + 2, none⟩ = some (.int .i64 xs[i].xn) ∧ W.cell? ⟨b, off + i * 5 + 3, none⟩ = some (.int .u64 (xs[i].xs : Int)) ∧ W.cell? ⟨b, off + i * 5 + 4, none⟩ = some (.bool xs[i].scan)) := fun W hB => (HWS.out.below hB).way i hl1
      have hokx := HOKS.out _ (List.getElem_mem hl1)
      have hlti : (i : Int) < (xs.length : Int) := by omega
      have hlt100 : (i : Int) < 100 := by omega
      generalize xs[i] = st at *
      obtain ⟨ser, rank, xn, xs', scan⟩ := st
      simp only at HQ0
      obtain ⟨b, off, rfl, hbw, q0, q1, q2, q3, q4⟩ := HQ0.out _ z.bel
      have HQ : Hid (∀ W, Below w0.heap.size w0 W → b < W.heap.size ∧ W.cell? ⟨b, off + i * 5 + 1, none⟩ = some (.int .i64 rank) ∧ W.cell? ⟨b, off + i * 5 + 2, none⟩ = some (.int .i64 xn) ∧ W.cell? ⟨b, off + i * 5 + 3, none⟩ = some (.int .u64 (xs' : Int)) ∧ W.cell? ⟨b, off + i * 5 + 4, none⟩ = some (.bool scan)) := fun W hB => by
        obtain ⟨b', off', e, h1, _, h3, h4, h5, h6⟩ := HQ0.out W hB
        cases e
        exact ⟨h1, h3, h4, h5, h6⟩
      have hser := hokx.1
      simp only at hser
      have HL : Hid (i + 1 ≤ 100) := hl2
      have hc := z.last
      have hrl := cell_lt hc
      obtain ⟨N, hN⟩ : ∃ N, N = h.last := ⟨_, rfl⟩
      rw [← hN] at hc
      have hN60 : N ≤ 60 := by have := HLA.out; omega
      obtain ⟨q, hq⟩ : ∃ q, q = ser % (N + 1) := ⟨_, rfl⟩
      obtain ⟨D, hDN⟩ : ∃ D, D = N + 1 := ⟨_, rfl⟩
      have hadd : (N : Int) + 1 = (D : Int) := by omega
      have hrem : (ser : Int).tmod (D : Int) = (q : Int) := by rw [hq, hDN]; rfl
      have hrem2 : (ser : Int) % (D : Int) = (q : Int) := by rw [hq, hDN]; rfl
      have hq64 : q < 18446744073709551616 := by have := Nat.mod_le ser (N + 1); omega
      have hne : ((D : Int) == 0) = false := by rw [beq_eq_false_iff_ne]; omega
      have hne2 : ¬ (D : Int) = 0 := by omega
      have hwA : IntKind.u64.wrap ((N : Int) + 1) = (D : Int) := by rw [IntKind.wrap_u64]; omega
      have hwB : ((N : Int) + 1) % 18446744073709551616 = (D : Int) := by omega
      have HQ64 : Hid (q < 18446744073709551616) := hidden hq64
      have HK : Hid _ := hidden K
      have HZ1 : Hid _ := hidden z
      have HKB : Hid (i * 20 + 20 < 1000000) := by
        have e : i * 20 + 20 < 1000000 := by omega
        exact e
      clear hq64 hser hokx hl1 hl2 K z hq hDN hadd hi hN hN60
      go_upto_region 8 with fail
      go_cut [12] from 34 to 46 (fun t wc => t = .int .u64 (q : Int) ∧ Below wr.heap.size wr wc)
      case first =>
        clear HQ0 HQ HL HQ64 HK HZ1 HKB
        have P0 : ∀ k, (wr.drewN k).cell? ⟨b, off + i * 5, none⟩ = some (.int .u64 (ser : Int)) := fun _ => q0
        have P1 : ∀ k, (wr.drewN k).cell? ⟨rb, 2, none⟩ = some (.int .u64 (N : Int)) := fun _ => hc
        go_quiet (fail)
        go_wp2
        go_meet
        exact ⟨rfl, below_drewN0 _ _⟩
      case rest =>
        obtain ⟨rfl, bc⟩ := hcut
        have z1 := HZ1.out.read bc
        clear q0 q1 q2 q3 q4 hbw hc hrl bc HZ1 HQ0 hrem hrem2 hwA hwB hne hne2
        obtain ⟨hbw, q1, q2, q3, q4⟩ := HQ.out _ z1.bel
        have hS1 := z1.shade 1 q rank
        clear z1
        go_wp2_with fail
        refine hS1.mono ?_
        rintro e w5 ⟨rfl, z5, k5⟩
        have HZ5 : Hid _ := hidden z5
        clear hS1 q1 q2 q3 q4 hbw k5
        obtain ⟨hbw, q1, q2, q3, q4⟩ := HQ.out _ z5.bel
        have hS2 := z5.rshade HK.out (by have := HKB.out; omega) 1 q rank
        have hK6 := HK.out.shade h (1, q) rank
        generalize p.shade h (1, q) rank = p6 at *
        clear z5 HZ5 HK
        go_wp2_with fail
        refine hS2.mono ?_
        rintro e w6 ⟨rfl, z6, k6⟩
        clear hS2 q1 q2 q3 q4 hbw k6
        obtain ⟨hbw, q1, q2, q3, q4⟩ := HQ.out _ z6.bel
        have hS3 := fun W (hB : Below w6.heap.size w6 W) => (z6.read hB).shade xn xs' rank
        have HK6 : Hid _ := hidden hK6
        have bd6 := below_drew0 w6
        have HZ6 : Hid _ := hidden z6
        clear z6 hK6
        go_upto_region 11 with fail
        go_cut [] from 65 to 76 (fun wc => P4 w0 w0.heap.size wc hb rb pb qb h h (p6.shade h (xn, xs') rank) p6 (fun _ => False))
        case first =>
          go_region_with (go_at_call 13; refine (hS3 _ bd6).mono ?_; rintro e w7 ⟨rfl, z7, k7⟩; clear k7)
          all_goals
            go_wp2
            go_meet
            exact z7
        case rest =>
          have z7 := hcut
          clear hS3 q1 q2 q3 q4 hbw bd6 HZ6 hcut
          obtain ⟨hbw, q1, q2, q3, q4⟩ := HQ.out _ z7.bel
          have bd7 := below_drew0 wc
          have hS4 := (z7.read bd7).rshade HK6.out (by have := HKB.out; omega) xn xs' rank
          have hK8 := HK6.out.shade h (xn, xs') rank
          generalize p6.shade h (xn, xs') rank = p8 at *
          have HK8 : Hid _ := hidden hK8
          clear z7 hK8 HK6 bd7
          go_upto_region 12 with fail
          go_cut [] from 77 to 88 (fun wc => P4 w0 w0.heap.size wc hb rb pb qb h h p8 p8 (fun _ => False))
          case first =>
            go_region_with (go_at_call 57; refine hS4.mono ?_; rintro e w8 ⟨rfl, z8, k8⟩; clear k8)
            all_goals
              go_wp2
              go_meet
              exact z8
          case rest =>
            have z8 := hcut
            clear hS4 q1 q2 q3 q4 hbw hcut
            obtain ⟨hbw, q1, q2, q3, q4⟩ := HQ.out _ z8.bel
            cases scan with
            | false =>
              have HE : Hid _ := hidden z8
              clear z8 q1 q2 q3
              go_wp2
              go_roundw
              case rel => exact ⟨i + 1, p8, HL.out, by go_num, HK8.out.mono (by omega), HE.out⟩
              case measure => have := HL.out; simp [intOf]; omega
            | true =>
              have hSc := z8.scan q HQ64.out
              have HOK8 : Hid h.Ok := z8.okh
              clear z8 q1 q2 q3
              go_wp2_with fail
              refine hSc.mono ?_
              rintro e w9 ⟨rfl, z9, k9⟩
              have hSr := z9.rscan HK8.out (by have := HKB.out; omega) q
              have hKA := HK8.out.scan HOK8.out q
              generalize p8.scan h q = p9 at *
              generalize scanR h p8 q = sb at *
              have HKA : Hid _ := hidden hKA
              clear hSc z9 k9 q4 hbw hKA
              go_wp2_with fail
              refine hSr.mono ?_
              rintro e wa ⟨rfl, za, ka⟩
              have HE : Hid _ := hidden za
              clear hSr za ka
              go_wp2
              go_roundw
              case rel => exact ⟨i + 1, p9, HL.out, by go_num, HKA.out.mono (by omega), HE.out⟩
              case measure => have := HL.out; simp [intOf]; omega
    · have hex : (¬ (i : Int) < (xs.length : Int)) ∨ ((i : Int) < (xs.length : Int) ∧ ¬ (i : Int) < 100) := by omega
      have HE : Hid _ := hidden z
      have HKE : Hid (PI p 10000) := K.mono (by omega)
      clear z K hlt
      rcases hex with hx | ⟨hx1, hx2⟩
      all_goals
        go_wp2
        go_ret2
        exact ⟨pb, qb, rfl, p, HE.out, HKE.out⟩
end Go.Proofs.YtlabdbfmfejkaaaDoor

namespace Go.Proofs.YtlabdbfmfejkaaaDoor
open Go.RowKit

theorem count_more {α : Type} {P Q : α → Bool} : ∀ {l : List α} (_ : ∀ x ∈ l, P x = true → Q x = true) {a : α} (_ : a ∈ l) (_ : Q a = true) (_ : P a = false), l.countP P + 1 ≤ l.countP Q
  | x :: l, h, a, ha, hq, hp => by
    have hm : l.countP P ≤ l.countP Q := List.countP_mono_left (fun y hy => h y (List.mem_cons_of_mem _ hy))
    rcases List.mem_cons.1 ha with rfl | ha
    · rw [List.countP_cons, List.countP_cons, hq, hp]
      simp
      omega
    · have ih := count_more (fun y hy => h y (List.mem_cons_of_mem _ hy)) ha hq hp
      rw [List.countP_cons, List.countP_cons]
      cases hx : P x with
      | true =>
        rw [h x (List.mem_cons_self ..) hx]
        simp
        omega
      | false => simp; omega
theorem nodup_len : ∀ (n : Nat) (l : List Nat), l.Nodup → (∀ x ∈ l, 1 ≤ x ∧ x ≤ n) → l.length ≤ n
  | 0, l, _, h => by
    cases l with
    | nil => exact Nat.le_refl _
    | cons a l => have := h a (by simp); omega
  | n + 1, l, hd, h => by
    have he := hd.erase (n + 1)
    have ih := nodup_len n (l.erase (n + 1)) he (fun x hx => by
      have h1 := (List.Nodup.mem_erase_iff hd).1 hx
      have h2 := h x h1.2
      omega)
    have hl := List.length_erase (a := n + 1) (l := l)
    split at hl <;> omega
/-- How many objects lie above. -/
def abN (cs : List Oc) (s : Nat) : Nat := cs.countP (fun o => decide (s < o.s))
theorem ab_some {cs : List Oc} {s : Nat} {o : Oc} (h : aboveC cs s = some o) : abN cs o.s + 1 ≤ abN cs s := by
  obtain ⟨h1, h2⟩ := above_mem h
  refine count_more (fun x _ hx => ?_) h1 (decide_eq_true h2) (decide_eq_false (Nat.lt_irrefl _))
  simp only [decide_eq_true_eq] at hx ⊢
  omega
/-- How much is left of a row. -/
def unL (n : Nat) (u : Und) : Nat := 1 + u.waits.length + (n - u.row.length)
def leftC (n : Nat) (h : HSt) (r : RSt) : Nat := abN h.cs r.place * (n + 2) + (match r.und with
  | none => 0
  | some u => unL n u)
/-- What a row keeps. -/
structure UI (u : Und) (n : Nat) : Prop where
  nd : u.row.Nodup
  rg : ∀ s ∈ u.row, 1 ≤ s ∧ s ≤ n
def RI (r : RSt) (n : Nat) : Prop := ∀ u, r.und = some u → UI u n
section
variable {h : HSt} {p : PSt} {t : Int} {u : Und} {n : Nat} {r : RSt}
theorem UI.put (H : UI u n) {s : Nat} (hs : 1 ≤ s ∧ s ≤ n) : UI (u.put s) n ∧ unL n (u.put s) = unL n u := by
  unfold Und.put
  split
  · exact ⟨H, rfl⟩
  · next hn =>
    have hnd : (u.row ++ [s]).Nodup := by
      rw [List.nodup_append]
      refine ⟨H.nd, by simp, fun a ha b hb => ?_⟩
      rw [List.mem_singleton] at hb
      subst hb
      exact fun e => hn (e ▸ ha)
    have hrg : ∀ x ∈ u.row ++ [s], 1 ≤ x ∧ x ≤ n := fun x hx => by
      rcases List.mem_append.1 hx with hx | hx
      · exact H.rg x hx
      · rw [List.mem_singleton] at hx
        subst hx
        exact hs
    refine ⟨⟨hnd, hrg⟩, ?_⟩
    have hl := nodup_len n _ hnd hrg
    simp only [List.length_append, List.length_singleton] at hl
    unfold unL
    simp only [List.length_append, List.length_singleton]
    omega
theorem UI.look (hin : ∀ k o, getC h.cs k = some o → 1 ≤ k ∧ k ≤ n) (H : UI u n) (x : Int × Nat) : UI (u.look h p t x) n ∧ unL n (u.look h p t x) = unL n u := by
  unfold Und.look
  split
  · split
    · next hs =>
      obtain ⟨o, ho⟩ := sus_there hs
      exact H.put (hin _ _ ho)
    · exact ⟨H, rfl⟩
  · split
    · exact ⟨⟨H.nd, H.rg⟩, rfl⟩
    · exact ⟨H, rfl⟩
theorem UI.all (hin : ∀ k o, getC h.cs k = some o → 1 ≤ k ∧ k ≤ n) (l : List (Int × Nat)) : ∀ {u : Und}, UI u n → UI (u.all h p t l) n ∧ unL n (u.all h p t l) = unL n u := by
  unfold Und.all
  induction l with
  | nil => intro u H; exact ⟨H, rfl⟩
  | cons x l ih =>
    intro u H
    rw [List.foldl_cons]
    have h1 := H.look hin (p := p) (t := t) x
    have h2 := ih h1.1
    exact ⟨h2.1, h2.2.trans h1.2⟩
theorem step_leftC (hin : ∀ k o, getC h.cs k = some o → 1 ≤ k ∧ k ≤ n) (ok : h.Ok) (H : RI r n) : RI (r.step h p).2 n ∧ ((r.step h p).1 = true → leftC n h (r.step h p).2 + 1 ≤ leftC n h r) ∧ ((r.step h p).1 = false → (r.step h p).2 = r ∧ r.und = none ∧ aboveC h.cs r.place = none) := by
  have hend : RI r.endS n := fun u e => by
    unfold RSt.endS at e
    cases hu : r.und with
    | none => rw [hu] at e; exact absurd (hu.symm.trans e) (by simp)
    | some v => rw [hu] at e; cases e
  have hmove : ∀ o, aboveC h.cs r.place = some o → RI (moveS h p r o) n ∧ leftC n h (moveS h p r o) + 1 ≤ leftC n h r := fun o ha => by
    have hm := above_mem ha
    have hr := hin o.s o (getC_of_mem ok hm.1)
    have hab := ab_some ha
    have hmul : abN h.cs o.s * (n + 2) + (n + 2) ≤ abN h.cs r.place * (n + 2) := by
      have := Nat.mul_le_mul_right (n + 2) hab
      rw [Nat.add_mul, Nat.one_mul] at this
      exact this
    unfold moveS
    split
    · refine ⟨fun u e => ?_, ?_⟩
      · have e' : u = Und.new o.s := by simpa using e.symm
        subst e'
        exact ⟨by simp [Und.new], fun s hs => by
          have e : s = o.s := by simpa [Und.new] using hs
          subst e
          exact hr⟩
      · unfold leftC unL
        simp only [Und.new, List.length_singleton]
        omega
    · refine ⟨H, ?_⟩
      unfold leftC
      simp only
      omega
  unfold RSt.step followR
  cases hu : r.und with
  | none =>
    simp only
    cases ha : aboveC h.cs r.place with
    | some o => exact ⟨(hmove o ha).1, fun _ => (hmove o ha).2, fun e => by cases e⟩
    | none =>
      refine ⟨hend, (fun e => by cases e), fun _ => ⟨?_, trivial, by first | rfl | trivial⟩⟩
      unfold RSt.endS
      rw [hu]
  | some u =>
    have hU := H u hu
    simp only
    cases hw : u.waits.getLast? with
    | none =>
      simp only
      cases ha : aboveC h.cs r.place with
      | some o => exact ⟨(hmove o ha).1, fun _ => (hmove o ha).2, fun e => by cases e⟩
      | none =>
        refine ⟨hend, fun _ => ?_, fun e => by cases e⟩
        unfold RSt.endS leftC
        rw [hu]
        simp only [unL]
        omega
    | some s =>
      have hc : UI u.cut n := ⟨hU.nd, hU.rg⟩
      have ha := hc.all hin (p := p) (t := r.sus) (refsC h.cs s)
      refine ⟨fun v e => ?_, fun _ => ?_, fun e => by cases e⟩
      · have e' : v = u.follow h p r.sus s := by simpa using e.symm
        subst e'
        exact ha.1
      · obtain ⟨l, hl⟩ := List.getLast?_eq_some_iff.1 hw
        have h2 : unL n (u.follow h p r.sus s) = unL n u.cut := ha.2
        have h3 : unL n u.cut + 1 = unL n u := by
          unfold unL Und.cut
          simp only [List.length_dropLast]
          rw [hl]
          simp
          omega
        unfold leftC
        rw [hu]
        simp only
        omega
end
theorem ab_le (cs : List Oc) (s : Nat) : abN cs s ≤ cs.length := List.countP_le_length
theorem left_newC {n : Nat} {h : HSt} (hl : h.cs.length ≤ n) (t : Int) : leftC n h (RSt.new t) ≤ n * (n + 2) := by
  show abN h.cs 0 * (n + 2) + 0 ≤ n * (n + 2)
  exact Nat.mul_le_mul_right _ (Nat.le_trans (ab_le _ _) hl)
theorem ri_new (t : Int) (n : Nat) : RI (RSt.new t) n := fun u e => by cases e
end Go.Proofs.YtlabdbfmfejkaaaDoor

namespace Go.Proofs.YtlabdbfmfejkaaaDoor
open Go.RowKit

section
variable {w0 w w' : World} {B hb rb pb qb : Nat} {h1 h2 h' : HSt} {p1 p2 p' : PSt} {X : Nat → Prop}
theorem P4.ph (x : P4 w0 B w hb rb pb qb h1 h2 p1 p2 X) : PH w0 B w pb hb h1 p1 X := by
  obtain ⟨F, G, P, Q, hp, rp, pn, qn, ap⟩ := x.ex
  exact ⟨⟨F, P, hp, pn, fun k hk => ⟨(ap.aF k hk).1, (ap.aF k hk).2.2, ap.fp k hk⟩, fun k hk => (ap.aP k hk).2.2⟩, x.bel, x.le, x.xs, x.pos⟩
theorem P4.fresh (x : P4 w0 B w hb rb pb qb h1 h2 p1 p2 X) {S : Nat → Prop} (hk : Kept w w' S) (hS : ∀ k, S k → k < w.heap.size → X k ∧ B ≤ k) : P4 w0 B w' hb rb pb qb h1 h2 p1 p2 (fun k => X k ∨ (w.heap.size ≤ k ∧ k < w'.heap.size)) := by
  have hk' : Kept w w' (fun k => X k ∧ B ≤ k) := hk.mono (fun k hl e => hS k e hl)
  have hs := hk.size
  obtain ⟨F, G, P, Q, hp, rp, pn, qn, ap⟩ := x.ex
  have hpos := x.pos
  have y := x.other hk' (fun k e => e)
  refine ⟨⟨F, G, P, Q, hp.kept hk' (fun e => by have := e.2; omega) (fun k a b => (ap.aF k a).2.2 b.1), rp.kept hk' (fun k a b => (ap.aG k a).2.2 b.1), pn.kept hk' (fun k a b => (ap.aP k a).2.2 b.1), qn.kept hk' (fun k a b => (ap.aQ k a).2.2 b.1), (ap.turn (Y := fun k => X k ∨ (w.heap.size ≤ k ∧ k < w'.heap.size)) (fun k _ hl e => ?_)).grow hs⟩, y.bel, y.le, fun k e => ?_, x.pos⟩
  · rcases e with e | e
    · exact e
    · omega
  · rcases e with e | e
    · exact y.xs k e
    · exact e.2
theorem hos_p4 (w0 : World) (B hb rb pb qb : Nat) (h1 h2 : HSt) (p1 p2 : PSt) : Hos (fun w X => P4 w0 B w hb rb pb qb h1 h2 p1 p2 X) w0 B pb hb h1 p1 :=
  ⟨fun _ _ x => x.ph, fun _ _ _ _ x hk hT => x.fresh hk hT, fun _ _ Y x hY => x.off Y hY⟩
end
theorem sq_bound {n : Nat} (hn : n ≤ 40) : n * (n + 2) ≤ 1680 ∧ n * (n + 2) + 1 = (n + 1) * (n + 1) ∧ n * (n + 2) ≤ (n + 1) * (n + 2) := by
  refine ⟨Nat.le_trans (Nat.mul_le_mul hn (by omega : n + 2 ≤ 42)) (by omega), ?_, Nat.mul_le_mul_right _ (by omega)⟩
  rw [Nat.add_mul, Nat.mul_add, Nat.mul_add]
  omega
theorem wrap_midC (x : Nat) (h1 : x < 1000000) : wrap64 (x : Int) = (x : Int) ∧ IntKind.i64.wrap (x : Int) = (x : Int) := by
  refine ⟨by rw [wrap64]; omega, by rw [IntKind.wrap_i64]; omega⟩
theorem m2_inC {g : Gr} {n : Nat} {h : HSt} (m : M2 g n n 0 h) (hok : h.Ok) : ∀ k o, getC h.cs k = some o → 1 ≤ k ∧ k ≤ n := by
  intro k o hk
  obtain ⟨ho, hs⟩ := getC_mem hk
  have hle := hok.le o ho
  rw [hs, m.last] at hle
  exact hle
theorem ends_arith {k l E L M : Nat} (h : k + l ≤ E) (H : E ≤ L ∧ E + 1 = M ∧ E ≤ 1680) : k ≤ E ∧ 7 * k + 7 ≤ 900000 ∧ (k : Int) ≤ (L : Int) ∧ (k : Int) ≤ (M : Int) := by
  omega
theorem ends_more {k l l' E : Nat} (h : k + l ≤ E) (h' : l' < l) : k + 1 + l' ≤ E := by omega
set_option maxRecDepth 20000 in
set_option maxHeartbeats 2000000 in
theorem reachEnds_any {w : World} {vr vo vi vl : Value} {g : Gr} {xs : List Way} (x : GI w vr vo vi g) (hT : TB w) (hl : WS w vl 5 cWay xs) (hR : ∀ y ∈ xs, y.Ok) :
    Calls Tryd.prog 6 #[.agg #[vr, vo, vi], vl] w fun e w' => e = .returned (.bool true) ∧ Below w.heap.size w w' := by
  obtain ⟨a1, c1, a2, c2, a3, c3, rfl, rfl, rfl⟩ := x.shape
  obtain ⟨lo, lc, rfl, _, _⟩ := hl.slice
  have hA : ∀ o, Below w.heap.size w (w.alloc o) := fun o => bel_alloc w o
  have hHp := fun o => heaps_at (x.below (hA o)) (hT.below (hA o)) 40 (by omega)
  have HL : Hid _ := hidden hl
  have HRW : Hid _ := hidden hR
  clear x hl hR
  go_enter Tryd.func6, Tryd.ntmps6
  go_wp2_with fail
  refine (hHp _).mono ?_
  rintro e w1 ⟨hb, rb, h, rfl, y1, m1⟩
  obtain ⟨wA, hwA⟩ : ∃ z, z = w.alloc (.cells #[.slice a1 g.refs.length c1, .slice a2 g.out.length c2, .slice a3 g.inn.length c3] 26) := ⟨_, rfl⟩
  rw [← hwA] at y1
  have hbA : Below w.heap.size w wA := by rw [hwA]; exact hA _
  have hTA : TB wA := hT.below hbA
  have HWL : Hid _ := hidden (HL.out.below hbA)
  clear hHp hwA hA hT
  have hok := y1.ok
  obtain ⟨N, hN⟩ : ∃ N, N = min g.refs.length 40 := ⟨_, rfl⟩
  rw [← hN] at m1
  have hla : h.last = N := m1.last
  have hN40 : N ≤ 40 := by omega
  have HIN : Hid (∀ k o, getC h.cs k = some o → 1 ≤ k ∧ k ≤ N) := m2_inC m1 hok
  have HRF : Hid (∀ s, ∀ x ∈ refsC h.cs s, x.2 < 18446744073709551616) := m2_u64 m1 hok (by omega)
  have HLN : Hid (h.cs.length ≤ N) := Nat.le_of_eq m1.len
  have HOK : Hid h.Ok := hok
  have HLA : Hid (h.last = N) := hla
  clear m1 hN hok
  go_wp2_with fail
  refine (reknown_any _ (hTA.below (y1.bel.mono (Nat.le_refl _)))).mono ?_
  rintro e w2 ⟨rfl, b2⟩
  have hPt := painted_any (y1.read b2) HWL.out HRW.out (by omega)
  clear y1 b2 hTA hla HWL HRW HL
  go_wp2_with fail
  refine hPt.mono ?_
  rintro e w3 ⟨pb, qb, p, rfl, z3, K3⟩
  have H := hos_p4 wA wA.heap.size hb rb pb qb h h p p
  have hNw := H.rnew z3
  have hrc := z3.last
  rw [HLA.out] at hrc
  have HNM : Hid (∀ e ∈ p.me, namesB e.1 = true) := K3.nm
  clear hPt z3 K3
  go_wp2_with fail
  refine hNw.mono ?_
  rintro e w4 ⟨rfl, x4, b4⟩
  generalize w3.heap.size = xb at *
  have hBe := x4.begin H 0
  clear hNw x4 b4 hrc
  go_wp2_with fail
  refine hBe.mono ?_
  rintro e w5 ⟨rfl, x5, k5⟩
  have hrc := (x5.out H).last
  rw [HLA.out] at hrc
  have hrl := cell_lt hrc
  have HX5 : Hid _ := hidden x5
  obtain ⟨s1, s2, s3⟩ := sq_bound hN40
  obtain ⟨E, hE⟩ : ∃ E, E = N * (N + 2) := ⟨_, rfl⟩
  obtain ⟨D1, hD1⟩ : ∃ D, D = N + 1 := ⟨_, rfl⟩
  obtain ⟨D2, hD2⟩ : ∃ D, D = N + 2 := ⟨_, rfl⟩
  obtain ⟨L, hLe⟩ : ∃ L, L = D1 * D2 := ⟨_, rfl⟩
  obtain ⟨M, hMe⟩ : ∃ M, M = D1 * D1 := ⟨_, rfl⟩
  have a1' : (N : Int) + 1 = (D1 : Int) := by omega
  have a2' : (N : Int) + 2 = (D2 : Int) := by omega
  have a3' : (D1 : Int) * (D2 : Int) = (L : Int) := by rw [hLe]; simp
  have a4' : (D1 : Int) * (D1 : Int) = (M : Int) := by rw [hMe]; simp
  rw [← hE, ← hD1] at s2
  rw [← hE, ← hD1, ← hD2] at s3
  rw [← hMe] at s2
  rw [← hLe] at s3
  rw [← hE] at s1
  have HS : Hid (E ≤ L ∧ E + 1 = M ∧ E ≤ 1680) := ⟨s3, s2, s1⟩
  have HT0 : Hid (leftC N h (RSt.new 0) ≤ E) := by
    have := left_newC HLN.out 0
    rw [hE]
    exact this
  have hL2 : L ≤ 41 * 42 := by rw [hLe]; exact Nat.mul_le_mul (by omega) (by omega)
  have hM2 : M ≤ 41 * 41 := by rw [hMe]; exact Nat.mul_le_mul (by omega) (by omega)
  have hD1s : D1 ≤ 41 := by omega
  have hD2s : D2 ≤ 42 := by omega
  have hNi : (N : Int) ≤ 40 := by omega
  clear hBe x5 k5 s1 s2 s3 hE hD1 hD2 hLe hMe
  have q1 : D1 < 1000000 := by omega
  have q2 : D2 < 1000000 := by omega
  have q3 : L < 1000000 := by omega
  have q4 : M < 1000000 := by omega
  have q5 : N < 1000000 := by omega
  obtain ⟨b1, b2⟩ := wrap_midC D1 q1
  obtain ⟨b3, b4⟩ := wrap_midC D2 q2
  obtain ⟨b5, b6⟩ := wrap_midC L q3
  obtain ⟨b7, b8⟩ := wrap_midC M q4
  obtain ⟨b9, b10⟩ := wrap_midC N q5
  clear hL2 hM2 hD1s hD2s q1 q2 q3 q4 q5
  go_wp2
  go_loopw [12] (fun t wr => ∃ (k : Nat) (r : RSt), t = .int .i64 (k : Int) ∧ RcS (fun w X => P4 wA wA.heap.size w hb rb pb qb h h p p X) wr wA.heap.size xb hb pb r (fun _ => False) ∧ RI r N ∧ RB r (7 * k) ∧ k + leftC N h r ≤ E) (fun t _ => E + 1 - (intOf t).toNat)
  case atStart => exact ⟨0, RSt.new 0, rfl, HX5.out, ri_new 0 N, RB.new 0, by have := HT0.out; omega⟩
  case round =>
    clear HX5 hrc hrl
    obtain ⟨k, r, rfl, x, ri, rb', hk⟩ := hrel
    obtain ⟨hke, hk7, hkl, hkm⟩ := ends_arith hk HS.out
    have hS := x.step H HNM.out HRF.out rb' (Nat.le_trans (Nat.le_add_right _ 7) hk7)
    have hq := step_leftC (p := p) HIN.out HOK.out ri
    have hbs := rb'.step HOK.out HNM.out
    generalize r.step h p = R at *
    obtain ⟨b, r2⟩ := R
    simp only at hS hq hbs
    cases b with
    | true =>
      have HM : Hid (k + 1 + leftC N h r2 ≤ E) := by
        exact ends_more hk (hq.2.1 rfl)
      have HRI : Hid _ := hidden hq.1
      have HRB : Hid (RB r2 (7 * (k + 1))) := hbs.mono (Nat.le_of_eq (by rw [Nat.mul_add]))
      have HKE : Hid (k ≤ E) := hke
      clear x ri rb' hk hke hq hbs
      go_wp2_with fail
      refine hS.mono ?_
      rintro e w6 ⟨rfl, x6, k6⟩
      have HX6 : Hid _ := hidden x6
      clear hS x6 k6
      go_wp2
      go_roundw
      case rel => exact ⟨k + 1, r2, by go_num, HX6.out, HRI.out, HRB.out, HM.out⟩
      case measure => have := HKE.out; simp [intOf]; omega
    | false =>
      obtain ⟨e1, e2, e3⟩ := hq.2.2 rfl
      subst e1
      have HRB : Hid _ := hidden hbs
      have HRI : Hid _ := hidden ri
      have HE23 : Hid (r2.und = none ∧ aboveC h.cs r2.place = none) := ⟨e2, e3⟩
      have HK7 : Hid (7 * k + 7 ≤ 900000) := by
        exact hk7
      clear x ri rb' hk hke hq hbs e2 e3
      go_wp2_with fail
      refine hS.mono ?_
      rintro e w6 ⟨rfl, x6, k6⟩
      have hS2 := x6.step H HNM.out HRF.out HRB.out HK7.out
      have hs2 : (r2.step h p).1 = false := by
        unfold RSt.step followR
        rw [HE23.out.1]
        simp only
        rw [HE23.out.2]
        rfl
      rw [hs2] at hS2
      clear hS x6 k6 hs2
      go_wp2_with fail
      refine hS2.mono ?_
      rintro e w7 ⟨rfl, x7, k7⟩
      have HB : Hid _ := hidden (hbA.trans (((x7.out H).bel).mono hbA.size))
      clear hS2 x7 k7
      go_wp2
      go_ret
      exact ⟨rfl, HB.out⟩
end Go.Proofs.YtlabdbfmfejkaaaDoor

